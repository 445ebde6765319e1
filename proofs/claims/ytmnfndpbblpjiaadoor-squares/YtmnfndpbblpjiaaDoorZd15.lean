/- The program's readNumber. -/
import Derived.Deep.AppendLies
import Derived.Test.YtmnfndpbblpjiaaDoorZd12
import Derived.Test.YtmnfndpbblpjiaaDoorZd14
import Derived.Test.YtmnfndpbblpjiaaDoorZd08
import Derived.Test.YtmnfndpbblpjiaaDoorZd02
import Derived.Test.YtmnfndpbblpjiaaDoorZd07
import Derived.Test.YtmnfndpbblpjiaaDoorZd10
namespace Go.Proofs.YtmnfndpbblpjiaaDoor
open Go.RowKit Pu

/-- What readNumber answers. -/
def NumRd (w : World) (rb : Nat) (s : ByteArray) (k : Nat) (e : Ending) (w' : World) : Prop := Mod (fun q => q = rb) w w' ∧
  ((∃ n p, rdN s k = some (n, p) ∧ e = .returned (.tuple #[.int .i64 n, .bool true]) ∧ Rd w' rb s p) ∨ (rdN s k = none ∧ e = .returned (.tuple #[.int .i64 0, .bool false])))

/-- The digits behind the sign. -/
def tailN (s : ByteArray) (k : Nat) (neg : Bool) : Option (Int × Nat) :=
  if 49 ≤ g s k ∧ g s k ≤ 57 then
    (if 48 ≤ g s (k + 1) ∧ g s (k + 1) ≤ 57 then some ((if neg then -((10 * (g s k - 48) + (g s (k + 1) - 48) : Nat) : Int) else ((10 * (g s k - 48) + (g s (k + 1) - 48) : Nat) : Int)), k + 2) else some ((if neg then -((g s k - 48 : Nat) : Int) else ((g s k - 48 : Nat) : Int)), k + 1))
  else none
theorem rdN_zero {s : ByteArray} {k : Nat} (h : g s k = 48) : rdN s k = some (0, k + 1) := by unfold rdN; rw [if_pos h]
theorem rdN_neg {s : ByteArray} {k : Nat} (h : g s k = 45) : rdN s k = tailN s (k + 1) true := by unfold rdN tailN; rw [if_neg (by omega), if_pos h]; simp
theorem rdN_pos {s : ByteArray} {k : Nat} (h : g s k ≠ 48) (h2 : g s k ≠ 45) : rdN s k = tailN s k false := by unfold rdN tailN; rw [if_neg h, if_neg h2]; simp

set_option maxHeartbeats 800000 in
set_option maxRecDepth 4000 in
theorem readnum_any (rb : Nat) (s : ByteArray) (k : Nat) (w : World) (hs : s.size ≤ 300) (hk : k ≤ s.size) (hr : Rd w rb s k) :
    Calls Tryd.prog 30 #[.pointer (some ⟨rb, 0, none⟩)] w (NumRd w rb s k) := by
  by_cases h48 : g s k = 48
  · have HR : Hid _ := rdN_zero h48
    go_enter Tryd.func30, Tryd.ntmps30
    go_wp2_with fail
    refine (take_yes rb s k 48 w hs hk hr (by omega) h48).mono ?_
    rintro e w1 ⟨rfl, hr1, hk1, hm1⟩
    go_wp2_with fail
    go_ret2
    exact ⟨hm1, .inl ⟨0, k + 1, HR.out, rfl, hr1⟩⟩
  · by_cases h45 : g s k = 45
    · have HR : Hid (rdN s k = tailN s (k + 1) true) := rdN_neg h45
      go_enter Tryd.func30, Tryd.ntmps30
      go_wp2_with fail
      refine (take_no rb s k 48 w hs hk hr h48).mono ?_
      rintro e w1 ⟨rfl, hr1, hm1⟩
      go_wp2_with fail
      refine (take_yes rb s k 45 w1 hs hk hr1 (by omega) h45).mono ?_
      rintro e w2 ⟨rfl, hr2, hkk, hm2'⟩
      have hm2 := hm1.trans hm2'
      clear hm1 hm2' hr1 h48 h45
      generalize k + 1 = kk at *
      have hpk := fun (w : World) (j : Nat) (hj : j ≤ s.size) (h : Rd w rb s j) => peek_any rb s j w hs hj h
      go_wp2_with fail
      refine (hpk w2 kk hkk hr2).mono ?_
      rintro e w3 ⟨rfl, n3, rfl⟩
      have hm3 : Mod (fun q => q = rb) w (w2.drewN n3) := hm2.drewN n3
      have hr3 := hr2.drewN n3
      have gl := g_lt s kk
      have gl2 := g_lt s (kk + 1)
      clear hm2 hr2
      generalize w2.drewN n3 = w3 at *
      by_cases ha : 49 ≤ g s kk ∧ g s kk ≤ 57
      · have hkl : kk < s.size := in_of (by omega)
        have q1 : ¬ (g s kk : Int) < 49 := by omega
        have q2 : ¬ (57 : Int) < (g s kk : Int) := by omega
        have t1 := hr3.c1
        have f1 := hr3.f1
        have hr4 := hr3.set (kk + 1)
        have hm4 : Mod (fun q => q = rb) w (w3.setCell ⟨rb, 1, none⟩ (.int .i64 ((kk + 1 : Nat) : Int))) := hm3.setCell ⟨rb, 1, none⟩ _ (fun _ => rfl)
        have e4 : ((kk + 1 : Nat) : Int) = (kk : Int) + 1 := by omega
        rw [e4] at hr4 hm4
        have HX : Hid _ := And.intro hr4 hm4
        have w5 : IntKind.u8.wrap ((g s kk : Int) - 48) = (g s kk : Int) - 48 := by simp [IntKind.wrap, IntKind.signed, IntKind.bits]; omega
        have w6 : IntKind.i64.wrap ((g s kk : Int) - 48) = (g s kk : Int) - 48 := by simp [IntKind.wrap, IntKind.signed, IntKind.bits]; omega
        clear hr4 hm4 e4
        go_wp2_with fail
        obtain ⟨hr4, hm4⟩ := HX.out
        refine (hpk _ (kk + 1) (by omega) hr4).mono ?_
        rintro e w5' ⟨rfl, n5, rfl⟩
        have hm5 := hm4.drewN n5
        have hr5 := hr4.drewN n5
        clear hr4 hm4 HX t1 f1 hr3 hm3
        generalize (w3.setCell ⟨rb, 1, none⟩ (.int .i64 ((kk : Int) + 1))).drewN n5 = w6' at *
        by_cases hb : 48 ≤ g s (kk + 1) ∧ g s (kk + 1) ≤ 57
        · have q3 : (48 : Int) ≤ (g s (kk + 1) : Int) := by omega
          have q4 : (g s (kk + 1) : Int) ≤ 57 := by omega
          have hkl2 : kk + 1 < s.size := in_of (by omega)
          have t1 := hr5.c1
          have f1 := hr5.f1
          have hr7 := hr5.set (kk + 2)
          have hm7 : Mod (fun q => q = rb) w (w6'.setCell ⟨rb, 1, none⟩ (.int .i64 ((kk + 2 : Nat) : Int))) := hm5.setCell ⟨rb, 1, none⟩ _ (fun _ => rfl)
          have e4 : ((kk + 2 : Nat) : Int) = (kk : Int) + 1 + 1 := by omega
          rw [e4] at hr7 hm7
          have HX : Hid _ := And.intro hr7 hm7
          have w7 : IntKind.u8.wrap ((g s (kk + 1) : Int) - 48) = (g s (kk + 1) : Int) - 48 := by simp [IntKind.wrap, IntKind.signed, IntKind.bits]; omega
          have w8 : IntKind.i64.wrap ((g s (kk + 1) : Int) - 48) = (g s (kk + 1) : Int) - 48 := by simp [IntKind.wrap, IntKind.signed, IntKind.bits]; omega
          have HT : Hid (tailN s kk true = some (-((10 : Int) * ((g s kk : Int) - 48) + ((g s (kk + 1) : Int) - 48)), kk + 2)) := show _ = _ by
            unfold tailN; rw [if_pos ha, if_pos hb]; simp; omega
          clear hr7 hm7 hm5 hr5 e4
          go_wp2_with fail
          go_ret2
          exact ⟨HX.out.2, .inl ⟨_, kk + 2, HR.out.trans HT.out, rfl, HX.out.1⟩⟩
        · have HT : Hid (tailN s kk true = some (-((g s kk : Int) - 48), kk + 1)) := show _ = _ by
            unfold tailN; rw [if_pos ha, if_neg hb]; simp; omega
          by_cases hb1 : 48 ≤ g s (kk + 1)
          · have q3 : (48 : Int) ≤ (g s (kk + 1) : Int) := by omega
            have q4 : ¬ (g s (kk + 1) : Int) ≤ 57 := by omega
            go_wp2_with fail
            go_ret2
            exact ⟨hm5, .inl ⟨_, kk + 1, HR.out.trans HT.out, rfl, hr5⟩⟩
          · have q3 : ¬ (48 : Int) ≤ (g s (kk + 1) : Int) := by omega
            go_wp2_with fail
            go_ret2
            exact ⟨hm5, .inl ⟨_, kk + 1, HR.out.trans HT.out, rfl, hr5⟩⟩
      · have HT : Hid (tailN s kk true = none) := show _ = _ by unfold tailN; rw [if_neg ha]
        by_cases ha1 : g s kk < 49
        · have q1 : (g s kk : Int) < 49 := by omega
          go_wp2_with fail
          go_ret2
          exact ⟨hm3, .inr ⟨HR.out.trans HT.out, rfl⟩⟩
        · have q1 : ¬ (g s kk : Int) < 49 := by omega
          have q2 : (57 : Int) < (g s kk : Int) := by omega
          go_wp2_with fail
          go_ret2
          exact ⟨hm3, .inr ⟨HR.out.trans HT.out, rfl⟩⟩
    · have HR : Hid (rdN s k = tailN s k false) := rdN_pos h48 h45
      go_enter Tryd.func30, Tryd.ntmps30
      go_wp2_with fail
      refine (take_no rb s k 48 w hs hk hr h48).mono ?_
      rintro e w1 ⟨rfl, hr1, hm1⟩
      go_wp2_with fail
      refine (take_no rb s k 45 w1 hs hk hr1 h45).mono ?_
      rintro e w2 ⟨rfl, hr2, hm2'⟩
      have hm2 := hm1.trans hm2'
      clear hm1 hm2' hr1 h48 h45
      have hpk := fun (w : World) (j : Nat) (hj : j ≤ s.size) (h : Rd w rb s j) => peek_any rb s j w hs hj h
      go_wp2_with fail
      refine (hpk w2 k hk hr2).mono ?_
      rintro e w3 ⟨rfl, n3, rfl⟩
      have hm3 : Mod (fun q => q = rb) w (w2.drewN n3) := hm2.drewN n3
      have hr3 := hr2.drewN n3
      have gl := g_lt s k
      have gl2 := g_lt s (k + 1)
      clear hm2 hr2
      generalize w2.drewN n3 = w3 at *
      by_cases ha : 49 ≤ g s k ∧ g s k ≤ 57
      · have hkl : k < s.size := in_of (by omega)
        have q1 : ¬ (g s k : Int) < 49 := by omega
        have q2 : ¬ (57 : Int) < (g s k : Int) := by omega
        have t1 := hr3.c1
        have f1 := hr3.f1
        have hr4 := hr3.set (k + 1)
        have hm4 : Mod (fun q => q = rb) w (w3.setCell ⟨rb, 1, none⟩ (.int .i64 ((k + 1 : Nat) : Int))) := hm3.setCell ⟨rb, 1, none⟩ _ (fun _ => rfl)
        have e4 : ((k + 1 : Nat) : Int) = (k : Int) + 1 := by omega
        rw [e4] at hr4 hm4
        have HX : Hid _ := And.intro hr4 hm4
        have w5 : IntKind.u8.wrap ((g s k : Int) - 48) = (g s k : Int) - 48 := by simp [IntKind.wrap, IntKind.signed, IntKind.bits]; omega
        have w6 : IntKind.i64.wrap ((g s k : Int) - 48) = (g s k : Int) - 48 := by simp [IntKind.wrap, IntKind.signed, IntKind.bits]; omega
        clear hr4 hm4 e4
        go_wp2_with fail
        obtain ⟨hr4, hm4⟩ := HX.out
        refine (hpk _ (k + 1) (by omega) hr4).mono ?_
        rintro e w5' ⟨rfl, n5, rfl⟩
        have hm5 := hm4.drewN n5
        have hr5 := hr4.drewN n5
        clear hr4 hm4 HX t1 f1 hr3 hm3
        generalize (w3.setCell ⟨rb, 1, none⟩ (.int .i64 ((k : Int) + 1))).drewN n5 = w6' at *
        by_cases hb : 48 ≤ g s (k + 1) ∧ g s (k + 1) ≤ 57
        · have q3 : (48 : Int) ≤ (g s (k + 1) : Int) := by omega
          have q4 : (g s (k + 1) : Int) ≤ 57 := by omega
          have hkl2 : k + 1 < s.size := in_of (by omega)
          have t1 := hr5.c1
          have f1 := hr5.f1
          have hr7 := hr5.set (k + 2)
          have hm7 : Mod (fun q => q = rb) w (w6'.setCell ⟨rb, 1, none⟩ (.int .i64 ((k + 2 : Nat) : Int))) := hm5.setCell ⟨rb, 1, none⟩ _ (fun _ => rfl)
          have e4 : ((k + 2 : Nat) : Int) = (k : Int) + 1 + 1 := by omega
          rw [e4] at hr7 hm7
          have HX : Hid _ := And.intro hr7 hm7
          have w7 : IntKind.u8.wrap ((g s (k + 1) : Int) - 48) = (g s (k + 1) : Int) - 48 := by simp [IntKind.wrap, IntKind.signed, IntKind.bits]; omega
          have w8 : IntKind.i64.wrap ((g s (k + 1) : Int) - 48) = (g s (k + 1) : Int) - 48 := by simp [IntKind.wrap, IntKind.signed, IntKind.bits]; omega
          have HT : Hid (tailN s k false = some ((10 : Int) * ((g s k : Int) - 48) + ((g s (k + 1) : Int) - 48), k + 2)) := show _ = _ by
            unfold tailN; rw [if_pos ha, if_pos hb]; simp; omega
          clear hr7 hm7 hm5 hr5 e4
          go_wp2_with fail
          go_ret2
          exact ⟨HX.out.2, .inl ⟨_, k + 2, HR.out.trans HT.out, rfl, HX.out.1⟩⟩
        · have HT : Hid (tailN s k false = some ((g s k : Int) - 48, k + 1)) := show _ = _ by
            unfold tailN; rw [if_pos ha, if_neg hb]; simp; omega
          by_cases hb1 : 48 ≤ g s (k + 1)
          · have q3 : (48 : Int) ≤ (g s (k + 1) : Int) := by omega
            have q4 : ¬ (g s (k + 1) : Int) ≤ 57 := by omega
            go_wp2_with fail
            go_ret2
            exact ⟨hm5, .inl ⟨_, k + 1, HR.out.trans HT.out, rfl, hr5⟩⟩
          · have q3 : ¬ (48 : Int) ≤ (g s (k + 1) : Int) := by omega
            go_wp2_with fail
            go_ret2
            exact ⟨hm5, .inl ⟨_, k + 1, HR.out.trans HT.out, rfl, hr5⟩⟩
      · have HT : Hid (tailN s k false = none) := show _ = _ by unfold tailN; rw [if_neg ha]
        by_cases ha1 : g s k < 49
        · have q1 : (g s k : Int) < 49 := by omega
          go_wp2_with fail
          go_ret2
          exact ⟨hm3, .inr ⟨HR.out.trans HT.out, rfl⟩⟩
        · have q1 : ¬ (g s k : Int) < 49 := by omega
          have q2 : (57 : Int) < (g s k : Int) := by omega
          go_wp2_with fail
          go_ret2
          exact ⟨hm3, .inr ⟨HR.out.trans HT.out, rfl⟩⟩
end Go.Proofs.YtmnfndpbblpjiaaDoor

/- The program's parseInputs. -/
namespace Go.Proofs.YtmnfndpbblpjiaaDoor
open Go.RowKit Pu

/-- What has been read: more may follow, or the reading is over. -/
def PIx (s : ByteArray) (more : Bool) (f : Nat) (l : List Int) : Prop :=
  (more = true → inpSt s f = some (f, l) ∧ s.size ≠ 0) ∧ (more = false → (f = s.size → inps s = some l) ∧ (f ≠ s.size → inps s = none))
def moreOf : Value → Nat
  | .bool true => 1
  | _ => 0

set_option maxHeartbeats 800000 in
set_option maxRecDepth 4000 in
theorem pinputs_any (s : ByteArray) (w : World) (hs : s.size ≤ 140) : Calls Tryd.prog 24 #[.string s] w (InpEnd w (inps s)) := by
  obtain ⟨i0, hii, hz0, hz1, hz2⟩ := info_parts Tryd.info3
  have hR0 : Rd (w.alloc (.cells #[.string s, .int .i64 0] 63)) w.heap.size s 0 := by unfold Rd; show (w.heap.push _)[w.heap.size]? = _; simp
  have hm0 : Mod (fun _ => False) w (w.alloc (.cells #[.string s, .int .i64 0] 63)) := (Mod.refl _ w).alloc _
  have HH : Hid _ := And.intro hR0 hm0
  clear hR0 hm0
  obtain ⟨mb, hmb, HPI⟩ : ∃ mb : Bool, (!s.toList.isEmpty) = mb ∧ Hid (PIx s mb 0 []) := by
    refine ⟨_, rfl, ?_⟩
    by_cases h0 : s.size = 0
    · have : s.toList = [] := by
        have e : s = ⟨#[]⟩ := by apply ByteArray.ext; exact Array.eq_empty_of_size_eq_zero h0
        rw [e, show (⟨#[]⟩ : ByteArray) = ⟨([] : List UInt8).toArray⟩ from rfl, ByteArray.toList_mk]
      rw [this]
      exact ⟨fun h => by simp at h, fun _ => ⟨fun _ => by simp [inps, h0], fun h => absurd h0.symm h⟩⟩
    · have : (!s.toList.isEmpty) = true := by
        simp
        intro h
        obtain ⟨l, rfl⟩ : ∃ l : List UInt8, s = ⟨l.toArray⟩ := ⟨s.data.toList, by simp⟩
        rw [ByteArray.toList_mk] at h
        exact h0 (by rw [h]; rfl)
      rw [this]
      exact ⟨fun _ => ⟨rfl, h0⟩, fun h => by cases h⟩
  go_enter Tryd.func24, Tryd.ntmps24
  go_wp2_with fail
  generalize w.alloc (.cells #[.string s, .int .i64 0] 63) = W at *
  obtain ⟨hR0, hm0⟩ := HH.out
  clear HH
  have hW := hm0.size
  have hWl := hR0.lt
  go_loopw [5, 6] (fun lv mv wr => ∃ (f : Nat) (l : List Int) (more : Bool), mv = .bool more ∧ f ≤ s.size ∧ l.length ≤ f ∧ Rd wr w.heap.size s f ∧ wr.ownsRow (w.heap.size + 1) 3 1 lv l.length (zvs l) ∧ Hid (PIx s more f l) ∧ Mod (fun _ => False) w wr) (fun lv mv _ => moreOf mv * (1000 - sliceLen lv))
  case atStart => exact ⟨0, [], mb, rfl, by omega, by simp, hR0, World.ownsRow_nil _ _ _ _, HPI, hm0⟩
  case round =>
    clear hR0 hm0 HPI hmb
    obtain ⟨f, l, more, rfl, hf, hlf, hr, hO, HP, hm⟩ := hrel
    obtain ⟨lo, lcap, rfl, -⟩ := owns_form hO
    have hrl := hr.lt
    cases more with
    | false =>
      obtain ⟨p1, p2⟩ := HP.out.2 rfl
      have c1 := hr.c1
      by_cases he : f = s.size
      · have HI : Hid _ := p1 he
        have q1 : ((f : Int) != (s.size : Int)) = false := by rw [he]; simp
        have hE := owns_base (base' := w.heap.size) hO (by omega)
        clear he p1 p2
        go_wp2_with fail
        go_ret2
        rw [HI.out]
        exact inpEnd_some hm hE
      · have HI : Hid _ := p2 he
        have q1 : ((f : Int) != (s.size : Int)) = true := by simp; omega
        clear he p1 p2
        go_wp2_with fail
        go_ret2
        rw [HI.out]
        exact inpEnd_none hm
    | true =>
      obtain ⟨hst, hs0⟩ := HP.out.1 rfl
      have HST : Hid _ := hst
      clear hst
      go_wp2_with fail
      refine (readnum_any w.heap.size s f wr (by omega) hf hr).mono ?_
      rintro e w2 ⟨hm2, ⟨n, p, hrd, rfl, hr2⟩ | ⟨hrd, rfl⟩⟩
      · obtain ⟨g1, g2, -, g4, g5, -⟩ := rdN_dec hrd
        have hm2w : Mod (fun _ => False) w w2 := ((hm.mono (q := fun q => q = w.heap.size) (fun _ _ f => f.elim)).trans hm2).mono (fun q hq h => by omega)
        have hO2 := owns_mod hO hm2 (fun g h1 h2 => by omega)
        have hrl2 := hr2.lt
        have HRD : Hid _ := hrd
        clear hrd hm hO hm2 hr
        go_wp2_with (at_builtin; refine wpList_append_own _ rfl _ _ 31 rfl (w.heap.size + 1) 3 i0 _ 1 8 Tryd.underlying31 hii hz0 hz1 hz2 rfl (by decide) _ _ _ rfl (hO2.alloc _) ⟨w2.heap.size, 0, none⟩ 1 1 [.int .i64 n] rfl rfl ?c1 ?c2 ?c3 ?c4 ?c5 ?_)
        case c1 => exact World.news_of_block (cs := #[.int .i64 n]) (t := 3) (fr := (0, 0)) (heap_alloc_new w2 _)
        case c2 => simp [Value.oneCell']
        case c3 => unfold maxLen; omega
        case c4 => omega
        case c5 => simp; omega
        intro v' w4 hown4 hgrow _
        have hgm : Mod (fun i => w.heap.size + 1 ≤ i) w2 w4 := ((Mod.refl _ w2).alloc _).grown hgrow (fun i hi _ => (hO2.lt i hi).1)
        have hr4 : Rd w4 w.heap.size s p := hr2.keep hgm (by omega)
        have hm4 : Mod (fun _ => False) w w4 := ⟨hgm.os.trans hm2w.os, hgm.tape.trans hm2w.tape, hgm.output.trans hm2w.output, Nat.le_trans hm2w.size hgm.size, fun i hi _ => (hgm.block i (by omega) (by omega)).trans (hm2w.block i hi (fun f => f))⟩
        have hO4 : w4.ownsRow (w.heap.size + 1) 3 1 v' (l ++ [n]).length (zvs (l ++ [n])) := by
          have : zvs (l ++ [n]) = zvs l ++ [.int .i64 n] := by simp [zvs]
          rw [this]; simpa using hown4
        obtain ⟨lo4, lcap4, rfl, -⟩ := owns_form hO4
        have hln : (l ++ [n]).length = l.length + 1 := by simp
        have HLN : Hid _ := hln
        have hl4 : (l ++ [n]).length ≤ p := by omega
        clear hown4 hgrow hgm hO2 hm2w hr2 hln
        generalize hnl : (l ++ [n]).length = nl at *
        have HNL : Hid ((l ++ [n]).length = nl) := hnl
        clear hnl
        by_cases hc : g s p = 44
        · have HPI2 : Hid (PIx s true (p + 1) (l ++ [n])) := ⟨fun _ => ⟨inp_comma HST.out HRD.out hc, hs0⟩, fun h => by cases h⟩
          go_wp2_with fail
          refine (take_yes w.heap.size s p 44 w4 (by omega) g2 hr4 (by omega) hc).mono ?_
          rintro e w5 ⟨rfl, hr5, hk5, hm5⟩
          have hm5w : Mod (fun _ => False) w w5 := ((hm4.mono (q := fun q => q = w.heap.size) (fun _ _ f => f.elim)).trans hm5).mono (fun q hq h => by omega)
          have hO5 := owns_mod hO4 hm5 (fun g h1 h2 => by omega)
          clear hm4 hm5 hO4 hr4 hc
          go_wp2_with fail
          go_roundw
          case rel => exact ⟨p + 1, l ++ [n], true, rfl, hk5, by rw [HNL.out]; omega, hr5, by rw [HNL.out]; exact hO5, HPI2, hm5w⟩
          case measure => have := HLN.out; have := HNL.out; simp [moreOf, sliceLen]; omega
        · have HPI2 : Hid (PIx s false p (l ++ [n])) := ⟨fun h => (by cases h), fun _ => ⟨fun he => inp_last hs0 HST.out (by rw [← he]; exact HRD.out), fun hne => inp_bad hs0 hf HST.out (fun n' p' h => by
            have := HRD.out
            rw [h] at this
            simp at this
            rw [this.2]; exact ⟨hne, hc⟩)⟩⟩
          go_wp2_with fail
          refine (take_no w.heap.size s p 44 w4 (by omega) g2 hr4 hc).mono ?_
          rintro e w5 ⟨rfl, hr5, hm5⟩
          have hm5w : Mod (fun _ => False) w w5 := ((hm4.mono (q := fun q => q = w.heap.size) (fun _ _ f => f.elim)).trans hm5).mono (fun q hq h => by omega)
          have hO5 := owns_mod hO4 hm5 (fun g h1 h2 => by omega)
          clear hm4 hm5 hO4 hr4 hc
          go_wp2_with fail
          go_roundw
          case rel => exact ⟨p, l ++ [n], false, rfl, g2, by rw [HNL.out]; omega, hr5, by rw [HNL.out]; exact hO5, HPI2, hm5w⟩
          case measure => simp [moreOf, sliceLen]; omega
      · have HI : Hid (inps s = none) := inp_bad hs0 hf HST.out (fun n p h => by rw [hrd] at h; cases h)
        have hm2w : Mod (fun _ => False) w w2 := ((hm.mono (q := fun q => q = w.heap.size) (fun _ _ f => f.elim)).trans hm2).mono (fun q hq h => by omega)
        clear hrd hm2 hm hO hr
        go_wp2_with fail
        go_ret2
        rw [HI.out]
        exact inpEnd_none hm2w
end Go.Proofs.YtmnfndpbblpjiaaDoor

/- Right steps are good ones; the range of inputs: plain. -/
namespace Go.Proofs.YtmnfndpbblpjiaaDoor
open Go.RowKit Pu

theorem Pu.vfy_right {s : ByteArray} (h : vfy s = (0, 0)) : begunB s = true ∧ ∀ j, j < nst s → rightB (steps s) j (stepAt s j) (g s 2) (g s 3) = true := by
  cases hb : begunB s with
  | false => rw [vfy_bad hb] at h; simp at h
  | true =>
    refine ⟨rfl, fun j hj => ?_⟩
    unfold vfy at h
    rw [hb] at h
    simp only [Bool.true_eq_false, if_false] at h
    split at h
    · simp at h
    · rename_i hf
      have := List.find?_eq_none.1 hf j (by simpa using hj)
      simpa using this
theorem Pu.right_good {l : List Stp} {k : Nat} {t : Stp} {regs ins : Nat} (hs : Small t) (hr : regs ≤ 128) (h : rightB l k t regs ins = true) : Good ins t := by
  unfold rightB at h
  rw [proper_fit] at h
  simp only [Bool.and_eq_true, decide_eq_true_eq, List.all_eq_true] at h
  obtain ⟨⟨ho, hx⟩, hr2⟩ := h
  have h7 : t.op ≤ 7 := by
    refine Nat.le_of_not_lt fun hh => ?_
    simp [opFit, show ¬ t.op = 0 by omega, show ¬ t.op = 1 by omega, show ¬ t.op = 2 by omega, show ¬ t.op = 3 by omega, show ¬ t.op = 4 by omega, show ¬ t.op = 5 by omega, show ¬ t.op = 6 by omega, show ¬ t.op = 7 by omega] at ho
  refine ⟨hs, h7, by omega, fun h => ?_, fun h => ?_, fun h => ?_, fun h => ?_⟩
  · have := (hr2 t.y (by simp [readsOf, h])).1; omega
  · have := (hr2 t.z (by simp [readsOf, h])).1; omega
  · simp [opFit, h] at ho; exact ho.1
  · simp [opFit, h] at ho; exact ho
theorem Pu.inpSt_range {s : ByteArray} : ∀ (k f : Nat) (l : List Int), inpSt s k = some (f, l) → ∀ x ∈ l, -99 ≤ x ∧ x ≤ 99 := by
  intro k
  induction k with
  | zero => intro f l h; simp [inpSt] at h; rw [h.2]; intro x hx; cases hx
  | succ k ih =>
    intro f l h
    simp only [inpSt] at h
    split at h
    · cases h
    · rename_i f' l' hk
      split at h
      · split at h
        · rename_i n hn
          simp at h
          obtain ⟨-, rfl⟩ := h
          intro x hx
          rcases List.mem_append.1 hx with hx | hx
          · exact ih f' l' hk x hx
          · simp at hx; subst hx; exact numer_range hn
        · cases h
      · simp at h
        obtain ⟨-, rfl⟩ := h
        exact ih f' l' hk
theorem Pu.inps_range {s : ByteArray} {l : List Int} (h : inps s = some l) : ∀ x ∈ l, -100 < x ∧ x < 100 := by
  unfold inps at h
  split at h
  · simp at h; subst h; intro x hx; cases hx
  · simp at h
    obtain ⟨f, hf⟩ := h
    intro x hx
    have := inpSt_range _ f l hf x hx
    omega
end Go.Proofs.YtmnfndpbblpjiaaDoor

/- What running a code and running a source have in common: start. -/
namespace Go.Proofs.YtmnfndpbblpjiaaDoor
open Go.RowKit Pu

/-- What start tells of right steps that want n inputs. -/
def stt (B n : Nat) (l : List Stp) (inp : ByteArray) : ByteArray × Nat :=
  match inps inp with
  | none => (⟨#[]⟩, 9)
  | some ins => if ins.length ≠ n then (⟨#[]⟩, 9) else play B ins l (List.replicate 128 0) ⟨#[]⟩
theorem stt_none {B n : Nat} {l : List Stp} {inp : ByteArray} (h : inps inp = none) : stt B n l inp = (⟨#[]⟩, 9) := by unfold stt; rw [h]
theorem stt_count {B n : Nat} {l : List Stp} {inp : ByteArray} {ins : List Int} (h : inps inp = some ins) (k : ¬ ins.length = n) : stt B n l inp = (⟨#[]⟩, 9) := by unfold stt; rw [h]; simp [k]
theorem stt_play {B n : Nat} {l : List Stp} {inp : ByteArray} {ins : List Int} (h : inps inp = some ins) (k : ins.length = n) : stt B n l inp = play B ins l (List.replicate 128 0) ⟨#[]⟩ := by unfold stt; rw [h]; simp [k]
theorem exe_stt {B : Nat} {s inp : ByteArray} (h : vfy s = (0, 0)) : exe B s inp = stt B (g s 3) (steps s) inp := by unfold exe; rw [h]; rfl

set_option maxHeartbeats 800000 in
set_option maxRecDepth 4000 in
theorem start_any (B nn : Nat) (hB : B = 10 ^ nn) (hnn : nn = 8000) (r i : Nat) (v : Value) (l : List Stp) (base : Nat) (inp : ByteArray) (w : World) (hl : l.length ≤ 3000) (hL : PLst w base v l) (hi : inp.size ≤ 140) (h256 : i < 256) (hg : ∀ t ∈ l, Good i t) :
    Calls Tryd.prog 17 #[.agg #[.int .u8 r, .int .u8 i, v], .string inp] w fun e w' => e = .returned (.tuple #[.string (stt B i l inp).1, .int .i64 (stt B i l inp).2]) ∧ Mod (fun _ => False) w w' := by
  obtain ⟨ao, cap, rfl, -⟩ := owns_form hL
  have HB : Hid (B = 10 ^ nn) := hB
  have HNN : Hid (nn = 8000) := hnn
  have HG : Hid (∀ t ∈ l, Good i t) := hg
  have HLen : Hid (l.length ≤ 3000) := hl
  clear hB hnn hg
  have w3 : IntKind.i64.wrap (i : Int) = (i : Int) := by simp [IntKind.wrap, IntKind.signed, IntKind.bits]; omega
  have hpa := heap_alloc_new w (.cells #[.int .u8 r, .int .u8 i, .slice ao l.length cap] 41)
  have hma := (Mod.refl (fun _ => False) w).alloc (.cells #[.int .u8 r, .int .u8 i, .slice ao l.length cap] 41)
  have hLa := PLst.mod hL ((Mod.refl (fun _ => False) w).alloc (.cells #[.int .u8 r, .int .u8 i, .slice ao l.length cap] 41))
  have HH : Hid _ := And.intro hpa (And.intro hma hLa)
  clear hpa hma hLa hL hl
  go_enter Tryd.func17, Tryd.ntmps17
  go_wp2_with fail
  generalize w.alloc (.cells #[.int .u8 r, .int .u8 i, .slice ao l.length cap] 41) = w2 at *
  obtain ⟨hpa, hma, hLa⟩ := HH.out
  clear HH
  refine (pinputs_any inp w2 hi).mono ?_
  rintro e w3 ⟨hm3, he⟩
  have hp3 := hm3.keep hpa (fun f => f)
  have hm3w := hma.trans hm3
  have hL3 := hLa.mod hm3
  obtain ⟨c0, c1, c2⟩ := cells3 hp3
  clear hpa hma hLa hp3
  cases hin : inps inp with
  | none =>
    rw [hin] at he
    simp only at he
    subst he
    have HE : Hid (stt B i l inp = (⟨#[]⟩, 9)) := stt_none hin
    clear hm3 hL3 hin
    go_wp2_with fail
    go_ret2
    exact ⟨by rw [HE.out]; rfl, hm3w⟩
  | some ins =>
    rw [hin] at he
    simp only at he
    obtain ⟨v, rfl, hown⟩ := he
    obtain ⟨vo, vcap, rfl, -⟩ := owns_form hown
    have HR : Hid (∀ x ∈ ins, -100 < x ∧ x < 100) := inps_range hin
    by_cases hl : ins.length = i
    · have HE : Hid (stt B i l inp = play B ins l (List.replicate 128 0) ⟨#[]⟩) := stt_play hin hl
      have hbq : ((ins.length : Int) != (i : Int)) = false := bne_f hl
      have hx := execute_any B nn HB.out HNN.out r i (.slice ao l.length cap) (.slice vo ins.length vcap) l ins _ _ w3 HLen.out hL3 hown (by omega) HR.out (fun t ht => by rw [hl]; exact HG.out t ht)
      clear hl hin hm3 hL3 hown
      go_wp2_with fail
      refine hx.mono ?_
      rintro e w4 ⟨rfl, hm4⟩
      have hmE := hm3w.trans hm4
      clear hx hm4 hm3w
      go_wp2_with fail
      go_ret2
      exact ⟨by rw [HE.out]; rfl, hmE⟩
    · have HE : Hid (stt B i l inp = (⟨#[]⟩, 9)) := stt_count hin hl
      have hbq : ((ins.length : Int) != (i : Int)) = true := bne_t hl
      clear hl hin hm3 hL3 hown
      go_wp2_with fail
      go_ret2
      exact ⟨by rw [HE.out]; rfl, hm3w⟩
end Go.Proofs.YtmnfndpbblpjiaaDoor

/- The program's Verify, and a step that asks for it. -/
namespace Go.Proofs.YtmnfndpbblpjiaaDoor
open Go.RowKit Pu

set_option maxHeartbeats 400000 in
theorem verify_long (s : ByteArray) (w : World) (hs : 8006 < s.size) (hm : s.size ≤ maxLen) : Calls Tryd.prog 9 #[.string s] w fun e w' => e = .returned (.tuple #[.int .i64 1, .int .i64 0]) ∧ Mod (fun _ => False) w w' := by
  have hd := dec_long s w hs hm
  unfold maxLen at hm
  go_enter Tryd.func9, Tryd.ntmps9
  go_wp2_with fail
  refine hd.mono ?_
  rintro e w1 ⟨rfl, hm1⟩
  go_wp2_with fail
  go_ret2
  exact ⟨rfl, hm1.alloc _⟩
set_option maxHeartbeats 400000 in
theorem verify_any (s : ByteArray) (w : World) (hs : s.size ≤ 8006) : Calls Tryd.prog 9 #[.string s] w fun e w' => e = .returned (.tuple #[.int .i64 (vfy s).1, .int .i64 (vfy s).2]) ∧ Mod (fun _ => False) w w' := by
  go_enter Tryd.func9, Tryd.ntmps9
  go_wp2_with fail
  refine (dec_any s w hs).mono ?_
  rintro e w1 ⟨⟨a, b, ao, n, cap, rfl, -⟩, hm1⟩
  go_wp2_with fail
  go_ret2
  exact ⟨rfl, hm1.alloc _⟩
end Go.Proofs.YtmnfndpbblpjiaaDoor

/- The program's Shrink, and a step that asks for it. -/
namespace Go.Proofs.YtmnfndpbblpjiaaDoor
open Go.RowKit Pu

set_option maxHeartbeats 400000 in
theorem shrink_long (s : ByteArray) (w : World) (hs : 8006 < s.size) (hm : s.size ≤ maxLen) : Calls Tryd.prog 14 #[.string s] w fun e w' => e = .returned (.tuple #[.string ⟨#[]⟩, .int .i64 1]) ∧ Mod (fun _ => False) w w' := by
  have hd := dec_long s w hs hm
  go_enter Tryd.func14, Tryd.ntmps14
  go_wp2_with fail
  refine hd.mono ?_
  rintro e w1 ⟨rfl, hm1⟩
  go_wp2_with fail
  go_ret2
  exact ⟨rfl, hm1.alloc _⟩
set_option maxHeartbeats 400000 in
theorem shrink_bad (s : ByteArray) (w : World) (hs : s.size ≤ 8006) (hv : (vfy s).1 = 8) : Calls Tryd.prog 14 #[.string s] w fun e w' => e = .returned (.tuple #[.string ⟨#[]⟩, .int .i64 8]) ∧ Mod (fun _ => False) w w' := by
  have HV : Hid ((vfy s).1 = 8) := hv
  clear hv
  go_enter Tryd.func14, Tryd.ntmps14
  go_wp2_with fail
  refine (dec_any s w hs).mono ?_
  rintro e w1 ⟨⟨a, b, ao, n, cap, he, -⟩, hm1⟩
  rw [HV.out] at he
  generalize (vfy s).2 = v2 at *
  subst he
  go_wp2_with fail
  go_ret2
  exact ⟨rfl, hm1.alloc _⟩
set_option maxHeartbeats 800000 in
theorem shrink_any (s : ByteArray) (w : World) (hs : s.size ≤ 8006) (hv : vfy s = (0, 0)) : Calls Tryd.prog 14 #[.string s] w fun e w' => e = .returned (.tuple #[.string (shr s), .int .i64 0]) ∧ Mod (fun _ => False) w w' := by
  have HV : Hid (vfy s = (0, 0)) := hv
  clear hv
  have HLen : Hid ((steps s).length = nst s) := stepsTo_len s _
  have HSS : Hid (∀ t ∈ steps s, Small t) := steps_small s
  go_enter Tryd.func14, Tryd.ntmps14
  go_wp2_with fail
  refine (dec_any s w hs).mono ?_
  rintro e w1 ⟨⟨a, b, ao, n, cap, he, hok⟩, hm1⟩
  rw [HV.out] at he hok
  subst he
  obtain ⟨rfl, rfl, hb, -, hL⟩ := hok rfl
  have HE : Hid (shr s = ⟨(joined (g s 2) (g s 3) (keepTo (steps s) (neededL (steps s)) (steps s).length)).toArray⟩) := show shr s = _ by rw [HLen.out]; exact shr_joined hb
  have hl : (steps s).length ≤ 3000 := by rw [HLen.out]; have := (nst_of hb).2.2.1; omega
  have HKM : Hid (∀ t ∈ keepTo (steps s) (neededL (steps s)) (steps s).length, Small t) := fun t ht => HSS.out t (keepTo_mem (Nat.le_refl _) t ht)
  have HKL : Hid ((keepTo (steps s) (neededL (steps s)) (steps s).length).length ≤ 3000) := show _ ≤ _ by
    rw [keepTo_len]; have := cntTo_le (neededL (steps s)) (steps s).length; omega
  have l2 := g_lt s 2
  have l3 := g_lt s 3
  generalize g s 2 = r2 at *
  generalize g s 3 = r3 at *
  clear hb
  have hpa : (w1.alloc (.cells #[.int .u8 r2, .int .u8 r3, .slice ao n cap] 41)).heap[w1.heap.size]? = some (.cells #[.int .u8 r2, .int .u8 r3, .slice ao n cap] 41 (0, 0)) := heap_alloc_new w1 _
  have hma := hm1.alloc (.cells #[.int .u8 r2, .int .u8 r3, .slice ao n cap] 41)
  have hLa := hL.mod ((Mod.refl (fun _ => False) w1).alloc (.cells #[.int .u8 r2, .int .u8 r3, .slice ao n cap] 41))
  have hs1 := hm1.size
  have HH : Hid _ := And.intro hpa (And.intro hma hLa)
  clear hpa hma hLa hL hm1
  go_wp2_with fail
  generalize w1.alloc (.cells #[.int .u8 r2, .int .u8 r3, .slice ao n cap] 41) = w2 at *
  obtain ⟨hpa, hma, hLa⟩ := HH.out
  clear HH
  refine (kept_any _ (steps s) _ w2 hl hLa HSS.out).mono ?_
  rintro e w3 ⟨hm3, u, rfl, hK⟩
  obtain ⟨uo, ucap, rfl, -⟩ := owns_form hK
  have hp3 := hm3.keep hpa (fun f => f)
  have hm3w := hma.trans hm3
  obtain ⟨c0, c1, c2⟩ := cells3 hp3
  have f2 := fz3 hp3 2
  have hp2l := lt_of_block hpa
  generalize keepTo (steps s) (neededL (steps s)) (steps s).length = q at *
  have hp4 := set3_2 (z' := .slice uo q.length ucap) hp3
  obtain ⟨d0, d1, d2⟩ := cells3 hp4
  have hm4 : Mod (fun _ => False) w (w3.setCell ⟨w1.heap.size, 2, none⟩ (.slice uo q.length ucap)) := hm3w.setCell ⟨w1.heap.size, 2, none⟩ (.slice uo q.length ucap) (fun h => absurd h (by show ¬ w1.heap.size < w.heap.size; omega))
  have hK4 : PLst (w3.setCell ⟨w1.heap.size, 2, none⟩ (.slice uo q.length ucap)) w2.heap.size (.slice uo q.length ucap) q :=
    owns_mod hK ((Mod.refl (fun k => k = w1.heap.size) w3).setCell ⟨w1.heap.size, 2, none⟩ (.slice uo q.length ucap) (fun _ => rfl)) (fun g h1 h2 => by omega)
  have HX : Hid _ := And.intro d0 (And.intro d1 (And.intro d2 (And.intro hm4 hK4)))
  clear d0 d1 d2 hm4 hK4 hK hp4 hp3 hpa hma hm3 hm3w hLa
  go_wp2_with fail
  obtain ⟨-, -, -, hm4, hK4⟩ := HX.out
  refine (join_any _ q r2 r3 _ _ HKL.out hK4 HKM.out l2 l3).mono ?_
  rintro e w5 ⟨rfl, hm5⟩
  have hmE := hm4.trans hm5
  clear HX hK4 hm4 hm5
  go_wp2_with fail
  go_ret2
  exact ⟨by rw [HE.out]; rfl, hmE⟩

theorem Pu.vfy_or (s : ByteArray) : (vfy s).1 = 8 ∨ (vfy s = (0, 0) ∧ begunB s = true) := by
  cases hb : begunB s with
  | false => exact .inl (by rw [vfy_bad hb])
  | true =>
    unfold vfy
    rw [hb]
    simp only [Bool.true_eq_false, if_false]
    split
    · exact .inl rfl
    · exact .inr ⟨rfl, trivial⟩
end Go.Proofs.YtmnfndpbblpjiaaDoor

/- The document's Exec. -/
namespace Go.Proofs.YtmnfndpbblpjiaaDoor
open Go.RowKit Pu

/-- What is not a fault of the code. -/
theorem Pu.exe_bad {B : Nat} {s inp : ByteArray} (h : (vfy s).1 = 8) : exe B s inp = (⟨#[]⟩, 8) := by simp [exe, h]
theorem Pu.exe_none {B : Nat} {s inp : ByteArray} (h : vfy s = (0, 0)) (hi : inps inp = none) : exe B s inp = (⟨#[]⟩, 9) := by simp [exe, h, hi]
theorem Pu.exe_count {B : Nat} {s inp : ByteArray} {l : List Int} (h : vfy s = (0, 0)) (hi : inps inp = some l) (hl : l.length ≠ g s 3) : exe B s inp = (⟨#[]⟩, 9) := by simp [exe, h, hi, hl]
theorem Pu.exe_play {B : Nat} {s inp : ByteArray} {l : List Int} (h : vfy s = (0, 0)) (hi : inps inp = some l) (hl : l.length = g s 3) : exe B s inp = play B l (steps s) (List.replicate 128 0) ⟨#[]⟩ := by simp [exe, h, hi, hl]
end Go.Proofs.YtmnfndpbblpjiaaDoor

/- The program's Exec, and a step that asks for it. -/
namespace Go.Proofs.YtmnfndpbblpjiaaDoor
open Go.RowKit Pu

set_option maxHeartbeats 400000 in
theorem exec_long (s inp : ByteArray) (w : World) (hs : 8006 < s.size ∨ 140 < inp.size) (hm : s.size ≤ maxLen) (hm2 : inp.size ≤ maxLen) : Calls Tryd.prog 10 #[.string s, .string inp] w fun e w' => e = .returned (.tuple #[.string ⟨#[]⟩, .int .i64 1]) ∧ w = w' := by
  unfold maxLen at hm hm2
  by_cases h1 : 8006 < s.size
  · have i1 : (8006 : Int) < (s.size : Int) := by omega
    clear hs
    go_enter Tryd.func10, Tryd.ntmps10
    go_wp2_with fail
    go_ret2
    exact ⟨rfl, rfl⟩
  · have i1 : ¬ (8006 : Int) < (s.size : Int) := by omega
    have i2 : (140 : Int) < (inp.size : Int) := by omega
    clear hs
    go_enter Tryd.func10, Tryd.ntmps10
    go_wp2_with fail
    go_ret2
    exact ⟨rfl, rfl⟩

set_option maxHeartbeats 800000 in
set_option maxRecDepth 4000 in
theorem exec_any (B nn : Nat) (hB : B = 10 ^ nn) (hnn : nn = 8000) (s inp : ByteArray) (w : World) (hs : s.size ≤ 8006) (hi : inp.size ≤ 140) : Calls Tryd.prog 10 #[.string s, .string inp] w fun e w' => e = .returned (.tuple #[.string (exe B s inp).1, .int .i64 (exe B s inp).2]) ∧ Mod (fun _ => False) w w' := by
  have i1 : ¬ (8006 : Int) < (s.size : Int) := by omega
  have i2 : ¬ (140 : Int) < (inp.size : Int) := by omega
  have HB : Hid (B = 10 ^ nn) := hB
  have HNN : Hid (nn = 8000) := hnn
  clear hB hnn
  rcases vfy_or s with hv | ⟨hv, hbg⟩
  · have HE : Hid (exe B s inp = (⟨#[]⟩, 8)) := exe_bad hv
    have HV : Hid ((vfy s).1 = 8) := hv
    clear hv
    generalize exe B s inp = ex at *
    go_enter Tryd.func10, Tryd.ntmps10
    go_wp2_with fail
    refine (dec_any s w hs).mono ?_
    rintro e w1 ⟨⟨a, b, ao, n, cap, he, -⟩, hm1⟩
    rw [HV.out] at he
    generalize (vfy s).2 = v2 at *
    subst he
    have hm := hm1.alloc (.cells #[.int .u8 a, .int .u8 b, .slice ao n cap] 41)
    go_wp2_with fail
    go_ret2
    exact ⟨by rw [HE.out]; rfl, hm⟩
  · have HV : Hid (vfy s = (0, 0)) := hv
    have hn2 : nst s ≤ 2000 := (nst_of hbg).2.2.1
    have hr2 : g s 2 ≤ 128 := (nst_of hbg).2.2.2.2.2.1
    have HLen : Hid ((steps s).length = nst s) := stepsTo_len s _
    have HG : Hid (∀ t ∈ steps s, Good (g s 3) t) := fun t ht => by
      obtain ⟨j, hj, rfl⟩ := List.getElem_of_mem ht
      rw [steps_at]
      exact right_good (stepAt_small s j) hr2 ((vfy_right HV.out).2 j (by rw [steps, stepsTo_len] at hj; exact hj))
    have l3 := g_lt s 3
    have w3 : IntKind.i64.wrap (g s 3 : Int) = (g s 3 : Int) := by simp [IntKind.wrap, IntKind.signed, IntKind.bits]; omega
    clear hv hbg hr2
    go_enter Tryd.func10, Tryd.ntmps10
    go_wp2_with fail
    refine (dec_any s w hs).mono ?_
    rintro e w1 ⟨⟨a, b, ao, n, cap, he, hok⟩, hm1⟩
    rw [HV.out] at he hok
    subst he
    obtain ⟨rfl, rfl, -, -, hL⟩ := hok rfl
    clear hok
    have hpa := heap_alloc_new w1 (.cells #[.int .u8 (g s 2), .int .u8 (g s 3), .slice ao n cap] 41)
    have hma := hm1.alloc (.cells #[.int .u8 (g s 2), .int .u8 (g s 3), .slice ao n cap] 41)
    have hLa := hL.mod ((Mod.refl (fun _ => False) w1).alloc (.cells #[.int .u8 (g s 2), .int .u8 (g s 3), .slice ao n cap] 41))
    obtain ⟨c0, c1, c2⟩ := cells3 hpa
    have HH : Hid _ := And.intro hpa (And.intro hma hLa)
    clear hpa hma hLa hL hm1
    go_wp2_with fail
    generalize w1.alloc (.cells #[.int .u8 (g s 2), .int .u8 (g s 3), .slice ao n cap] 41) = w2 at *
    obtain ⟨hpa, hma, hLa⟩ := HH.out
    clear HH
    refine (start_any B nn HB.out HNN.out (g s 2) (g s 3) (.slice ao n cap) (steps s) _ inp w2 (by rw [HLen.out]; omega) hLa hi l3 HG.out).mono ?_
    rintro e w3 ⟨rfl, hm3⟩
    have HE : Hid (exe B s inp = stt B (g s 3) (steps s) inp) := exe_stt HV.out
    have hmE := hma.trans hm3
    generalize stt B (g s 3) (steps s) inp = st at *
    clear hpa hma hLa hm3
    go_wp2_with fail
    go_ret2
    exact ⟨by rw [HE.out]; rfl, hmE⟩
end Go.Proofs.YtmnfndpbblpjiaaDoor

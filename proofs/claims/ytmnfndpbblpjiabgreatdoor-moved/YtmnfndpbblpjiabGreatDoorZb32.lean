/- What running a code and running a source have in common: start. -/
import Derived.Deep.RegionWith
import Derived.ProofKit
import Derived.Deep.Slices
import Derived.Lib.SmallJoins
import Derived.Test.YtmnfndpbblpjiabGreatDoorCards
import Derived.Test.YtmnfndpbblpjiabGreatDoorTie
import Derived.WalkKit
import Derived.OpenShut
import Derived.Deep.DeepHandedRow
import Derived.Lib.LaidTab
import Derived.Stop.LaidErr
import Derived.Test.YtmnfndpbblpjiabGreatDoorZb31
import Derived.Test.YtmnfndpbblpjiabGreatDoorZb22
import Derived.Test.YtmnfndpbblpjiabGreatDoorZb29
import Derived.Test.YtmnfndpbblpjiabGreatDoorZb05
import Derived.Test.YtmnfndpbblpjiabGreatDoorZb10
import Derived.Test.YtmnfndpbblpjiabGreatDoorZb01
namespace Go.Proofs.YtmnfndpbblpjiabGreatDoor
open Go.RowKit Pu

/-- What start tells of right steps that want n inputs. -/
def stt (B n : Nat) (l : List Stp) (inp : ByteArray) : ByteArray × Nat :=
  match inps inp with
  | none => (⟨#[]⟩, 9)
  | some ins => if ins.length ≠ n then (⟨#[]⟩, 9) else play B ins l (List.replicate 128 0) ⟨#[]⟩
theorem stt_none {B n : Nat} {l : List Stp} {inp : ByteArray} (h : inps inp = none) : stt B n l inp = (⟨#[]⟩, 9) := by unfold stt; rw [h]
theorem stt_count {B n : Nat} {l : List Stp} {inp : ByteArray} {ins : List Int} (h : inps inp = some ins) (k : ¬ ins.length = n) : stt B n l inp = (⟨#[]⟩, 9) := by unfold stt; rw [h]; simp [k]
theorem stt_play {B n : Nat} {l : List Stp} {inp : ByteArray} {ins : List Int} (h : inps inp = some ins) (k : ins.length = n) : stt B n l inp = play B ins l (List.replicate 128 0) ⟨#[]⟩ := by unfold stt; rw [h]; simp [k]
theorem exe_stt {B : Nat} {s inp : ByteArray} (h : vfy s = (0, 0)) : exe B s inp = stt B (g s 3) (steps s) inp := by unfold exe; rw [h]; rfl

set_option maxHeartbeats 800000 in
set_option maxRecDepth 4000 in
theorem start_any (B nn : Nat) (hB : B = 10 ^ nn) (hnn : nn = 8000) (r i : Nat) (v : Value) (l : List Stp) (base : Nat) (inp : ByteArray) (w : World) (hl : l.length ≤ 3000) (hL : PLst w base v l) (hi : inp.size ≤ 140) (h256 : i < 256) (hg : ∀ t ∈ l, Good i t) :
    Calls Tryz.prog 35 #[.agg #[.int .u8 r, .int .u8 i, v], .string inp] w fun e w' => e = .returned (.tuple #[.string (stt B i l inp).1, .int .i64 (stt B i l inp).2]) ∧ Mod (fun _ => False) w w' := by
  obtain ⟨ao, cap, rfl, -⟩ := owns_form hL
  have HB : Hid (B = 10 ^ nn) := hB
  have HNN : Hid (nn = 8000) := hnn
  have HG : Hid (∀ t ∈ l, Good i t) := hg
  have HLen : Hid (l.length ≤ 3000) := hl
  clear hB hnn hg
  have w3 : IntKind.i64.wrap (i : Int) = (i : Int) := by simp [IntKind.wrap, IntKind.signed, IntKind.bits]; omega
  have hpa := heap_alloc_new w (.cells #[.int .u8 r, .int .u8 i, .slice ao l.length cap] 63)
  have hma := (Mod.refl (fun _ => False) w).alloc (.cells #[.int .u8 r, .int .u8 i, .slice ao l.length cap] 63)
  have hLa := PLst.mod hL ((Mod.refl (fun _ => False) w).alloc (.cells #[.int .u8 r, .int .u8 i, .slice ao l.length cap] 63))
  have HH : Hid _ := And.intro hpa (And.intro hma hLa)
  clear hpa hma hLa hL hl
  go_enter Tryz.func35, Tryz.ntmps35
  go_wp2_with fail
  generalize w.alloc (.cells #[.int .u8 r, .int .u8 i, .slice ao l.length cap] 63) = w2 at *
  obtain ⟨hpa, hma, hLa⟩ := HH.out
  clear HH
  refine (pinputs_any inp w2 hi).mono ?_
  rintro e w3 ⟨hm3, he⟩
  have hp3 := hm3.keep hpa (fun f => f)
  have hm3w := hma.trans hm3
  have hL3 := hLa.mod hm3
  obtain ⟨c0, c1, c2⟩ := cells3 hp3
  clear hpa hma hLa hp3
  cases hin : inps inp with
  | none =>
    rw [hin] at he
    simp only at he
    subst he
    have HE : Hid (stt B i l inp = (⟨#[]⟩, 9)) := stt_none hin
    clear hm3 hL3 hin
    go_wp2_with fail
    go_ret2
    exact ⟨by rw [HE.out]; rfl, hm3w⟩
  | some ins =>
    rw [hin] at he
    simp only at he
    obtain ⟨v, rfl, hown⟩ := he
    obtain ⟨vo, vcap, rfl, -⟩ := owns_form hown
    have HR : Hid (∀ x ∈ ins, -100 < x ∧ x < 100) := inps_range hin
    by_cases hl : ins.length = i
    · have HE : Hid (stt B i l inp = play B ins l (List.replicate 128 0) ⟨#[]⟩) := stt_play hin hl
      have hbq : ((ins.length : Int) != (i : Int)) = false := bne_f hl
      have hx := execute_any B nn HB.out HNN.out r i (.slice ao l.length cap) (.slice vo ins.length vcap) l ins _ _ w3 HLen.out hL3 hown (by omega) HR.out (fun t ht => by rw [hl]; exact HG.out t ht)
      clear hl hin hm3 hL3 hown
      go_wp2_with fail
      refine hx.mono ?_
      rintro e w4 ⟨rfl, hm4⟩
      have hmE := hm3w.trans hm4
      clear hx hm4 hm3w
      go_wp2_with fail
      go_ret2
      exact ⟨by rw [HE.out]; rfl, hmE⟩
    · have HE : Hid (stt B i l inp = (⟨#[]⟩, 9)) := stt_count hin hl
      have hbq : ((ins.length : Int) != (i : Int)) = true := bne_t hl
      clear hl hin hm3 hL3 hown
      go_wp2_with fail
      go_ret2
      exact ⟨by rw [HE.out]; rfl, hm3w⟩
end Go.Proofs.YtmnfndpbblpjiabGreatDoor

/- The program's Run and Compile. -/
namespace Go.Proofs.YtmnfndpbblpjiabGreatDoor
open Go.RowKit Pu

/-- The report of statements with a text of inputs. -/
def rnS (l : List St) (inp : ByteArray) : ByteArray × Nat :=
  match inps inp with
  | none => (⟨#[]⟩, 9)
  | some ins => if ins.length ≠ cntI (cmds l) then (⟨#[]⟩, 9) else (semC ins (cmds l) 0 0 [] ⟨#[]⟩, 0)
theorem okG_good {p : List (St × Nat)} (h : Ok p) (hl : p.length ≤ 16) : ∀ t ∈ cmdsL (cmds (sts p)) 0 0, Good (cntI (cmds (sts p))) t := by
  have hm := Pu.made_any h hl
  have hr := (okL_iff _ _ _).2 (okG_okL _ _ hm.ok)
  intro t ht
  obtain ⟨j, hj, rfl⟩ := List.getElem_of_mem ht
  exact right_good (okG_small _ _ hm.ok _ (List.getElem_mem hj)) (Nat.le_refl _) (hr j hj)
theorem stt_rn {B nn : Nat} (hB : B = 10 ^ nn) (hn : nn = 8000) {p : List (St × Nat)} (h : Ok p) (hl : p.length ≤ 16) (inp : ByteArray) : stt B (cntI (cmds (sts p))) (cmdsL (cmds (sts p)) 0 0) inp = rnS (sts p) inp := by
  unfold stt rnS
  cases hin : inps inp with
  | none => rfl
  | some ins =>
    simp only
    by_cases hc : ins.length = cntI (cmds (sts p))
    · have hr := inps_range hin
      rw [if_neg (fun e => e hc), if_neg (fun e => e hc)]
      exact play_report hB hn ins (fun x hx => by have := hr x hx; omega) _ (wf_cmds h) (by rw [cmds_len]; exact hl) hc.symm
    · rw [if_pos hc, if_pos hc]
/-- What Run tells of texts that are not too long. -/
def RunA (s inp : ByteArray) (r : ByteArray × Nat) : Prop := ∃ a b, Ans s a b ∧ ((a ≠ 0 ∧ r = (⟨#[]⟩, a)) ∨ (a = 0 ∧ r = rnS (gaA s s.size).l inp))
theorem RunA.unique {s inp : ByteArray} {r t : ByteArray × Nat} (h : RunA s inp r) (k : RunA s inp t) : r = t := by
  obtain ⟨a, b, hA, h⟩ := h
  obtain ⟨c, d, kA, k⟩ := k
  obtain ⟨rfl, rfl⟩ := hA.unique kA
  rcases h with ⟨h0, rfl⟩ | ⟨h0, rfl⟩ <;> rcases k with ⟨k0, rfl⟩ | ⟨k0, rfl⟩
  · rfl
  · exact absurd k0 h0
  · exact absurd h0 k0
  · rfl
set_option maxHeartbeats 400000 in
theorem run_long (s inp : ByteArray) (w : World) (hs : 300 < s.size ∨ 140 < inp.size) (hm : s.size ≤ maxLen) (hm2 : inp.size ≤ maxLen) : Calls Tryz.prog 25 #[.string s, .string inp] w fun e w' => e = .returned (.tuple #[.string ⟨#[]⟩, .int .i64 1]) ∧ w = w' := by
  unfold maxLen at hm hm2
  by_cases h1 : 300 < s.size
  · have i1 : (300 : Int) < (s.size : Int) := by omega
    clear hs
    go_enter Tryz.func25, Tryz.ntmps25
    go_wp2_with fail
    go_ret2
    exact ⟨rfl, rfl⟩
  · have i1 : ¬ (300 : Int) < (s.size : Int) := by omega
    have i2 : (140 : Int) < (inp.size : Int) := by omega
    clear hs
    go_enter Tryz.func25, Tryz.ntmps25
    go_wp2_with fail
    go_ret2
    exact ⟨rfl, rfl⟩
set_option maxHeartbeats 1600000 in
set_option maxRecDepth 4000 in
theorem run_any (s inp : ByteArray) (w : World) (hs : s.size ≤ 300) (hi : inp.size ≤ 140) : Calls Tryz.prog 25 #[.string s, .string inp] w fun e w' => Mod (fun _ => False) w w' ∧ ∃ r, RunA s inp r ∧ e = .returned (.tuple #[.string r.1, .int .i64 (r.2 : Nat)]) := by
  have i1 : ¬ (300 : Int) < (s.size : Int) := by omega
  have i2 : ¬ (140 : Int) < (inp.size : Int) := by omega
  obtain ⟨nn, hnn⟩ : ∃ nn : Nat, nn = 8000 := ⟨8000, rfl⟩
  obtain ⟨B, hB⟩ : ∃ B : Nat, B = 10 ^ nn := ⟨_, rfl⟩
  have HB : Hid (B = 10 ^ nn) := hB
  have HNN : Hid (nn = 8000) := hnn
  clear hB hnn
  go_enter Tryz.func25, Tryz.ntmps25
  go_wp2_with fail
  refine (und_any s w hs).mono ?_
  rintro e w1 ⟨hm1, hu⟩
  rcases hu with ⟨k, hst, rfl⟩ | ⟨hW, p, k, hk, hok, hp, he, rfl⟩ | ⟨hW, v, q, hok, hqx, hL, hq16, rfl⟩
  · have HA : Hid (RunA s inp (⟨#[]⟩, 2)) := ⟨2, k, .inl ⟨hst, rfl⟩, .inl ⟨by decide, rfl⟩⟩
    clear hst
    go_wp2_with fail
    go_ret2
    exact ⟨hm1, _, HA.out, rfl⟩
  · have HA : Hid (RunA s inp (⟨#[]⟩, err p (gaA s s.size).l[k])) := ⟨_, k, .inr (.inl ⟨hW, p, hk, hok, hp, he, rfl⟩), .inl ⟨he, rfl⟩⟩
    have hb : ((err p (gaA s s.size).l[k] : Int) != 0) = true := by rw [bne_iff_ne]; omega
    generalize err p (gaA s s.size).l[k] = er at *
    clear he hok hp hW
    go_wp2_with fail
    go_ret2
    exact ⟨hm1, _, HA.out, rfl⟩
  · have hql : (pq q).length ≤ 16 := by simpa [pq] using hq16
    have HG : Hid _ := okG_good hok hql
    have HR : Hid _ := stt_rn HB.out HNN.out hok hql inp
    have hM := Pu.made_any hok hql
    have h256 : cntI (cmds (sts (pq q))) < 256 := by have := hM.n32; omega
    have hln : (cmdsL (cmds (sts (pq q))) 0 0).length ≤ 3000 := by have := hM.len; omega
    have HA : Hid (RunA s inp (rnS (sts (pq q)) inp)) := ⟨0, 0, .inr (.inr ⟨hW, rfl, rfl, pq q, hok, by rw [sts_pq]; exact hqx⟩), .inr ⟨rfl, by rw [sts_pq, hqx]⟩⟩
    have ht := trans_any v q _ w1 hq16 hL hok
    rw [sts_pq] at HG HR h256 hln HA
    clear hM hqx hok hW hq16 hql hL
    go_wp2_with fail
    refine ht.mono ?_
    clear ht
    rintro e w2 ⟨hm2, ao, n, cap, rfl, hP⟩
    generalize cntI (cmds (q.map It.x)) = NN at *
    generalize cmdsL (cmds (q.map It.x)) 0 0 = SS at *
    have hmB := (hm1.trans hm2).alloc (.cells #[.int .u8 128, .int .u8 (NN : Nat), .slice ao n cap] 63)
    have hPB := PLst.mod hP ((Mod.refl (fun _ => False) w2).alloc (.cells #[.int .u8 128, .int .u8 (NN : Nat), .slice ao n cap] 63))
    have f_p := heap_alloc_new w2 (.cells #[.int .u8 128, .int .u8 (NN : Nat), .slice ao n cap] 63)
    obtain ⟨c0, c1, c2⟩ := cells3 f_p
    have HH : Hid _ := And.intro hmB hPB
    clear hmB hPB f_p hm2 hP hm1
    go_wp2_with fail
    generalize w2.alloc (.cells #[.int .u8 128, .int .u8 (NN : Nat), .slice ao n cap] 63) = w3 at *
    clear c0 c1 c2
    obtain ⟨hmB, hPB⟩ := HH.out
    clear HH
    refine (start_any B nn HB.out HNN.out 128 NN (.slice ao n cap) SS _ inp w3 hln hPB hi h256 HG.out).mono ?_
    rintro e w4 ⟨rfl, hm4⟩
    rw [HR.out]
    have hmE := hmB.trans hm4
    generalize rnS (q.map It.x) inp = rr at *
    clear hmB hPB hm4
    go_wp2_with fail
    go_ret2
    exact ⟨hmE, _, HA.out, rfl⟩

/-- What Compile tells of a text that is not too long. -/
def CmpA (s : ByteArray) (r : ByteArray × Nat) : Prop := ∃ a b, Ans s a b ∧ ((a ≠ 0 ∧ r = (⟨#[]⟩, a)) ∨ (a = 0 ∧ r = (⟨(joined 128 (cntI (cmds (gaA s s.size).l)) (cmdsL (cmds (gaA s s.size).l) 0 0)).toArray⟩, 0)))
set_option maxHeartbeats 400000 in
theorem cmp_long (s : ByteArray) (w : World) (hs : 300 < s.size) (hm : s.size ≤ maxLen) : Calls Tryz.prog 23 #[.string s] w fun e w' => e = .returned (.tuple #[.string ⟨#[]⟩, .int .i64 1]) ∧ w = w' := by
  have hu := und_long s w hs hm
  go_enter Tryz.func23, Tryz.ntmps23
  go_wp2_with fail
  refine hu.mono ?_
  rintro e w1 ⟨rfl, rfl⟩
  clear hu
  go_wp2_with fail
  go_ret2
  exact ⟨rfl, rfl⟩
set_option maxHeartbeats 1600000 in
set_option maxRecDepth 4000 in
theorem cmp_any (s : ByteArray) (w : World) (hs : s.size ≤ 300) : Calls Tryz.prog 23 #[.string s] w fun e w' => Mod (fun _ => False) w w' ∧ ∃ r, CmpA s r ∧ e = .returned (.tuple #[.string r.1, .int .i64 (r.2 : Nat)]) := by
  go_enter Tryz.func23, Tryz.ntmps23
  go_wp2_with fail
  refine (und_any s w hs).mono ?_
  rintro e w1 ⟨hm1, hu⟩
  rcases hu with ⟨k, hst, rfl⟩ | ⟨hW, p, k, hk, hok, hp, he, rfl⟩ | ⟨hW, v, q, hok, hqx, hL, hq16, rfl⟩
  · have HA : Hid (CmpA s (⟨#[]⟩, 2)) := ⟨2, k, .inl ⟨hst, rfl⟩, .inl ⟨by decide, rfl⟩⟩
    clear hst
    go_wp2_with fail
    go_ret2
    exact ⟨hm1, _, HA.out, rfl⟩
  · have HA : Hid (CmpA s (⟨#[]⟩, err p (gaA s s.size).l[k])) := ⟨_, k, .inr (.inl ⟨hW, p, hk, hok, hp, he, rfl⟩), .inl ⟨he, rfl⟩⟩
    have hb : ((err p (gaA s s.size).l[k] : Int) != 0) = true := by rw [bne_iff_ne]; omega
    generalize err p (gaA s s.size).l[k] = er at *
    clear he hok hp hW
    go_wp2_with fail
    go_ret2
    exact ⟨hm1, _, HA.out, rfl⟩
  · have hql : (pq q).length ≤ 16 := by simpa [pq] using hq16
    have hM := Pu.made_any hok hql
    have HSM : Hid _ := okG_small _ _ hM.ok
    have h256 : cntI (cmds (sts (pq q))) < 256 := by have := hM.n32; omega
    have hln : (cmdsL (cmds (sts (pq q))) 0 0).length ≤ 3000 := by have := hM.len; omega
    have HA : Hid (CmpA s (⟨(joined 128 (cntI (cmds (sts (pq q)))) (cmdsL (cmds (sts (pq q))) 0 0)).toArray⟩, 0)) := ⟨0, 0, .inr (.inr ⟨hW, rfl, rfl, pq q, hok, by rw [sts_pq]; exact hqx⟩), .inr ⟨rfl, by rw [sts_pq, hqx]⟩⟩
    have ht := trans_any v q _ w1 hq16 hL hok
    rw [sts_pq] at HSM h256 hln HA
    clear hM hqx hok hW hq16 hql hL
    go_wp2_with fail
    refine ht.mono ?_
    clear ht
    rintro e w2 ⟨hm2, ao, n, cap, rfl, hP⟩
    generalize cntI (cmds (q.map It.x)) = NN at *
    generalize cmdsL (cmds (q.map It.x)) 0 0 = SS at *
    have hmB := (hm1.trans hm2).alloc (.cells #[.int .u8 128, .int .u8 (NN : Nat), .slice ao n cap] 63)
    have hPB := PLst.mod hP ((Mod.refl (fun _ => False) w2).alloc (.cells #[.int .u8 128, .int .u8 (NN : Nat), .slice ao n cap] 63))
    have f_p := heap_alloc_new w2 (.cells #[.int .u8 128, .int .u8 (NN : Nat), .slice ao n cap] 63)
    obtain ⟨c0, c1, c2⟩ := cells3 f_p
    have HH : Hid _ := And.intro hmB hPB
    clear hmB hPB f_p hm2 hP hm1
    go_wp2_with fail
    generalize w2.alloc (.cells #[.int .u8 128, .int .u8 (NN : Nat), .slice ao n cap] 63) = w3 at *
    clear c0 c1 c2
    obtain ⟨hmB, hPB⟩ := HH.out
    clear HH
    refine (join_any (.slice ao n cap) SS 128 NN _ w3 hln hPB HSM.out (by omega) h256).mono ?_
    rintro e w4 ⟨rfl, hm4⟩
    have hmE := hmB.trans hm4
    clear hmB hPB hm4
    go_wp2_with fail
    go_ret2
    exact ⟨hmE, _, HA.out, rfl⟩
end Go.Proofs.YtmnfndpbblpjiabGreatDoor

/- rulerkeep's points, and what it asks of Run. -/
namespace Go.Proofs.YtmnfndpbblpjiabGreatDoor
open Go.RowKit Pu

theorem RunA_of {s : ByteArray} {p : List (St × Nat)} {C : List Cmd} {ins : List Int} (hW : Whole s) (hok : Ok p) (hga : (gaA s s.size).l = sts p) (hc : cmds (sts p) = C) (hr : ∀ x ∈ ins, -99 ≤ x ∧ x ≤ 99) (hn : cntI C = ins.length) :
    RunA s (jnL ins) (semC ins C 0 0 [] ⟨#[]⟩, 0) := by
  refine ⟨0, 0, .inr (.inr ⟨hW, rfl, rfl, p, hok, hga.symm⟩), .inr ⟨rfl, ?_⟩⟩
  rw [hga]
  unfold rnS
  rw [jn_inps hr, hc]
  simp [hn]
abbrev spV (x y : Int) : Value := .agg #[.int .i64 x, .int .i64 y]
abbrev spO (x y : Int) : Obj := .cells #[.int .i64 x, .int .i64 y] 23
abbrev AtS (w : World) (k : Nat) (x y : Int) : Prop := w.heap[k]? = some (.cells #[.int .i64 x, .int .i64 y] 23 (0, 0))
theorem AtS.md {w w' : World} {k : Nat} {x y : Int} (h : AtS w k x y) (hm : Mod (fun _ => False) w w') : AtS w' k x y := hm.keep h (fun f => f)
theorem AtS.cs {w : World} {k : Nat} {x y : Int} (h : AtS w k x y) : w.cell? ⟨k, 0, none⟩ = some (.int .i64 x) ∧ w.cell? ⟨k, 1, none⟩ = some (.int .i64 y) := by
  unfold AtS at h
  constructor <;> simp [World.cell?, h]
set_option maxHeartbeats 800000 in
theorem at_any (x y : Int) (w : World) (hx : isI x) (hy : isI y) : Calls Tryz.prog 9 #[spV x y] w fun e w' => e = .returned (spV (plc x) (plc y)) ∧ Mod (fun _ => False) w w' := by
  have pp : ∀ c w, isI c → Calls Tryz.prog 21 #[.int .i64 c] w fun e w' => e = .returned (.int .i64 (plc c)) ∧ w = w' := fun c w h => kplace_any c w h
  go_enter Tryz.func9, Tryz.ntmps9
  go_wp2_with fail
  first | go_region_with (go_at_call 21; refine (pp _ _ (by assumption)).mono ?_; rintro e w1 ⟨rfl, rfl⟩) | fail
  all_goals
    go_wp2_with fail
    exact bodyPost_ret (v := spV (plc x) (plc y)) (by simp [results, Tryz.results9, go_sem]) rfl ⟨rfl, (((Mod.refl _ w).alloc _).alloc _).drew⟩
/-- A small number. -/
def sI (c : Int) : Prop := -99 ≤ c ∧ c ≤ 99
theorem ints_row {w : World} {b : Nat} {l : List Int} (h : w.heap[b]? = some (.cells (l.map (Value.int .i64)).toArray 3 (0, 0))) (hl : l.length ≤ 1000) : w.ownsRow b 3 1 (.slice (some ⟨b, 0, none⟩) l.length l.length) l.length (zvs l) := by
  have := owns_built h (by simpa using hl)
  simpa [zvs] using this
set_option maxHeartbeats 800000 in
theorem three_any (ax ay bx bY cx cy : Int) (w : World) (h1 : sI ax) (h2 : sI ay) (h3 : sI bx) (h4 : sI bY) (h5 : sI cx) (h6 : sI cy) (hT : Tab w) :
    Calls Tryz.prog 12 #[spV ax ay, spV bx bY, spV cx cy] w fun e w' => e = .returned (.string (jnL [ax, ay, bx, bY, cx, cy])) ∧ Mod (fun _ => False) w w' := by
  have hm : Mod (fun _ => False) w (((w.alloc (spO ax ay)).alloc (spO bx bY)).alloc (spO cx cy)) := (((Mod.refl _ w).alloc _).alloc _).alloc _
  obtain ⟨a1, a2, a3⟩ := alloc3_at w (spO ax ay) (spO bx bY) (spO cx cy)
  obtain ⟨c0, c1⟩ := AtS.cs a1
  obtain ⟨d0, d1⟩ := AtS.cs a2
  obtain ⟨e0, e1⟩ := AtS.cs a3
  have HR : Hid (∀ x ∈ [ax, ay, bx, bY, cx, cy], -99 ≤ x ∧ x ≤ 99) := fun x hx => by
    simp at hx
    rcases hx with rfl | rfl | rfl | rfl | rfl | rfl <;> assumption
  have hmA := hm.alloc (.cells #[.int .i64 ax, .int .i64 ay, .int .i64 bx, .int .i64 bY, .int .i64 cx, .int .i64 cy] 3)
  have hI : ((((w.alloc (spO ax ay)).alloc (spO bx bY)).alloc (spO cx cy)).alloc (.cells #[.int .i64 ax, .int .i64 ay, .int .i64 bx, .int .i64 bY, .int .i64 cx, .int .i64 cy] 3)).ownsRow (w.heap.size + 1 + 1 + 1) 3 1 (.slice (some ⟨w.heap.size + 1 + 1 + 1, 0, none⟩) 6 6) 6 (zvs [ax, ay, bx, bY, cx, cy]) := by
    have h := ints_row (l := [ax, ay, bx, bY, cx, cy]) (heap_alloc_new (((w.alloc (spO ax ay)).alloc (spO bx bY)).alloc (spO cx cy)) (.cells #[.int .i64 ax, .int .i64 ay, .int .i64 bx, .int .i64 bY, .int .i64 cx, .int .i64 cy] 3)) (by simp)
    simp only [sz_al] at h
    exact h
  have HH : Hid _ := And.intro hmA (And.intro hI (hT.mod hmA))
  clear hm a1 a2 a3 hmA hI hT h1 h2 h3 h4 h5 h6
  go_enter Tryz.func12, Tryz.ntmps12
  go_wp2_with fail
  generalize (((w.alloc (.cells #[.int .i64 ax, .int .i64 ay] 23)).alloc (.cells #[.int .i64 bx, .int .i64 bY] 23)).alloc (.cells #[.int .i64 cx, .int .i64 cy] 23)).alloc (.cells #[.int .i64 ax, .int .i64 ay, .int .i64 bx, .int .i64 bY, .int .i64 cx, .int .i64 cy] 3) = wA at *
  obtain ⟨hmA, hI, hT⟩ := HH.out
  refine (joined_any _ [ax, ay, bx, bY, cx, cy] _ _ (by simp) hI HR.out hT).mono ?_
  rintro e w2 ⟨rfl, k2⟩
  have hE := hmA.trans k2
  clear hmA hI hT k2 HH
  go_wp2_with fail
  go_ret
  exact ⟨rfl, hE⟩
set_option maxHeartbeats 800000 in
theorem tells_any (s inp t : ByteArray) (w : World) (hs : s.size ≤ 300) (hi : inp.size ≤ 140) (hR : RunA s inp (t, 0)) :
    Calls Tryz.prog 11 #[.string s, .string inp, .string t] w fun e w' => e = .returned (.bool true) ∧ Mod (fun _ => False) w w' := by
  have hrun := run_any s inp w hs hi
  have HR : Hid _ := hR
  clear hR
  go_enter Tryz.func11, Tryz.ntmps11
  go_wp2_with fail
  refine hrun.mono ?_
  rintro e w1 ⟨hm1, r, hr, rfl⟩
  obtain rfl := hr.unique HR.out
  clear hrun hr HR
  go_wp2_with fail
  go_ret
  exact ⟨rfl, hm1⟩
end Go.Proofs.YtmnfndpbblpjiabGreatDoor

/- A script's steps, gone through: what every statement over scripts shares. -/
namespace Go.Proofs.YtmnfndpbblpjiabGreatDoor
open Go.RowKit

abbrev op4 (kd n : Int) (a b : ByteArray) : Value := .agg #[.int .i64 kd, .int .i64 n, .string a, .string b]
/-- A step in memory. -/
def Ope (w : World) (ob : Nat) (kd n : Int) (a b : ByteArray) : Prop := w.heap[ob]? = some (.cells #[.int .i64 kd, .int .i64 n, .string a, .string b] 56 (0, 0))
section
variable {w w' : World} {ob : Nat} {kd n : Int} {a b : ByteArray}
theorem Ope.c0 (h : Ope w ob kd n a b) : w.cell? ⟨ob, 0, none⟩ = some (.int .i64 kd) := by unfold Ope at h; simp [World.cell?, h]
theorem Ope.c1 (h : Ope w ob kd n a b) : w.cell? ⟨ob, 1, none⟩ = some (.int .i64 n) := by unfold Ope at h; simp [World.cell?, h]
theorem Ope.c2 (h : Ope w ob kd n a b) : w.cell? ⟨ob, 2, none⟩ = some (.string a) := by unfold Ope at h; simp [World.cell?, h]
theorem Ope.c3 (h : Ope w ob kd n a b) : w.cell? ⟨ob, 3, none⟩ = some (.string b) := by unfold Ope at h; simp [World.cell?, h]
theorem Ope.keep {p : Nat → Prop} (h : Ope w ob kd n a b) (hm : Mod p w w') (hp : ¬ p ob) : Ope w' ob kd n a b := hm.keep h hp
theorem ope_new (w : World) (kd n : Int) (a b : ByteArray) : Ope (w.alloc (.cells #[.int .i64 kd, .int .i64 n, .string a, .string b] 56)) w.heap.size kd n a b := by
  unfold Ope; show (w.heap.push _)[w.heap.size]? = _; simp
end

/-- A script. -/
def Scr (w : World) (v : Value) : Prop := ∃ ao len cap, v = .slice ao len cap ∧ len ≤ maxLen ∧ ∀ i, i < len → ∃ bk off kd n a b, ao = some ⟨bk, off, none⟩ ∧ bk < w.heap.size ∧
  w.cell? ⟨bk, off + i * 4, none⟩ = some (.int .i64 kd) ∧ w.cell? ⟨bk, off + i * 4 + 1, none⟩ = some (.int .i64 n) ∧ w.cell? ⟨bk, off + i * 4 + 2, none⟩ = some (.string a) ∧ w.cell? ⟨bk, off + i * 4 + 3, none⟩ = some (.string b) ∧
  a.size ≤ maxLen ∧ b.size ≤ maxLen ∧ (Lit.int .i64 n).wf = true

set_option maxHeartbeats 400000 in
theorem num_any (n : Int) (w : World) : Calls Tryz.prog 39 #[.int .i64 n] w fun e w' => e = .returned (.int .i64 n) ∧ w = w' := by
  go_enter Tryz.func39, Tryz.ntmps39
  go_wp2
  go_ret
  exact ⟨rfl, rfl⟩

/-- The steps of kinds from lo to hi are as the document says. -/
def Plays (lo hi : Int) : Prop := ∀ (kd n : Int) (a b : ByteArray) (w : World), lo ≤ kd → kd ≤ hi → a.size ≤ maxLen → b.size ≤ maxLen → (Lit.int .i64 n).wf = true →
  Calls Tryz.prog 30 #[op4 kd n a b] w fun e w' => e = .returned (.bool true) ∧ Mod (fun _ => False) w w'

set_option maxHeartbeats 1000000 in
set_option maxRecDepth 100000 in
theorem upto_any (v : Value) (lo hi : Int) (w : World) (hS : Scr w v) (hP : Plays lo hi) :
    Calls Tryz.prog 22 #[v, .int .i64 lo, .int .i64 hi] w fun e w' => e = .returned (.int .i64 (-1)) ∧ Mod (fun _ => False) w w' := by
  obtain ⟨ao, len, cap, rfl, hlen, hc⟩ := hS
  unfold maxLen at hlen
  have HC : Hid (∀ i, i < len → ∃ bk off kd n a b, ao = some ⟨bk, off, none⟩ ∧ bk < w.heap.size ∧
    w.cell? ⟨bk, off + i * 4, none⟩ = some (.int .i64 kd) ∧ w.cell? ⟨bk, off + i * 4 + 1, none⟩ = some (.int .i64 n) ∧ w.cell? ⟨bk, off + i * 4 + 2, none⟩ = some (.string a) ∧ w.cell? ⟨bk, off + i * 4 + 3, none⟩ = some (.string b) ∧
    a.size ≤ maxLen ∧ b.size ≤ maxLen ∧ (Lit.int .i64 n).wf = true) := hc
  have HP : Hid (Plays lo hi) := hP
  clear hc hP
  go_enter Tryz.func22, Tryz.ntmps22
  go_wp2_with fail
  go_loopw [7] (fun i wr => ∃ k : Nat, k ≤ len ∧ i = .int .i64 k ∧ Mod (fun _ => False) w wr) (fun i _ => len - (intOf i).toNat)
  case atStart => exact ⟨0, by omega, rfl, Mod.refl _ _⟩
  case round =>
    obtain ⟨k, hk, rfl, hm⟩ := hrel
    by_cases hlt : k < len
    · obtain ⟨bk, off, kd, n, a, b, rfl, hbk, c0, c1, c2, c3, ha, hb, hn⟩ := HC.out k hlt
      have HA : Hid (a.size ≤ maxLen ∧ b.size ≤ maxLen ∧ (Lit.int .i64 n).wf = true) := ⟨ha, hb, hn⟩
      have hbe : wr.heap[bk]? = w.heap[bk]? := hm.block bk hbk (fun f => f)
      have d0 := (World.cell?_of_block (a := ⟨bk, off + k * 4, none⟩) hbe).trans c0
      have d1 := (World.cell?_of_block (a := ⟨bk, off + k * 4 + 1, none⟩) hbe).trans c1
      have d2 := (World.cell?_of_block (a := ⟨bk, off + k * 4 + 2, none⟩) hbe).trans c2
      have d3 := (World.cell?_of_block (a := ⟨bk, off + k * 4 + 3, none⟩) hbe).trans c3
      clear c0 c1 c2 c3 ha hb hn hbe HC
      have hma : Mod (fun _ => False) wr (wr.alloc (.cells #[.int .i64 kd, .int .i64 n, .string a, .string b] 56)) := (Mod.refl _ wr).alloc _
      by_cases h1 : lo ≤ kd
      · by_cases h2 : kd ≤ hi
        · go_wp2_with fail
          refine (HP.out kd n a b _ h1 h2 HA.out.1 HA.out.2.1 HA.out.2.2).mono ?_
          rintro e w2 ⟨rfl, hm2⟩
          have hm3 := hm.trans (hma.trans hm2)
          clear hm hma hm2 d0 d1 d2 d3
          go_wp2_with fail
          go_roundw
          case rel => exact ⟨k + 1, by omega, by go_num, hm3⟩
          case measure => simp [intOf]; omega
        · have hm3 := hm.trans hma
          clear hm hma
          go_wp2_with fail
          go_roundw
          case rel => exact ⟨k + 1, by omega, by go_num, hm3⟩
          case measure => simp [intOf]; omega
      · have hm3 := hm.trans hma
        clear hm hma
        go_wp2_with fail
        go_roundw
        case rel => exact ⟨k + 1, by omega, by go_num, hm3⟩
        case measure => simp [intOf]; omega
    · clear HC
      go_wp2_with fail
      go_ret
      exact ⟨rfl, hm⟩
end Go.Proofs.YtmnfndpbblpjiabGreatDoor

/- From an argument that can be read to a script in memory: what every proof of a row over scripts shares. -/
namespace Go.Proofs.YtmnfndpbblpjiabGreatDoor
open Go.ChangeShapes Go.WideShapes Go.ChangeAt Go.RowKit Go.Deep Go.Joins

theorem Tryz.own : ownKnob Tryz.prog.godebug = none := by kernel_rfl
theorem Tryz.laidOut : laidOutB Tryz.prog = true := by kernel_rfl
theorem Tryz.cellsOp : Tryz.prog.cellsOf 56 = 4 := by kernel_rfl
theorem Tryz.cellsInt : Tryz.prog.cellsOf 3 = 1 := by kernel_rfl
theorem Tryz.cellsStr : Tryz.prog.cellsOf 9 = 1 := by kernel_rfl

theorem list4 {α : Type} {l : List α} (h : l.length = 4) : ∃ a b c d, l = [a, b, c, d] := by
  match l, h with
  | [a, b, c, d], _ => exact ⟨a, b, c, d, rfl⟩

set_option maxRecDepth 100000 in
theorem scr_of {H : Type} {enc : TypeId × Value → H} {W : World} {fuel : Nat} {v : Value} {x : DataW H × List MemPlace} (hv : ∃ a len cap, v = .slice a len cap) (h : DataW.trod enc Tryz.prog W 0 (fun _ => true) true fuel 43 v.cells.toList = some x) : Scr W v := by
  obtain ⟨a0, l0, cp0, rfl⟩ := hv
  rcases open_slice Tryz.underlying43 h with ⟨hcs, _⟩ | ⟨a, len, cap, m, n, D, Pl, hcs, _, hl, hm, hmm, _, hx⟩
  · simp [Value.cells] at hcs
    obtain ⟨rfl, rfl, rfl⟩ := hcs
    exact ⟨none, 0, 0, rfl, by unfold maxLen; omega, fun i hi => by omega⟩
  · simp [Value.cells] at hcs
    obtain ⟨rfl, rfl, rfl⟩ := hcs
    refine ⟨some a, l0, cp0, rfl, by omega, fun i hi => ?_⟩
    have him : i < m := by simp at hmm; omega
    obtain ⟨cs', h1, h2⟩ := hx i him
    rw [Tryz.cellsOp] at h1
    obtain ⟨_, hlen, hcell⟩ := World.cells?_some h1
    obtain ⟨y0, y1, y2, y3, n', _, _, g0, g1, g2, g3⟩ := trod_struct4 Tryz.underlying56 h2
    obtain ⟨v0, v1, v2, v3, rfl⟩ := list4 hlen
    · simp [Tryz.cellsInt, Tryz.cellsStr] at g0 g1 g2 g3
      obtain ⟨kd, e0, -, -⟩ := DataW.trod_int Tryz.underlying3 g0
      obtain ⟨nn, e1, -, wn⟩ := DataW.trod_int Tryz.underlying3 g1
      obtain ⟨s1, e2, -, hs1⟩ := DataW.trod_string Tryz.underlying9 g2
      obtain ⟨s2, e3, -, hs2⟩ := DataW.trod_string Tryz.underlying9 g3
      simp at e0 e1 e2 e3
      subst e0 e1 e2 e3
      have k0 := hcell 0 (by omega)
      have k1 := hcell 1 (by omega)
      have k2 := hcell 2 (by omega)
      have k3 := hcell 3 (by omega)
      rw [add_add] at k0 k1 k2 k3
      obtain ⟨bk, off, spot⟩ := a
      have hsp : spot = none := by
        obtain ⟨cs0, z1, _⟩ := hx 0 (by omega)
        rw [Tryz.cellsOp] at z1
        obtain ⟨_, zl, zc⟩ := World.cells?_some z1
        obtain ⟨z0, _, _, _, rfl⟩ := list4 zl
        have := zc 0 (by omega)
        rw [add_add] at this
        simpa [Addr.add] using World.cell?_spot (by simpa using this : W.cell? (Addr.add ⟨bk, off, spot⟩ 0) = some z0)
      subst hsp
      have hadd : ∀ j, (⟨bk, off, none⟩ : Addr).add j = ⟨bk, off + j, none⟩ := fun j => by
        unfold Addr.add
        by_cases h0 : j = 0
        · subst h0; simp
        · simp [h0]
      rw [hadd] at k0 k1 k2 k3
      have hb : bk < W.heap.size := by
        have : ∃ o, W.heap[bk]? = some o := by
          cases ho : W.heap[bk]? with
          | none => simp [World.cell?, ho] at k1
          | some o => exact ⟨o, rfl⟩
        obtain ⟨o, ho⟩ := this
        exact lt_of_block ho
      exact ⟨bk, off, kd, nn, s1, s2, rfl, hb, by simpa using k0, by simpa [Nat.add_assoc] using k1, by simpa [Nat.add_assoc] using k2, by simpa [Nat.add_assoc] using k3, hs1, hs2, wn⟩
end Go.Proofs.YtmnfndpbblpjiabGreatDoor

/- A world in which the three listed tables of Go's own library lie as their text lays them: for the witness of a row. -/
namespace Go.Proofs.YtmnfndpbblpjiabGreatDoor
open Go.ChangeShapes Go.WideShapes Go.ChangeAt Go.RowKit

def layCells (c : Array Value) : Obj → Obj
  | .cells _ t frozen => .cells c t frozen
  | o => o
def laidOn (W : World) : World :=
  { W with heap := ((W.heap.modify 0 (layCells #[.int .u64 1, .int .u64 10, .int .u64 100, .int .u64 1000, .int .u64 10000, .int .u64 100000, .int .u64 1000000, .int .u64 10000000, .int .u64 100000000, .int .u64 1000000000, .int .u64 10000000000, .int .u64 100000000000, .int .u64 1000000000000, .int .u64 10000000000000, .int .u64 100000000000000, .int .u64 1000000000000000, .int .u64 10000000000000000, .int .u64 100000000000000000, .int .u64 1000000000000000000, .int .u64 10000000000000000000])).modify 1 (layCells #[.int .u8 0, .int .u8 1, .int .u8 28, .int .u8 2, .int .u8 29, .int .u8 14, .int .u8 24, .int .u8 3, .int .u8 30, .int .u8 22, .int .u8 20, .int .u8 15, .int .u8 25, .int .u8 17, .int .u8 4, .int .u8 8, .int .u8 31, .int .u8 27, .int .u8 13, .int .u8 23, .int .u8 21, .int .u8 19, .int .u8 16, .int .u8 7, .int .u8 26, .int .u8 12, .int .u8 18, .int .u8 6, .int .u8 11, .int .u8 5, .int .u8 10, .int .u8 9])).modify 2 (layCells #[.int .u8 0, .int .u8 1, .int .u8 56, .int .u8 2, .int .u8 57, .int .u8 49, .int .u8 28, .int .u8 3, .int .u8 61, .int .u8 58, .int .u8 42, .int .u8 50, .int .u8 38, .int .u8 29, .int .u8 17, .int .u8 4, .int .u8 62, .int .u8 47, .int .u8 59, .int .u8 36, .int .u8 45, .int .u8 43, .int .u8 51, .int .u8 22, .int .u8 53, .int .u8 39, .int .u8 33, .int .u8 30, .int .u8 24, .int .u8 18, .int .u8 12, .int .u8 5, .int .u8 63, .int .u8 55, .int .u8 48, .int .u8 27, .int .u8 60, .int .u8 41, .int .u8 37, .int .u8 16, .int .u8 46, .int .u8 35, .int .u8 44, .int .u8 21, .int .u8 52, .int .u8 32, .int .u8 23, .int .u8 11, .int .u8 54, .int .u8 26, .int .u8 40, .int .u8 15, .int .u8 34, .int .u8 20, .int .u8 31, .int .u8 10, .int .u8 25, .int .u8 14, .int .u8 19, .int .u8 9, .int .u8 13, .int .u8 8, .int .u8 7, .int .u8 6]) }
theorem laid_met (os : Os) : laidMet Tryz.prog Rows.sidesRow.laid ((laidOn (World.holding Tryz.prog os ⟨#[], #[], []⟩)).forCall (fun _ _ => 0) ⟨#[], #[.slice none 0 0], []⟩).memory :=
  laidMet_of_run' 8 (by kernel_rfl) (by kernel_rfl)
/-- No parameter wants a stand-in; the program's own looks are off. -/
theorem plain_of {name : String} {k : FuncId} {fk : Func} (hk : Tryz.prog.funcNamed name = some k) (hfk : Tryz.prog.funcs[k]? = some fk) (hp : fk.params = #[43]) (f : FuncId) (fn : Func) (hf : Tryz.pinned.checked.prog.funcNamed name = some f) (hfn : Tryz.pinned.checked.prog.funcs[f]? = some fn) :
    false = Tryz.pinned.checked.prog.looks [] ∧ ∀ (j : Nat) t, fn.params[j]? = some t → Tryz.pinned.checked.prog.wantsStandIn t = false := by
  obtain rfl : f = k := Option.some.inj (hk.symm.trans hf) |>.symm
  obtain rfl : fn = fk := (Option.some.inj (hfk.symm.trans hfn)).symm
  refine ⟨by kernel_rfl, fun j t ht => ?_⟩
  rw [hp] at ht
  obtain rfl : t = 43 := by simpa using Array.mem_of_getElem? ht
  exact (show Tryz.prog.wantsStandIn 43 = false by kernel_rfl)
end Go.Proofs.YtmnfndpbblpjiabGreatDoor

/- From arguments that can be read to points; the library's table; the closing of a statement over three points. -/
namespace Go.Proofs.YtmnfndpbblpjiabGreatDoor
open Go.ChangeShapes Go.WideShapes Go.ChangeAt Go.RowKit Go.Deep Go.Joins

theorem Tryz.cellsSp : Tryz.prog.cellsOf 23 = 2 := by kernel_rfl
theorem isI_of {n : Int} (h : (Lit.int .i64 n).wf = true) : isI n := by
  have e1 : IntKind.i64.min = -9223372036854775808 := by rfl
  have e2 : IntKind.i64.max = 9223372036854775807 := by rfl
  unfold isI
  simp [Lit.wf] at h
  omega
theorem spot_of {H : Type} {enc : TypeId × Value → H} {W : World} {fuel : Nat} {v : Value} {x : DataW H × List MemPlace} (hv : ∃ cs, v = .agg cs ∧ cs.size = Tryz.prog.cellsOf 23) (h : DataW.trod enc Tryz.prog W 0 (fun _ => true) true fuel 23 v.cells.toList = some x) :
    ∃ a b, v = spV a b ∧ isI a ∧ isI b := by
  obtain ⟨cs, rfl, hc⟩ := hv
  rw [Tryz.cellsSp] at hc
  obtain ⟨y0, y1, n', _, _, g0, g1⟩ := trod_struct2 Tryz.underlying23 h
  have hc2 : cs.toList.length = 2 := by simpa using hc
  obtain ⟨v0, v1, hl⟩ : ∃ a b, cs.toList = [a, b] := by
    match cs.toList, hc2 with
    | [a, b], _ => exact ⟨a, b, rfl⟩
  have hcs : cs = #[v0, v1] := by rw [← Array.toList_inj]; exact hl
  subst hcs
  simp [Value.cells, Tryz.cellsInt] at g0 g1
  obtain ⟨a, e0, -, w0⟩ := DataW.trod_int Tryz.underlying3 g0
  obtain ⟨b, e1, -, w1⟩ := DataW.trod_int Tryz.underlying3 g1
  simp at e0 e1
  subst e0 e1
  exact ⟨a, b, rfl, isI_of w0, isI_of w1⟩
theorem tab_of {W : World} (h : laidMetH Tryz.prog Rows.sidesRow.laid W) : Tab W := by
  have h1 : laidMet Tryz.prog Rows.sidesRow.laid W := h
  have h2 := laidMet.tail (laidMet.tail h1)
  exact Lib.tabIs_of_head (P := Tryz.prog) (rest := []) (g := 0) (t := 225) (e := 188) (n := 20) (by kernel_rfl) (by kernel_rfl) (by kernel_rfl) (by kernel_rfl) (by kernel_rfl) (by kernel_rfl) h2
theorem laid_met3 (os : Os) : laidMet Tryz.prog Rows.sidesRow.laid ((laidOn (World.holding Tryz.prog os ⟨#[], #[], []⟩)).forCall (fun _ _ => 0) ⟨#[], #[spV 0 0, spV 0 0, spV 0 0], []⟩).memory :=
  laidMet_of_run' 8 (by kernel_rfl) (by kernel_rfl)
/-- No parameter wants a stand-in; the program's own looks are off. -/
theorem plain_of3 {name : String} {k : FuncId} {fk : Func} (hk : Tryz.prog.funcNamed name = some k) (hfk : Tryz.prog.funcs[k]? = some fk) (hp : fk.params = #[23, 23, 23]) (f : FuncId) (fn : Func) (hf : Tryz.pinned.checked.prog.funcNamed name = some f) (hfn : Tryz.pinned.checked.prog.funcs[f]? = some fn) :
    false = Tryz.pinned.checked.prog.looks [] ∧ ∀ (j : Nat) t, fn.params[j]? = some t → Tryz.pinned.checked.prog.wantsStandIn t = false := by
  obtain rfl : f = k := Option.some.inj (hk.symm.trans hf) |>.symm
  obtain rfl : fn = fk := (Option.some.inj (hfk.symm.trans hfn)).symm
  refine ⟨by kernel_rfl, fun j t ht => ?_⟩
  rw [hp] at ht
  obtain rfl : t = 23 := by simpa using Array.mem_of_getElem? ht
  exact (show Tryz.prog.wantsStandIn 23 = false by kernel_rfl)
end Go.Proofs.YtmnfndpbblpjiabGreatDoor

/- Two points compared, where a walk stands at the operation. -/
namespace Go.Proofs.YtmnfndpbblpjiabGreatDoor
open Go.RowKit Pu
theorem wpList_eqS {ops : Array Oper} {rest : List Oper} {op : Oper} {a : Act} {w : World} {Q : Exit → Act → World → Prop} (hgd : op.guard = none) (x y : Operand) (ho : op.op = .binOp .eql 23 x y 23)
    (x0 y0 x1 y1 : Int) (hx : a.eval x = spV x0 y0) (hy : a.eval y = spV x1 y1) (b : Bool) (hb : (x0 == x1 && y0 == y1) = b)
    (h : wpList Tryz.prog ops Q rest (a.put op.dst (.bool b)) w) : wpList Tryz.prog ops Q (op :: rest) a w :=
  wpList_plain hgd fun _ hK => by
    have hl : (do
            eqGuard .eql 23 x y (spV x0 y0) (spV x1 y1)
            binOp .eql 23 (spV x0 y0) (spV x1 y1) : Sem Value).run Tryz.prog w = .ok (.bool b) w := by
      subst hb
      have h1 : ∀ (d : Nat) (p q : Int) (w : World), (Op.equalIn (d + 1) 3 (.int .i64 p) (.int .i64 q)).run Tryz.prog w = .ok (p == q) w := fun d p q w => by simp [Op.equalIn, run_underlying Tryz.underlying3]
      have hst : Tryz.prog.stoodInHeld 23 = false := by kernel_rfl
      have h3 : ∀ d, (Op.equalIn (d + 1 + 1) 23 (spV x0 y0) (spV x1 y1)).run Tryz.prog w = .ok (x0 == x1 && y0 == y1) w := fun d => by
        rw [Op.equalIn]
        cases hx1 : (x0 == x1) <;> cases hy1 : (y0 == y1) <;> simp [run_underlying Tryz.underlying23, h1, hst, go_sem, hx1, hy1]
      have h2 : (Op.equal 23 (spV x0 y0) (spV x1 y1)).run Tryz.prog w = .ok (x0 == x1 && y0 == y1) w := h3 9998
      simp [eqGuard, binOp, go_sem, h2]
    unfold Oper.wp execOp
    simp only [ho, hx, hy]
    rw [Sem.run_bind, hl]
    exact hK _ _ h
end Go.Proofs.YtmnfndpbblpjiabGreatDoor

/- Check on both sides. -/
namespace Go.Proofs.YtmnfndpbblpjiabGreatDoor
open Go.RowKit Pu

set_option maxHeartbeats 400000 in
theorem check_long (s : ByteArray) (w : World) (hs : 300 < s.size) (hm : s.size ≤ maxLen) : Calls Tryz.prog 29 #[.string s] w fun e w' => e = .returned (.tuple #[.int .i64 1, .int .i64 0]) ∧ w = w' := by
  go_enter Tryz.func29, Tryz.ntmps29
  go_wp2_with fail
  refine (und_long s w hs hm).mono ?_
  rintro e w2 ⟨rfl, rfl⟩
  go_wp2_with fail
  go_ret2
  exact ⟨rfl, rfl⟩

set_option maxHeartbeats 400000 in
theorem check_any (s : ByteArray) (w : World) (hs : s.size ≤ 300) : Calls Tryz.prog 29 #[.string s] w fun e w' => (∃ a b : Nat, Ans s a b ∧ e = .returned (.tuple #[.int .i64 a, .int .i64 b])) ∧ Mod (fun _ => False) w w' := by
  go_enter Tryz.func29, Tryz.ntmps29
  go_wp2_with fail
  refine (und_any s w hs).mono ?_
  rintro e w2 ⟨hm, ⟨k, hst, rfl⟩ | ⟨hw, p, k, hk, hok, hp, he, rfl⟩ | ⟨hw, v, q, hok, hq, hL, hle, rfl⟩⟩
  · go_wp2_with fail
    go_ret2
    exact ⟨⟨2, k, .inl ⟨hst, rfl⟩, rfl⟩, hm⟩
  · have HA : Hid (Ans s (err p (gaA s s.size).l[k]) k) := .inr (.inl ⟨hw, p, hk, hok, hp, he, rfl⟩)
    generalize err p (gaA s s.size).l[k] = er at *
    clear hp
    go_wp2_with fail
    go_ret2
    exact ⟨⟨er, k, HA.out, rfl⟩, hm⟩
  · have HA : Hid (Ans s 0 0) := .inr (.inr ⟨hw, rfl, rfl, pq q, hok, by rw [sts_pq]; exact hq⟩)
    clear hq
    go_wp2_with fail
    go_ret2
    exact ⟨⟨0, 0, HA.out, rfl⟩, hm⟩
end Go.Proofs.YtmnfndpbblpjiabGreatDoor

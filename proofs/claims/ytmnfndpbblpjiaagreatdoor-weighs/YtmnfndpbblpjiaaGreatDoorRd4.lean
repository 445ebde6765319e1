/- readArgs: the bracket, up to four names, the bracket. -/
import Derived.Test.YtmnfndpbblpjiaaGreatDoorRd3
namespace Go.Proofs.YtmnfndpbblpjiaaGreatDoor
open Go.RowKit Pu

def AAt (s : ByteArray) (k n le : Nat) (l : List St) (nm : Nat) (wd ag : List UInt8) : Prop :=
  (ag = [] ∧ At s k 4 n le 0 l ⟨nm, wd, []⟩ true ∧ g s k ≠ 41) ∨ (ag ≠ [] ∧ At s k 6 n le ag.length l ⟨nm, wd, ag⟩ true)
theorem AAt.step {s : ByteArray} {k n le : Nat} {l : List St} {nm : Nat} {wd ag : List UInt8} (h : AAt s k n le l nm wd ag) (hc : isL (g s k) = true) : At s (k + 1) 5 n le (ag ++ [bt s k]).length l ⟨nm, wd, ag ++ [bt s k]⟩ true := by
  rcases h with ⟨rfl, h, _⟩ | ⟨hn, h⟩
  · simpa using at_arg (.inl h) hc
  · simpa using at_arg (.inr h) hc
theorem AAt.stuck {s : ByteArray} {k n le : Nat} {l : List St} {nm : Nat} {wd ag : List UInt8} (h : AAt s k n le l nm wd ag) (hk : k ≤ s.size) (hc : isL (g s k) = false) : Stuck s k := by
  rcases h with ⟨rfl, h, h41⟩ | ⟨hn, h⟩
  · exact stuck_of h hk (.inl (by omega)) (by simp [nx, hc, h41])
  · exact stuck_of h hk (.inl (by omega)) (by simp [nx, hc])
def lenAt (w : World) (sb : Nat) : Nat := sliceLen ((w.cell? ⟨sb, 2, none⟩).getD undef)
theorem Se.lenAt {w : World} {sb n : Nat} {wd : List UInt8} {av : Value} {wt : Int} (h : Se w sb n wd av wt) : lenAt w sb = sliceLen av := by unfold Go.Proofs.YtmnfndpbblpjiaaGreatDoor.lenAt; rw [h.c2]; rfl
/-- What readArgs leaves. -/
def ArgsEnd (rb sb B : Nat) (s : ByteArray) (n : Nat) (l : List St) (nm : Nat) (wd : List UInt8) (e : Ending) (w' : World) : Prop := ∃ k', k' ≤ s.size ∧ Rd w' rb s k' ∧
      ((e = .returned (.bool true) ∧ ∃ ag av le' ar', At s k' 7 n le' ar' l ⟨nm, wd, ag⟩ false ∧ Se w' sb nm wd av 0 ∧ w'.ownsRow B 5 1 av ag.length (bvs ag)) ∨ (e = .returned (.bool false) ∧ Stuck s k'))

set_option maxHeartbeats 1600000 in
set_option maxRecDepth 100000 in
theorem args_any (rb sb : Nat) (s : ByteArray) (k n le ar : Nat) (l : List St) (nm : Nat) (wd : List UInt8) (w : World) (hs : s.size ≤ 300) (hk : k ≤ s.size) (hr : Rd w rb s k) (hS : Se w sb nm wd NoArgs 0)
    (hA : At s k 3 n le ar l ⟨nm, wd, []⟩ false) (h6 : le = 6 ∨ isL (g s k) = false) :
    Calls Tryz.prog 142 #[.pointer (some ⟨rb, 0, none⟩), .pointer (some ⟨sb, 0, none⟩)] w fun e w' => Mod (fun i => i = rb ∨ i = sb) w w' ∧ ArgsEnd rb sb w.heap.size s n l nm wd e w' := by
  have hne := hS.ne hr
  have hrl := hr.lt
  have hsl := hS.lt
  obtain ⟨i0, hi, hz0, hz1, hz2⟩ := info_parts Tryz.info5
  have H6 : Hid (le = 6 ∨ isL (g s k) = false) := h6
  clear h6
  by_cases h40 : g s k = 40
  · have hA4 := at_open hA h40
    have H40 : Hid (g s k = 40) := h40
    clear h40
    by_cases h41 : g s (k + 1) = 41
    · have H41 : Hid (g s (k + 1) = 41) := h41
      clear h41
      go_enter Tryz.func142, Tryz.ntmps142
      go_wp2_with fail
      refine (take_yes rb s k 40 _ hs hk hr (by omega) H40.out).mono ?_
      rintro e w1 ⟨rfl, hr1, hk1, hm1⟩
      go_wp2_with fail
      refine (take_yes rb s (k + 1) 41 _ hs hk1 hr1 (by omega) H41.out).mono ?_
      rintro e w2 ⟨rfl, hr2, hk2, hm2⟩
      go_wp2
      go_ret
      exact ⟨(hm1.trans hm2).mono (fun _ _ h => .inl h), k + 2, hk2, hr2, .inl ⟨rfl, [], NoArgs, _, _, at_none hA4 H41.out, (hS.keep hm1 (fun h => hne h.symm)).keep hm2 (fun h => hne h.symm), World.ownsRow_nil _ _ _ _⟩⟩
    · go_enter Tryz.func142, Tryz.ntmps142
      go_wp2_with fail
      refine (take_yes rb s k 40 _ hs hk hr (by omega) H40.out).mono ?_
      rintro e w1 ⟨rfl, hr1, hk1, hm1⟩
      go_wp2_with fail
      refine (take_no rb s (k + 1) 41 _ hs hk1 hr1 h41).mono ?_
      rintro e w2 ⟨rfl, hr2, hm2⟩
      have hS2 := (hS.keep hm1 (fun h => hne h.symm)).keep hm2 (fun h => hne h.symm)
      have hm2' : Mod (fun i => i = rb ∨ i = sb) w w2 := (hm1.trans hm2).mono (fun _ _ h => .inl h)
      have hAA : AAt s (k + 1) n le l nm wd [] := .inl ⟨rfl, hA4, h41⟩
      clear hm1 hm2 hS hr hr1 h41 hA4 hA
      go_wp2
      go_loopw [5] (fun _ wr => ∃ (k' : Nat) (ag : List UInt8) (av : Value), ag.length < 4 ∧ wr.ownsRow w.heap.size 5 1 av ag.length (bvs ag) ∧ Rd wr rb s k' ∧ AAt s k' n le l nm wd ag ∧ Se wr sb nm wd av 0 ∧ Mod (fun i => i = rb ∨ i = sb) w wr ∧ k' ≤ s.size)
        (fun _ wr => 4 - lenAt wr sb)
      case atStart => exact ⟨k + 1, [], NoArgs, by simp, World.ownsRow_nil _ _ _ _, hr2, hAA, hS2, hm2', hk1⟩
      case round =>
        clear hr2 hAA hS2 hm2' hk1
        obtain ⟨k', ag, av, hlen, hown, hr', hW, hS', hm, hk'⟩ := hrel
        obtain ⟨ao, cap, rfl, -⟩ := owns_form hown
        have hsz := hm.size
        have HLen : Hid (lenAt wr sb = ag.length) := hS'.lenAt
        have cc := hS'.c2
        by_cases hL : isL (g s k') = true
        · have hc := (isL_iff _).1 hL
          have hA5 := hW.step hL
          have HL : Hid (isL (g s k') = true) := hL
          have hnz : ((g s k' : Int) == 0) = false := by simp; omega
          clear hL hW
          go_wp2_with fail
          refine (letter_yes rb s k' _ hs hk' hr' HL.out).mono ?_
          rintro e w3 ⟨rfl, hr3, hk3, hm3⟩
          have hown3 := owns_mod hown hm3 (fun q hq he => by omega)
          have hS3 := hS'.keep hm3 (fun h => hne h.symm)
          have hm4 := hm.trans (hm3.mono (q := fun i => i = rb ∨ i = sb) (fun _ _ h => .inl h))
          have hsz3 := hm4.size
          clear cc hown hr' hS' hm hm3 hsz
          have cc := hS3.c2
          go_wp2_with (at_builtin; refine wpList_append_own _ rfl _ _ 75 rfl w.heap.size 5 i0 (.int .u8 0) 1 1 Tryz.underlying75 hi hz0 hz1 hz2 rfl (by decide) _ _ _ rfl (hown3.alloc _) ⟨w3.heap.size, 0, none⟩ 1 1 [.int .u8 (g s k')] rfl rfl ?c1 ?c2 ?c3 ?c4 ?c5 ?_)
          case c1 => exact cell_one_new _ _ _
          case c2 => intro u hu; simp at hu; subst hu; rfl
          case c3 => unfold maxLen; omega
          case c4 => omega
          case c5 => simp; omega
          intro v' w4 hown4 hgrow _
          have hm5 := (hm4.alloc _).grown hgrow (fun q hq hlt => by have := (hown3.lt q hq).1; omega)
          have hg2 : Mod (fun q => w.heap.size ≤ q) w3 w4 := ((Mod.refl _ w3).alloc _).grown hgrow (fun q hq _ => (hown3.lt q hq).1)
          have hr4 := hr3.keep hg2 (by omega)
          have hS4 := hS3.keep hg2 (by omega)
          have hown5 : w4.ownsRow w.heap.size 5 1 v' (ag ++ [bt s k']).length (bvs (ag ++ [bt s k'])) := by rw [← bvs_snoc, List.length_append]; exact hown4
          obtain ⟨ao', cap', rfl, -⟩ := owns_form hown4
          clear cc hown4 hgrow hown3 hr3 hS3 hm4 hg2 hsz3
          have cc := hS4.c2
          have cf := hS4.fz 2
          generalize hv' : Value.slice ao' (ag.length + 1) cap' = v' at *
          have hS6 := hS4.set2 v'
          have hmS : Mod (fun i => i = sb) w4 (w4.setCell ⟨sb, 2, none⟩ v') := (Mod.refl (fun i => i = sb) w4).setCell _ _ (fun _ => rfl)
          have hr6 := hr4.keep hmS hne
          have hown6 := owns_mod hown5 hmS (fun q hq he => by omega)
          have hm6 := hm5.trans (hmS.mono (q := fun i => i = rb ∨ i = sb) (fun _ _ h => .inr h))
          subst hv'
          clear hmS hS4 hr4 hown5 hm5
          have hl3 : ag.length ≤ 3 := by omega
          by_cases h4 : ag.length = 3
          · have H4 : Hid (ag.length = 3) := h4
            clear h4
            have h4 : ((ag.length : Int) + 1 == 4) = true := by have := H4.out; simp; omega
            go_wp2_with fail
            by_cases h41 : g s (k' + 1) = 41
            · have H41 : Hid (g s (k' + 1) = 41) := h41
              clear h41
              refine (take_yes rb s (k' + 1) 41 _ hs hk3 hr6 (by omega) H41.out).mono ?_
              rintro e w7 ⟨rfl, hr7, hk7, hm7⟩
              go_wp2
              go_ret
              exact ⟨hm6.trans (hm7.mono (fun _ _ h => .inl h)), k' + 2, hk7, hr7, .inl ⟨rfl, ag ++ [bt s k'], _, _, _, at_shut hA5 H41.out, hS6.keep hm7 (fun h => hne h.symm), owns_mod hown6 hm7 (fun q hq he => by omega)⟩⟩
            · refine (take_no rb s (k' + 1) 41 _ hs hk3 hr6 h41).mono ?_
              rintro e w7 ⟨rfl, hr7, hm7⟩
              go_wp2
              go_ret
              exact ⟨hm6.trans (hm7.mono (fun _ _ h => .inl h)), k' + 1, hk3, hr7, .inr ⟨rfl, stuck_of hA5 hk3 (.inl (by omega)) (by have := H4.out; simp [nx, h41]; omega)⟩⟩
          · have h4' : ((ag.length : Int) + 1 == 4) = false := by simp; omega
            go_wp2_with fail
            refine (peek_any rb s (k' + 1) _ hs hk3 hr6).mono ?_
            rintro e w7 ⟨rfl, nq, rfl⟩
            generalize w4.setCell ⟨sb, 2, none⟩ (Value.slice ao' (ag.length + 1) cap') = w6 at *
            clear cc cf
            by_cases hcm : g s (k' + 1) = 44
            · have hq : ((g s (k' + 1) : Int) != 44) = false := by simp; omega
              have HC : Hid (g s (k' + 1) = 44) := hcm
              have hA6 := at_comma hA5 (by simp; omega) hcm
              clear hcm hA5
              have hlt : k' + 1 < s.size := lt_of_g (by have := HC.out; omega)
              have h1 := hr6.c1
              have hf := hr6.f1
              have hr8 := (hr6.drewN nq).set (k' + 2)
              have hmR : Mod (fun i => i = rb) w6 ((w6.drewN nq).setCell ⟨rb, 1, none⟩ (.int .i64 (k' + 2 : Nat))) := (Mod.same nq _ w6).setCell _ _ (fun _ => rfl)
              have hS8 := hS6.keep hmR (fun h => hne h.symm)
              have hown8 := owns_mod hown6 hmR (fun q hq he => by omega)
              have hm8 := hm6.trans (hmR.mono (q := fun i => i = rb ∨ i = sb) (fun _ _ h => .inl h))
              have hle8 := hS8.lenAt
              clear hmR hS6 hown6 hm6 hr6
              have e2 : ((k' : Int) + 1 + 1) = ((k' + 2 : Nat) : Int) := by omega
              go_wp2
              go_roundw
              case rel => exact ⟨k' + 2, ag ++ [bt s k'], _, by simp; omega, hown8, hr8, .inr ⟨by simp, hA6⟩, hS8, hm8, hlt⟩
              case measure => refine Nat.lt_of_le_of_lt (Nat.le_of_eq (congrArg (4 - ·) hle8)) ?_; rw [HLen.out]; simp [sliceLen]; omega
            · have hq : ((g s (k' + 1) : Int) != 44) = true := by simp; omega
              go_wp2_with fail
              by_cases h41 : g s (k' + 1) = 41
              · have H41 : Hid (g s (k' + 1) = 41) := h41
                clear h41
                refine (take_yes rb s (k' + 1) 41 _ hs hk3 (hr6.drewN nq) (by omega) H41.out).mono ?_
                rintro e w7 ⟨rfl, hr7, hk7, hm7⟩
                go_wp2
                go_ret
                exact ⟨(hm6.drewN nq).trans (hm7.mono (fun _ _ h => .inl h)), k' + 2, hk7, hr7, .inl ⟨rfl, ag ++ [bt s k'], _, _, _, at_shut hA5 H41.out, (hS6.drewN nq).keep hm7 (fun h => hne h.symm), owns_mod (owns_drewN hown6 nq) hm7 (fun q hq he => by omega)⟩⟩
              · refine (take_no rb s (k' + 1) 41 _ hs hk3 (hr6.drewN nq) h41).mono ?_
                rintro e w7 ⟨rfl, hr7, hm7⟩
                go_wp2
                go_ret
                exact ⟨(hm6.drewN nq).trans (hm7.mono (fun _ _ h => .inl h)), k' + 1, hk3, hr7, .inr ⟨rfl, stuck_of hA5 hk3 (.inl (by omega)) (by simp [nx, h41, hcm])⟩⟩
        · have HL : Hid (isL (g s k') = false) := show isL (g s k') = false by simpa using hL
          clear hL
          go_wp2_with fail
          refine (letter_no rb s k' _ hs hk' hr' HL.out).mono ?_
          rintro e w3 ⟨rfl, hr3, hm3⟩
          go_wp2
          go_ret
          exact ⟨hm.trans (hm3.mono (fun _ _ h => .inl h)), k', hk', hr3, .inr ⟨rfl, hW.stuck hk' HL.out⟩⟩
  · go_enter Tryz.func142, Tryz.ntmps142
    go_wp2_with fail
    refine (take_no rb s k 40 _ hs hk hr h40).mono ?_
    rintro e w1 ⟨rfl, hr1, hm1⟩
    go_wp2
    go_ret
    exact ⟨hm1.mono (fun _ _ h => .inl h), k, hk, hr1, .inr ⟨rfl, stuck_of hA hk (.inl (by omega)) (by rcases H6.out with h | h <;> simp [nx, h, h40])⟩⟩
end Go.Proofs.YtmnfndpbblpjiaaGreatDoor

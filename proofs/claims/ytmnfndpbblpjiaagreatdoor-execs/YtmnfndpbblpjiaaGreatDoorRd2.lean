/- readHead: a name and the sign of equality, or the sign of a question. -/
import Derived.Test.YtmnfndpbblpjiaaGreatDoorRd1
namespace Go.Proofs.YtmnfndpbblpjiaaGreatDoor
open Go.RowKit Pu

def NoArgs : Value := .slice none 0 0

set_option maxHeartbeats 400000 in
theorem head_any (rb sb : Nat) (s : ByteArray) (k n le ar : Nat) (l : List St) (w : World) (hs : s.size ≤ 300) (hk : k < s.size) (hr : Rd w rb s k) (hS : Se w sb 0 [] NoArgs 0)
    (hA : At s k 0 n le ar l ⟨0, [], []⟩ false) (hn : n ≠ 16) :
    Calls Tryz.prog 140 #[.pointer (some ⟨rb, 0, none⟩), .pointer (some ⟨sb, 0, none⟩)] w fun e w' => Mod (fun i => i = rb ∨ i = sb) w w' ∧ ∃ k', k' ≤ s.size ∧ Rd w' rb s k' ∧
      ((e = .returned (.bool true) ∧ ∃ nm, At s k' 2 n le ar l ⟨nm, [], []⟩ false ∧ Se w' sb nm [] NoArgs 0) ∨ (e = .returned (.bool false) ∧ Stuck s k')) := by
  have hne := hS.ne hr
  by_cases h63 : g s k = 63
  · have HA : Hid (At s k 0 n le ar l ⟨0, [], []⟩ false) := hA; have HS : Hid (Se w sb 0 [] NoArgs 0) := hS; clear hA hS
    have H63 : Hid (g s k = 63) := h63
    clear h63
    go_enter Tryz.func140, Tryz.ntmps140
    go_wp2_with fail
    refine (take_yes rb s k 63 _ hs (by omega) hr (by omega) H63.out).mono ?_
    rintro e w1 ⟨rfl, hr1, hk1, hm1⟩
    go_wp2
    go_ret
    exact ⟨hm1.mono (fun _ _ h => .inl h), k + 1, hk1, hr1, .inl ⟨rfl, 0, at_ask HA.out hn H63.out, HS.out.keep hm1 (fun h => hne h.symm)⟩⟩
  · have HA : Hid (At s k 0 n le ar l ⟨0, [], []⟩ false) := hA; have HS : Hid (Se w sb 0 [] NoArgs 0) := hS; clear hA hS
    by_cases hL : isL (g s k) = true
    · have hl := (isL_iff _).1 hL
      by_cases h61 : g s (k + 1) = 61
      · have H61 : Hid (g s (k + 1) = 61) := h61
        clear h61
        have HL : Hid (isL (g s k) = true) := hL
        clear hL
        go_enter Tryz.func140, Tryz.ntmps140
        go_wp2_with fail
        refine (take_no rb s k 63 _ hs (by omega) hr h63).mono ?_
        rintro e w1 ⟨rfl, hr1, hm1⟩
        go_wp2_with fail
        refine (letter_yes rb s k _ hs (by omega) hr1 HL.out).mono ?_
        rintro e w2 ⟨rfl, hr2, hk2, hm2⟩
        have hS2 := (HS.out.keep hm1 (fun h => hne h.symm)).keep hm2 (fun h => hne h.symm)
        have cc := hS2.c0
        have cf := hS2.fz 0
        have hz : ((g s k : Int) == 0) = false := by simp; omega
        go_wp2_with fail
        have hS3 := hS2.set0 (g s k)
        have hm3 : Mod (fun i => i = rb ∨ i = sb) w (w2.setCell ⟨sb, 0, none⟩ (.int .u8 (g s k))) := ((hm1.trans hm2).mono (fun _ _ h => .inl h)).setCell _ _ (fun _ => .inr rfl)
        have hr3 : Rd (w2.setCell ⟨sb, 0, none⟩ (.int .u8 (g s k))) rb s (k + 1) := hr2.keep ((Mod.refl (fun i => i = sb) w2).setCell _ _ (fun _ => rfl)) hne
        clear cc cf hS2
        refine (take_yes rb s (k + 1) 61 _ hs (by omega) hr3 (by omega) H61.out).mono ?_
        rintro e w4 ⟨rfl, hr4, hk4, hm4⟩
        go_wp2
        go_ret
        exact ⟨hm3.trans (hm4.mono (fun _ _ h => .inl h)), k + 2, hk4, hr4, .inl ⟨rfl, g s k, by have := at_equal (at_name HA.out hn HL.out) H61.out; simpa using this, hS3.keep hm4 (fun h => hne h.symm)⟩⟩
      · have HL : Hid (isL (g s k) = true) := hL
        clear hL
        go_enter Tryz.func140, Tryz.ntmps140
        go_wp2_with fail
        refine (take_no rb s k 63 _ hs (by omega) hr h63).mono ?_
        rintro e w1 ⟨rfl, hr1, hm1⟩
        go_wp2_with fail
        refine (letter_yes rb s k _ hs (by omega) hr1 HL.out).mono ?_
        rintro e w2 ⟨rfl, hr2, hk2, hm2⟩
        have hS2 := (HS.out.keep hm1 (fun h => hne h.symm)).keep hm2 (fun h => hne h.symm)
        have cc := hS2.c0
        have cf := hS2.fz 0
        have hz : ((g s k : Int) == 0) = false := by simp; omega
        go_wp2_with fail
        have hm3 : Mod (fun i => i = rb ∨ i = sb) w (w2.setCell ⟨sb, 0, none⟩ (.int .u8 (g s k))) := ((hm1.trans hm2).mono (fun _ _ h => .inl h)).setCell _ _ (fun _ => .inr rfl)
        have hr3 : Rd (w2.setCell ⟨sb, 0, none⟩ (.int .u8 (g s k))) rb s (k + 1) := hr2.keep ((Mod.refl (fun i => i = sb) w2).setCell _ _ (fun _ => rfl)) hne
        clear cc cf hS2
        refine (take_no rb s (k + 1) 61 _ hs (by omega) hr3 h61).mono ?_
        rintro e w4 ⟨rfl, hr4, hm4⟩
        go_wp2
        go_ret
        exact ⟨hm3.trans (hm4.mono (fun _ _ h => .inl h)), k + 1, hk2, hr4, .inr ⟨rfl, stuck_of (at_name HA.out hn HL.out) hk2 (.inl (by omega)) (by simp [nx, h61])⟩⟩
    · have hL' : isL (g s k) = false := by simpa using hL
      have HL : Hid (isL (g s k) = false) := hL'
      clear hL hL'
      go_enter Tryz.func140, Tryz.ntmps140
      go_wp2_with fail
      refine (take_no rb s k 63 _ hs (by omega) hr h63).mono ?_
      rintro e w1 ⟨rfl, hr1, hm1⟩
      go_wp2_with fail
      refine (letter_no rb s k _ hs (by omega) hr1 HL.out).mono ?_
      rintro e w2 ⟨rfl, hr2, hm2⟩
      have hS2 := (HS.out.keep hm1 (fun h => hne h.symm)).keep hm2 (fun h => hne h.symm)
      have cc := hS2.c0
      have cf := hS2.fz 0
      go_wp2
      go_ret
      exact ⟨((hm1.trans hm2).mono (fun _ _ h => .inl h)).setCell _ _ (fun _ => .inr rfl), k, by omega, hr2.keep ((Mod.refl (fun i => i = sb) w2).setCell _ _ (fun _ => rfl)) hne,
        .inr ⟨rfl, stuck_of HA.out (by omega) (.inr hk) (by simp [nx, hn, h63, HL.out])⟩⟩
end Go.Proofs.YtmnfndpbblpjiaaGreatDoor

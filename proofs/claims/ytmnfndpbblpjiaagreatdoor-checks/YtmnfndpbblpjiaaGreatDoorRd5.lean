/- readStatement and parse: the statements of a text, or the place where the scanner stands. -/
import Derived.Test.YtmnfndpbblpjiaaGreatDoorRd4
namespace Go.Proofs.YtmnfndpbblpjiaaGreatDoor
open Go.RowKit Pu

set_option maxHeartbeats 800000 in
set_option maxRecDepth 100000 in
theorem statement_any (rb sb : Nat) (s : ByteArray) (k n le ar : Nat) (l : List St) (w : World) (hs : s.size ≤ 300) (hk : k < s.size) (hr : Rd w rb s k) (hS : Se w sb 0 [] NoArgs 0)
    (hA : At s k 0 n le ar l ⟨0, [], []⟩ false) (hn : n ≠ 16) :
    Calls Tryz.prog 87 #[.pointer (some ⟨rb, 0, none⟩), .pointer (some ⟨sb, 0, none⟩)] w fun e w' => Mod (fun i => i = rb ∨ i = sb) w w' ∧ ∃ k', k' ≤ s.size ∧ Rd w' rb s k' ∧
      ((e = .returned (.bool true) ∧ ∃ x av le' ar', At s k' 0 (n + 1) le' ar' (l ++ [x]) ⟨0, [], []⟩ false ∧ Se w' sb x.name x.word av 0 ∧ w'.ownsRow w.heap.size 5 1 av x.args.length (bvs x.args)) ∨ (e = .returned (.bool false) ∧ Stuck s k')) := by
  have hne := hS.ne hr
  have hrl := hr.lt
  have hsl := hS.lt
  go_enter Tryz.func87, Tryz.ntmps87
  go_wp2_with fail
  refine (head_any rb sb s k n le ar l _ hs hk hr hS hA hn).mono ?_
  rintro e w1 ⟨hm1, k1, hk1, hr1, ⟨rfl, nm, hA1, hS1⟩ | ⟨rfl, hst⟩⟩
  · clear hr hS
    have hz1 := hm1.size
    go_wp2_with fail
    refine (word_any rb sb s k1 n le ar l nm _ hs hk1 hr1 hS1 hA1).mono ?_
    rintro e w2 ⟨hm2, k2, hk2, hr2, ⟨rfl, wd, le2, hA2, hS2, h6⟩ | ⟨rfl, hst⟩⟩
    · clear hr1 hS1
      have hm12 := hm1.trans hm2
      have hz2 := hm12.size
      have H6 : Hid (le2 = 6 ∨ isL (g s k2) = false) := h6
      clear h6 hm1 hm2
      go_wp2_with fail
      refine (args_any rb sb s k2 n le2 ar l nm wd _ hs hk2 hr2 hS2 hA2 H6.out).mono ?_
      rintro e w3 ⟨hm3, k3, hk3, hr3, ⟨rfl, ag, av, le3, ar3, hA3, hS3, hown3⟩ | ⟨rfl, hst⟩⟩
      · have hm123 := hm12.trans hm3
        clear hm12 hm3 hr2 hS2
        by_cases h59 : g s k3 = 59
        · have H59 : Hid (g s k3 = 59) := h59
          clear h59
          go_wp2_with fail
          refine (take_yes rb s k3 59 _ hs hk3 hr3 (by omega) H59.out).mono ?_
          rintro e w4 ⟨rfl, hr4, hk4, hm4⟩
          go_wp2
          go_ret
          have hA4 := at_end hA3 H59.out
          exact ⟨hm123.trans (hm4.mono (fun _ _ h => .inl h)), k3 + 1, hk4, hr4, .inl ⟨rfl, ⟨nm, wd, ag⟩, av, _, _, hA4, hS3.keep hm4 (fun h => hne h.symm), owns_mod (owns_base hown3 hz2) hm4 (fun q hq he => by omega)⟩⟩
        · go_wp2_with fail
          refine (take_no rb s k3 59 _ hs hk3 hr3 h59).mono ?_
          rintro e w4 ⟨rfl, hr4, hm4⟩
          go_wp2
          go_ret
          exact ⟨hm123.trans (hm4.mono (fun _ _ h => .inl h)), k3, hk3, hr4, .inr ⟨rfl, stuck_of hA3 hk3 (.inl (by omega)) (by simp [nx, h59])⟩⟩
      · go_wp2
        go_ret
        exact ⟨hm12.trans hm3, k3, hk3, hr3, .inr ⟨rfl, hst⟩⟩
    · go_wp2
      go_ret
      exact ⟨hm1.trans hm2, k2, hk2, hr2, .inr ⟨rfl, hst⟩⟩
  · go_wp2
    go_ret
    exact ⟨hm1, k1, hk1, hr1, .inr ⟨rfl, hst⟩⟩
end Go.Proofs.YtmnfndpbblpjiaaGreatDoor

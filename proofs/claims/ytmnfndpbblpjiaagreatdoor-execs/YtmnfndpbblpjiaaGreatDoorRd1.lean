/- The reader's small steps: peek, take, takeLetter. -/
import Derived.Test.YtmnfndpbblpjiaaGreatDoorBase
namespace Go.Proofs.YtmnfndpbblpjiaaGreatDoor
set_option linter.unusedVariables false
open Go.RowKit Pu

set_option maxHeartbeats 400000 in
theorem peek_any (rb : Nat) (s : ByteArray) (k : Nat) (w : World) (hs : s.size ≤ 300) (hk : k ≤ s.size) (hr : Rd w rb s k) :
    Calls Tryz.prog 159 #[.pointer (some ⟨rb, 0, none⟩)] w fun e w' => e = .returned (.int .u8 (g s k)) ∧ ∃ n, w' = w.drewN n := by
  have h0 := hr.c0
  have h1 := hr.c1
  clear hr
  have hg : decide ((k : Int) < 0) = false := by simp
  by_cases hlt : k < s.size
  · have HG : Hid (s[k].toNat = g s k) := (g_in hlt).symm
    go_enter Tryz.func159, Tryz.ntmps159
    go_wp2
    go_quiet (fail)
    go_wp2
    go_quiet (fail)
    go_wp2
    go_ret
    exact ⟨by rw [← HG.out]; rfl, _, World.drewN_drewN ..⟩
  · have HG : Hid (g s k = 0) := g_out (by omega)
    go_enter Tryz.func159, Tryz.ntmps159
    go_wp2
    go_quiet (fail)
    go_wp2
    go_ret
    exact ⟨by rw [HG.out]; rfl, _, rfl⟩

set_option maxHeartbeats 400000 in
theorem take_yes (rb : Nat) (s : ByteArray) (k c : Nat) (w : World) (hs : s.size ≤ 300) (hk : k ≤ s.size) (hr : Rd w rb s k) (hc0 : 0 < c) (hc : g s k = c) :
    Calls Tryz.prog 109 #[.pointer (some ⟨rb, 0, none⟩), .int .u8 c] w fun e w' => e = .returned (.bool true) ∧ Rd w' rb s (k + 1) ∧ k + 1 ≤ s.size ∧ Mod (fun i => i = rb) w w' := by
  have hlt : k < s.size := lt_of_g (by omega)
  have h1 := hr.c1
  have hf := hr.f1
  have hb : ((g s k : Int) != (c : Int)) = false := by simp [hc]
  have HC : Hid (g s k = c) := hc
  clear hc
  go_enter Tryz.func109, Tryz.ntmps109
  go_wp2_with (go_at_call 159; refine (peek_any rb s k _ hs hk hr).mono ?_; rintro e w' ⟨rfl, n, rfl⟩)
  go_ret
  exact ⟨rfl, by have := (hr.drewN n).set (k + 1); simpa using this, hlt, (Mod.same n _ w).setCell _ _ (fun _ => rfl)⟩

set_option maxHeartbeats 400000 in
theorem take_no (rb : Nat) (s : ByteArray) (k c : Nat) (w : World) (hs : s.size ≤ 300) (hk : k ≤ s.size) (hr : Rd w rb s k) (hc : g s k ≠ c) :
    Calls Tryz.prog 109 #[.pointer (some ⟨rb, 0, none⟩), .int .u8 c] w fun e w' => e = .returned (.bool false) ∧ Rd w' rb s k ∧ Mod (fun i => i = rb) w w' := by
  have hb : ((g s k : Int) != (c : Int)) = true := by simp; omega
  go_enter Tryz.func109, Tryz.ntmps109
  go_wp2_with (go_at_call 159; refine (peek_any rb s k _ hs hk hr).mono ?_; rintro e w' ⟨rfl, n, rfl⟩)
  go_ret
  exact ⟨rfl, hr.drewN n, Mod.same n _ w⟩

set_option maxHeartbeats 400000 in
theorem letter_yes (rb : Nat) (s : ByteArray) (k : Nat) (w : World) (hs : s.size ≤ 300) (hk : k ≤ s.size) (hr : Rd w rb s k) (hc : isL (g s k) = true) :
    Calls Tryz.prog 177 #[.pointer (some ⟨rb, 0, none⟩)] w fun e w' => e = .returned (.int .u8 (g s k)) ∧ Rd w' rb s (k + 1) ∧ k + 1 ≤ s.size ∧ Mod (fun i => i = rb) w w' := by
  obtain ⟨ha, hz⟩ := (isL_iff _).1 hc
  have hlt : k < s.size := lt_of_g (by omega)
  have h1 := hr.c1
  have hf := hr.f1
  clear hc
  go_enter Tryz.func177, Tryz.ntmps177
  go_wp2_with (go_at_call 159; refine (peek_any rb s k _ hs hk hr).mono ?_; rintro e w' ⟨rfl, n, rfl⟩)
  go_ret
  exact ⟨rfl, by have := (hr.drewN n).set (k + 1); simpa using this, hlt, (Mod.same n _ w).setCell _ _ (fun _ => rfl)⟩

set_option maxHeartbeats 400000 in
theorem letter_no (rb : Nat) (s : ByteArray) (k : Nat) (w : World) (hs : s.size ≤ 300) (hk : k ≤ s.size) (hr : Rd w rb s k) (hc : isL (g s k) = false) :
    Calls Tryz.prog 177 #[.pointer (some ⟨rb, 0, none⟩)] w fun e w' => e = .returned (.int .u8 0) ∧ Rd w' rb s k ∧ Mod (fun i => i = rb) w w' := by
  have hl : ¬ (97 ≤ g s k ∧ g s k ≤ 122) := fun h => by rw [(isL_iff _).2 h] at hc; cases hc
  clear hc
  by_cases h9 : g s k < 97
  all_goals
    go_enter Tryz.func177, Tryz.ntmps177
    go_wp2_with (go_at_call 159; refine (peek_any rb s k _ hs hk hr).mono ?_; rintro e w' ⟨rfl, n, rfl⟩)
    go_ret
    exact ⟨rfl, hr.drewN n, Mod.same n _ w⟩
end Go.Proofs.YtmnfndpbblpjiaaGreatDoor

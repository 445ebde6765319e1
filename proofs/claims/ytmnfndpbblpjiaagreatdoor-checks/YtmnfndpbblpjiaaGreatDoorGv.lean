/- Who gave a name, on both sides. -/
import Derived.Test.YtmnfndpbblpjiaaGreatDoorLst
import Derived.Test.YtmnfndpbblpjiaaGreatDoorRf3
import Derived.Test.YtmnfndpbblpjiaaGreatDoorTab
namespace Go.Proofs.YtmnfndpbblpjiaaGreatDoor
open Go.RowKit Pu

set_option maxHeartbeats 800000 in
set_option maxRecDepth 100000 in
theorem giver_any (v : Value) (q : List It) (nm base : Nat) (w : World) (hq : q.length ≤ 1000) (hL : Lst w base v q) :
    Calls Tryz.prog 92 #[v, .int .u8 nm] w fun e w' => e = .returned (.int .i64 (gvI (q.map It.x) nm)) ∧ w = w' := by
  obtain ⟨ao, cap, rfl, -⟩ := hL.form
  go_enter Tryz.func92, Tryz.ntmps92
  go_wp2
  go_loop [8] (fun i => ∃ k : Nat, k ≤ q.length ∧ i = .int .i64 k ∧ ∀ j (hj : j < q.length), j < k → q[j].x.name ≠ nm) (fun i => q.length - (intOf i).toNat)
  case atStart => exact ⟨0, by omega, rfl, fun j hj h => by omega⟩
  case round =>
    obtain ⟨k, hk, rfl, hn⟩ := hrel
    by_cases hlt : k < q.length
    · obtain ⟨gb, rfl, c0, -⟩ := hL.cell hlt
      have HN : Hid (∀ j (hj : j < q.length), j < k → q[j].x.name ≠ nm) := hn
      clear hn
      by_cases he : q[k].x.name = nm
      · have HE : Hid (q[k].x.name = nm) := he
        have hb : ((q[k].x.name : Int) == (nm : Int)) = true := beq_t he
        clear he
        go_wp2
        go_ret
        exact ⟨by rw [gvI_some (k := k) (by simpa using hlt) (by simpa using HE.out) (fun j hj => by simpa using HN.out j (by omega) hj)]; rfl, rfl⟩
      · have hb : ((q[k].x.name : Int) == (nm : Int)) = false := beq_f he
        go_wp2
        go_round
        case rel => exact ⟨k + 1, by omega, by go_num, fun j hj h => by by_cases e : j = k; (· subst e; exact he); exact HN.out j hj (by omega)⟩
        case measure => simp [intOf]; omega
    · have hks : k = q.length := by omega
      subst hks
      go_wp2
      go_ret
      exact ⟨by rw [gvI_none (fun j hj => by simpa using hn j (by simpa using hj) (by simpa using hj))]; rfl, rfl⟩

theorem RLst.cell {w : World} {base : Nat} {ao : Option Addr} {cap : Nat} {l : List St} (h : RLst w base (.slice ao l.length cap) l) {j : Nat} (hj : j < l.length) :
    ∃ gb, ao = some ⟨gb, 0, none⟩ ∧ w.cell? ⟨gb, j * 3, none⟩ = some (.int .u8 l[j].name) ∧ w.cell? ⟨gb, j * 3 + 1, none⟩ = some (S l[j].word) ∧ w.cell? ⟨gb, j * 3 + 2, none⟩ = some (S l[j].args) := by
  unfold RLst at h
  obtain ⟨gb, rfl, h0⟩ := owns_cell h (j := j * 3 + 0) (by omega)
  have h1 := h.cellAt (j * 3 + 1) (by omega)
  have h2 := h.cellAt (j * 3 + 2) (by omega)
  rw [rcellsOf_at l j _ hj (by omega)] at h0 h1 h2
  exact ⟨gb, rfl, by simpa [rcells] using h0, by simpa [rcells] using h1, by simpa [rcells] using h2⟩

set_option maxHeartbeats 800000 in
set_option maxRecDepth 100000 in
theorem given_any (v : Value) (l : List St) (n nm base : Nat) (w : World) (hq : l.length ≤ 1000) (hn : n ≤ l.length) (hL : RLst w base v l) :
    Calls Tryz.prog 114 #[v, .int .i64 n, .int .u8 nm] w fun e w' => e = .returned (.int .i64 (gvI (l.take n) nm)) ∧ w = w' := by
  obtain ⟨ao, cap, rfl, -⟩ := owns_form hL
  go_enter Tryz.func114, Tryz.ntmps114
  go_wp2
  go_loop [7] (fun i => ∃ k : Nat, k ≤ n ∧ i = .int .i64 k ∧ ∀ j (hj : j < l.length), j < k → l[j].name ≠ nm) (fun i => n - (intOf i).toNat)
  case atStart => exact ⟨0, by omega, rfl, fun j hj h => by omega⟩
  case round =>
    obtain ⟨k, hk, rfl, hN⟩ := hrel
    have HN : Hid (∀ j (hj : j < l.length), j < k → l[j].name ≠ nm) := hN
    clear hN
    by_cases hlt : k < n
    · have hkl : k < l.length := by omega
      obtain ⟨gb, rfl, c0, -⟩ := hL.cell hkl
      by_cases he : l[k].name = nm
      · have HE : Hid (l[k].name = nm) := he
        have hb : ((l[k].name : Int) == (nm : Int)) = true := beq_t he
        clear he
        go_wp2
        go_ret
        exact ⟨by rw [gvI_some (k := k) (by simp; omega) (by simpa using HE.out) (fun j hj => by simpa using HN.out j (by omega) hj)]; rfl, rfl⟩
      · have hb : ((l[k].name : Int) == (nm : Int)) = false := beq_f he
        go_wp2
        go_round
        case rel => exact ⟨k + 1, by omega, by go_num, fun j hj h => by by_cases e : j = k; (· subst e; exact he); exact HN.out j hj (by omega)⟩
        case measure => simp [intOf]; omega
    · have hks : k = n := by omega
      subst hks
      go_wp2
      go_ret
      exact ⟨by rw [gvI_none (fun j hj => by simpa using HN.out j (by simp at hj; omega) (by simp at hj; omega))]; rfl, rfl⟩
end Go.Proofs.YtmnfndpbblpjiaaGreatDoor

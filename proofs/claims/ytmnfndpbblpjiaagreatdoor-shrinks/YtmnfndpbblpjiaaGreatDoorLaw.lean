/- A script's steps, gone through: what every statement over scripts shares. -/
import Derived.Test.YtmnfndpbblpjiaaGreatDoorBase
namespace Go.Proofs.YtmnfndpbblpjiaaGreatDoor
open Go.RowKit

abbrev op4 (kd n : Int) (a b : ByteArray) : Value := .agg #[.int .i64 kd, .int .i64 n, .string a, .string b]
/-- A step in memory. -/
def Ope (w : World) (ob : Nat) (kd n : Int) (a b : ByteArray) : Prop := w.heap[ob]? = some (.cells #[.int .i64 kd, .int .i64 n, .string a, .string b] 32 (0, 0))
section
variable {w w' : World} {ob : Nat} {kd n : Int} {a b : ByteArray}
theorem Ope.c0 (h : Ope w ob kd n a b) : w.cell? ⟨ob, 0, none⟩ = some (.int .i64 kd) := by unfold Ope at h; simp [World.cell?, h]
theorem Ope.c1 (h : Ope w ob kd n a b) : w.cell? ⟨ob, 1, none⟩ = some (.int .i64 n) := by unfold Ope at h; simp [World.cell?, h]
theorem Ope.c2 (h : Ope w ob kd n a b) : w.cell? ⟨ob, 2, none⟩ = some (.string a) := by unfold Ope at h; simp [World.cell?, h]
theorem Ope.c3 (h : Ope w ob kd n a b) : w.cell? ⟨ob, 3, none⟩ = some (.string b) := by unfold Ope at h; simp [World.cell?, h]
theorem Ope.keep {p : Nat → Prop} (h : Ope w ob kd n a b) (hm : Mod p w w') (hp : ¬ p ob) : Ope w' ob kd n a b := hm.keep h hp
theorem ope_new (w : World) (kd n : Int) (a b : ByteArray) : Ope (w.alloc (.cells #[.int .i64 kd, .int .i64 n, .string a, .string b] 32)) w.heap.size kd n a b := by
  unfold Ope; show (w.heap.push _)[w.heap.size]? = _; simp
end

/-- A script. -/
def Scr (w : World) (v : Value) : Prop := ∃ ao len cap, v = .slice ao len cap ∧ len ≤ maxLen ∧ ∀ i, i < len → ∃ bk off kd n a b, ao = some ⟨bk, off, none⟩ ∧ bk < w.heap.size ∧
  w.cell? ⟨bk, off + i * 4, none⟩ = some (.int .i64 kd) ∧ w.cell? ⟨bk, off + i * 4 + 1, none⟩ = some (.int .i64 n) ∧ w.cell? ⟨bk, off + i * 4 + 2, none⟩ = some (.string a) ∧ w.cell? ⟨bk, off + i * 4 + 3, none⟩ = some (.string b) ∧
  a.size ≤ maxLen ∧ b.size ≤ maxLen ∧ (Lit.int .i64 n).wf = true

set_option maxHeartbeats 400000 in
theorem num_any (n : Int) (w : World) : Calls Tryz.prog 25 #[.int .i64 n] w fun e w' => e = .returned (.int .i64 n) ∧ w = w' := by
  go_enter Tryz.func25, Tryz.ntmps25
  go_wp2
  go_ret
  exact ⟨rfl, rfl⟩

/-- The steps of kinds from lo to hi are as the document says. -/
def Plays (lo hi : Int) : Prop := ∀ (kd n : Int) (a b : ByteArray) (w : World), lo ≤ kd → kd ≤ hi → a.size ≤ maxLen → b.size ≤ maxLen → (Lit.int .i64 n).wf = true →
  Calls Tryz.prog 18 #[op4 kd n a b] w fun e w' => e = .returned (.bool true) ∧ Mod (fun _ => False) w w'

set_option maxHeartbeats 1000000 in
set_option maxRecDepth 100000 in
theorem upto_any (v : Value) (lo hi : Int) (w : World) (hS : Scr w v) (hP : Plays lo hi) :
    Calls Tryz.prog 13 #[v, .int .i64 lo, .int .i64 hi] w fun e w' => e = .returned (.int .i64 (-1)) ∧ Mod (fun _ => False) w w' := by
  obtain ⟨ao, len, cap, rfl, hlen, hc⟩ := hS
  unfold maxLen at hlen
  have HC : Hid (∀ i, i < len → ∃ bk off kd n a b, ao = some ⟨bk, off, none⟩ ∧ bk < w.heap.size ∧
    w.cell? ⟨bk, off + i * 4, none⟩ = some (.int .i64 kd) ∧ w.cell? ⟨bk, off + i * 4 + 1, none⟩ = some (.int .i64 n) ∧ w.cell? ⟨bk, off + i * 4 + 2, none⟩ = some (.string a) ∧ w.cell? ⟨bk, off + i * 4 + 3, none⟩ = some (.string b) ∧
    a.size ≤ maxLen ∧ b.size ≤ maxLen ∧ (Lit.int .i64 n).wf = true) := hc
  have HP : Hid (Plays lo hi) := hP
  clear hc hP
  go_enter Tryz.func13, Tryz.ntmps13
  go_wp2_with fail
  go_loopw [7] (fun i wr => ∃ k : Nat, k ≤ len ∧ i = .int .i64 k ∧ Mod (fun _ => False) w wr) (fun i _ => len - (intOf i).toNat)
  case atStart => exact ⟨0, by omega, rfl, Mod.refl _ _⟩
  case round =>
    obtain ⟨k, hk, rfl, hm⟩ := hrel
    by_cases hlt : k < len
    · obtain ⟨bk, off, kd, n, a, b, rfl, hbk, c0, c1, c2, c3, ha, hb, hn⟩ := HC.out k hlt
      have HA : Hid (a.size ≤ maxLen ∧ b.size ≤ maxLen ∧ (Lit.int .i64 n).wf = true) := ⟨ha, hb, hn⟩
      have hbe : wr.heap[bk]? = w.heap[bk]? := hm.block bk hbk (fun f => f)
      have d0 := (World.cell?_of_block (a := ⟨bk, off + k * 4, none⟩) hbe).trans c0
      have d1 := (World.cell?_of_block (a := ⟨bk, off + k * 4 + 1, none⟩) hbe).trans c1
      have d2 := (World.cell?_of_block (a := ⟨bk, off + k * 4 + 2, none⟩) hbe).trans c2
      have d3 := (World.cell?_of_block (a := ⟨bk, off + k * 4 + 3, none⟩) hbe).trans c3
      clear c0 c1 c2 c3 ha hb hn hbe HC
      have hma : Mod (fun _ => False) wr (wr.alloc (.cells #[.int .i64 kd, .int .i64 n, .string a, .string b] 32)) := (Mod.refl _ wr).alloc _
      by_cases h1 : lo ≤ kd
      · by_cases h2 : kd ≤ hi
        · go_wp2_with fail
          refine (HP.out kd n a b _ h1 h2 HA.out.1 HA.out.2.1 HA.out.2.2).mono ?_
          rintro e w2 ⟨rfl, hm2⟩
          have hm3 := hm.trans (hma.trans hm2)
          clear hm hma hm2 d0 d1 d2 d3
          go_wp2_with fail
          go_roundw
          case rel => exact ⟨k + 1, by omega, by go_num, hm3⟩
          case measure => simp [intOf]; omega
        · have hm3 := hm.trans hma
          clear hm hma
          go_wp2_with fail
          go_roundw
          case rel => exact ⟨k + 1, by omega, by go_num, hm3⟩
          case measure => simp [intOf]; omega
      · have hm3 := hm.trans hma
        clear hm hma
        go_wp2_with fail
        go_roundw
        case rel => exact ⟨k + 1, by omega, by go_num, hm3⟩
        case measure => simp [intOf]; omega
    · clear HC
      go_wp2_with fail
      go_ret
      exact ⟨rfl, hm⟩
end Go.Proofs.YtmnfndpbblpjiaaGreatDoor

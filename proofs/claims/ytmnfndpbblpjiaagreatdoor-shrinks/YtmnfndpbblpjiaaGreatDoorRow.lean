/- From an argument that can be read to a script in memory: what every proof of a row over scripts shares. -/
import Derived.Test.YtmnfndpbblpjiaaGreatDoorLaw
import Derived.ProofKit
import Derived.Deep.Slices
import Derived.Lib.SmallJoins
namespace Go.Proofs.YtmnfndpbblpjiaaGreatDoor
open Go.ChangeShapes Go.WideShapes Go.ChangeAt Go.RowKit Go.Deep Go.Joins

theorem Tryz.own : ownKnob Tryz.prog.godebug = none := by kernel_rfl
theorem Tryz.laidOut : laidOutB Tryz.prog = true := by kernel_rfl
theorem Tryz.cellsOp : Tryz.prog.cellsOf 32 = 4 := by kernel_rfl
theorem Tryz.cellsInt : Tryz.prog.cellsOf 3 = 1 := by kernel_rfl
theorem Tryz.cellsStr : Tryz.prog.cellsOf 9 = 1 := by kernel_rfl

theorem list4 {α : Type} {l : List α} (h : l.length = 4) : ∃ a b c d, l = [a, b, c, d] := by
  match l, h with
  | [a, b, c, d], _ => exact ⟨a, b, c, d, rfl⟩

set_option maxRecDepth 100000 in
theorem scr_of {H : Type} {enc : TypeId × Value → H} {W : World} {fuel : Nat} {v : Value} {x : DataW H × List MemPlace} (hv : ∃ a len cap, v = .slice a len cap) (h : DataW.trod enc Tryz.prog W 0 (fun _ => true) true fuel 22 v.cells.toList = some x) : Scr W v := by
  obtain ⟨a0, l0, cp0, rfl⟩ := hv
  rcases open_slice Tryz.underlying22 h with ⟨hcs, _⟩ | ⟨a, len, cap, m, n, D, Pl, hcs, _, hl, hm, hmm, _, hx⟩
  · simp [Value.cells] at hcs
    obtain ⟨rfl, rfl, rfl⟩ := hcs
    exact ⟨none, 0, 0, rfl, by unfold maxLen; omega, fun i hi => by omega⟩
  · simp [Value.cells] at hcs
    obtain ⟨rfl, rfl, rfl⟩ := hcs
    refine ⟨some a, l0, cp0, rfl, by omega, fun i hi => ?_⟩
    have him : i < m := by simp at hmm; omega
    obtain ⟨cs', h1, h2⟩ := hx i him
    rw [Tryz.cellsOp] at h1
    obtain ⟨_, hlen, hcell⟩ := World.cells?_some h1
    obtain ⟨y0, y1, y2, y3, n', _, _, g0, g1, g2, g3⟩ := trod_struct4 Tryz.underlying32 h2
    obtain ⟨v0, v1, v2, v3, rfl⟩ := list4 hlen
    · simp [Tryz.cellsInt, Tryz.cellsStr] at g0 g1 g2 g3
      obtain ⟨kd, e0, -, -⟩ := DataW.trod_int Tryz.underlying3 g0
      obtain ⟨nn, e1, -, wn⟩ := DataW.trod_int Tryz.underlying3 g1
      obtain ⟨s1, e2, -, hs1⟩ := DataW.trod_string Tryz.underlying9 g2
      obtain ⟨s2, e3, -, hs2⟩ := DataW.trod_string Tryz.underlying9 g3
      simp at e0 e1 e2 e3
      subst e0 e1 e2 e3
      have k0 := hcell 0 (by omega)
      have k1 := hcell 1 (by omega)
      have k2 := hcell 2 (by omega)
      have k3 := hcell 3 (by omega)
      rw [add_add] at k0 k1 k2 k3
      obtain ⟨bk, off, spot⟩ := a
      have hsp : spot = none := by
        obtain ⟨cs0, z1, _⟩ := hx 0 (by omega)
        rw [Tryz.cellsOp] at z1
        obtain ⟨_, zl, zc⟩ := World.cells?_some z1
        obtain ⟨z0, _, _, _, rfl⟩ := list4 zl
        have := zc 0 (by omega)
        rw [add_add] at this
        simpa [Addr.add] using World.cell?_spot (by simpa using this : W.cell? (Addr.add ⟨bk, off, spot⟩ 0) = some z0)
      subst hsp
      have hadd : ∀ j, (⟨bk, off, none⟩ : Addr).add j = ⟨bk, off + j, none⟩ := fun j => by
        unfold Addr.add
        by_cases h0 : j = 0
        · subst h0; simp
        · simp [h0]
      rw [hadd] at k0 k1 k2 k3
      have hb : bk < W.heap.size := by
        have : ∃ o, W.heap[bk]? = some o := by
          cases ho : W.heap[bk]? with
          | none => simp [World.cell?, ho] at k1
          | some o => exact ⟨o, rfl⟩
        obtain ⟨o, ho⟩ := this
        exact lt_of_block ho
      exact ⟨bk, off, kd, nn, s1, s2, rfl, hb, by simpa using k0, by simpa [Nat.add_assoc] using k1, by simpa [Nat.add_assoc] using k2, by simpa [Nat.add_assoc] using k3, hs1, hs2, wn⟩
end Go.Proofs.YtmnfndpbblpjiaaGreatDoor

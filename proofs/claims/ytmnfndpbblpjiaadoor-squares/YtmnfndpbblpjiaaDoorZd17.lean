/- A script's steps, gone through: what every statement over scripts shares. -/
import Derived.ProofKit
import Derived.Deep.Slices
import Derived.Lib.SmallJoins
import Derived.Test.YtmnfndpbblpjiaaDoorCards
import Derived.Test.YtmnfndpbblpjiaaDoorTie
import Derived.WalkKit
import Derived.OpenShut
import Derived.Deep.DeepHandedRow
import Derived.Lib.LaidTab
import Derived.Stop.LaidErr
import Derived.Test.YtmnfndpbblpjiaaDoorZd01
import Derived.Test.YtmnfndpbblpjiaaDoorZd16
namespace Go.Proofs.YtmnfndpbblpjiaaDoor
open Go.RowKit

abbrev op4 (kd n : Int) (a b : ByteArray) : Value := .agg #[.int .i64 kd, .int .i64 n, .string a, .string b]
section
variable {w w' : World} {ob : Nat} {kd n : Int} {a b : ByteArray}
end

/-- A script. -/
def Scr (w : World) (v : Value) : Prop := ∃ ao len cap, v = .slice ao len cap ∧ len ≤ maxLen ∧ ∀ i, i < len → ∃ bk off kd n a b, ao = some ⟨bk, off, none⟩ ∧ bk < w.heap.size ∧
  w.cell? ⟨bk, off + i * 4, none⟩ = some (.int .i64 kd) ∧ w.cell? ⟨bk, off + i * 4 + 1, none⟩ = some (.int .i64 n) ∧ w.cell? ⟨bk, off + i * 4 + 2, none⟩ = some (.string a) ∧ w.cell? ⟨bk, off + i * 4 + 3, none⟩ = some (.string b) ∧
  a.size ≤ maxLen ∧ b.size ≤ maxLen ∧ (Lit.int .i64 n).wf = true

end Go.Proofs.YtmnfndpbblpjiaaDoor

/- From an argument that can be read to a script in memory: what every proof of a row over scripts shares. -/
namespace Go.Proofs.YtmnfndpbblpjiaaDoor
open Go.ChangeShapes Go.WideShapes Go.ChangeAt Go.RowKit Go.Deep Go.Joins

theorem Tryd.own : ownKnob Tryd.prog.godebug = none := by kernel_rfl
theorem Tryd.laidOut : laidOutB Tryd.prog = true := by kernel_rfl
theorem Tryd.cellsInt : Tryd.prog.cellsOf 3 = 1 := by kernel_rfl
theorem Tryd.cellsStr : Tryd.prog.cellsOf 9 = 1 := by kernel_rfl

theorem list4 {α : Type} {l : List α} (h : l.length = 4) : ∃ a b c d, l = [a, b, c, d] := by
  match l, h with
  | [a, b, c, d], _ => exact ⟨a, b, c, d, rfl⟩

end Go.Proofs.YtmnfndpbblpjiaaDoor

/- A world in which the three listed tables of Go's own library lie as their text lays them: for the witness of a row. -/
namespace Go.Proofs.YtmnfndpbblpjiaaDoor
open Go.ChangeShapes Go.WideShapes Go.ChangeAt Go.RowKit

def layCells (c : Array Value) : Obj → Obj
  | .cells _ t frozen => .cells c t frozen
  | o => o
def laidOn (W : World) : World :=
  { W with heap := ((W.heap.modify 0 (layCells #[.int .u64 1, .int .u64 10, .int .u64 100, .int .u64 1000, .int .u64 10000, .int .u64 100000, .int .u64 1000000, .int .u64 10000000, .int .u64 100000000, .int .u64 1000000000, .int .u64 10000000000, .int .u64 100000000000, .int .u64 1000000000000, .int .u64 10000000000000, .int .u64 100000000000000, .int .u64 1000000000000000, .int .u64 10000000000000000, .int .u64 100000000000000000, .int .u64 1000000000000000000, .int .u64 10000000000000000000])).modify 1 (layCells #[.int .u8 0, .int .u8 1, .int .u8 28, .int .u8 2, .int .u8 29, .int .u8 14, .int .u8 24, .int .u8 3, .int .u8 30, .int .u8 22, .int .u8 20, .int .u8 15, .int .u8 25, .int .u8 17, .int .u8 4, .int .u8 8, .int .u8 31, .int .u8 27, .int .u8 13, .int .u8 23, .int .u8 21, .int .u8 19, .int .u8 16, .int .u8 7, .int .u8 26, .int .u8 12, .int .u8 18, .int .u8 6, .int .u8 11, .int .u8 5, .int .u8 10, .int .u8 9])).modify 2 (layCells #[.int .u8 0, .int .u8 1, .int .u8 56, .int .u8 2, .int .u8 57, .int .u8 49, .int .u8 28, .int .u8 3, .int .u8 61, .int .u8 58, .int .u8 42, .int .u8 50, .int .u8 38, .int .u8 29, .int .u8 17, .int .u8 4, .int .u8 62, .int .u8 47, .int .u8 59, .int .u8 36, .int .u8 45, .int .u8 43, .int .u8 51, .int .u8 22, .int .u8 53, .int .u8 39, .int .u8 33, .int .u8 30, .int .u8 24, .int .u8 18, .int .u8 12, .int .u8 5, .int .u8 63, .int .u8 55, .int .u8 48, .int .u8 27, .int .u8 60, .int .u8 41, .int .u8 37, .int .u8 16, .int .u8 46, .int .u8 35, .int .u8 44, .int .u8 21, .int .u8 52, .int .u8 32, .int .u8 23, .int .u8 11, .int .u8 54, .int .u8 26, .int .u8 40, .int .u8 15, .int .u8 34, .int .u8 20, .int .u8 31, .int .u8 10, .int .u8 25, .int .u8 14, .int .u8 19, .int .u8 9, .int .u8 13, .int .u8 8, .int .u8 7, .int .u8 6]) }
theorem laid_met (os : Os) : laidMet Tryd.prog Rows.squaresRow.laid ((laidOn (World.holding Tryd.prog os ⟨#[], #[], []⟩)).forCall (fun _ _ => 0) ⟨#[], #[.slice none 0 0], []⟩).memory :=
  laidMet_of_run' 8 (by kernel_rfl) (by kernel_rfl)
end Go.Proofs.YtmnfndpbblpjiaaDoor

/- The library's table, from a row's own condition. -/
namespace Go.Proofs.YtmnfndpbblpjiaaDoor
open Go.ChangeShapes Go.WideShapes Go.ChangeAt Go.RowKit Go.Deep Go.Joins

theorem isI_of {n : Int} (h : (Lit.int .i64 n).wf = true) : isI n := by
  have e1 : IntKind.i64.min = -9223372036854775808 := by rfl
  have e2 : IntKind.i64.max = 9223372036854775807 := by rfl
  unfold isI
  simp [Lit.wf] at h
  omega
theorem tab_of {W : World} (h : laidMetH Tryd.prog Rows.squaresRow.laid W) : Tab W := by
  have h1 : laidMet Tryd.prog Rows.squaresRow.laid W := h
  have h2 := laidMet.tail (laidMet.tail h1)
  exact Lib.tabIs_of_head (P := Tryd.prog) (rest := []) (g := 0) (t := 90) (e := 82) (n := 20) (by kernel_rfl) (by kernel_rfl) (by kernel_rfl) (by kernel_rfl) (by kernel_rfl) (by kernel_rfl) h2
end Go.Proofs.YtmnfndpbblpjiaaDoor

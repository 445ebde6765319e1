/- The document's value: an input, a constant, a register's sign. -/
import Derived.Deep.RegionHeld3
import Derived.Deep.AppendLies
import Derived.Test.YtmnfndpbblpjiaaDoorZd07
import Derived.Test.YtmnfndpbblpjiaaDoorZd01
import Derived.Test.YtmnfndpbblpjiaaDoorZd05
import Derived.Test.YtmnfndpbblpjiaaDoorZd03
namespace Go.Proofs.YtmnfndpbblpjiaaDoor
open Go.RowKit Pu

end Go.Proofs.YtmnfndpbblpjiaaDoor

/- The document's decimal, numeral. -/
namespace Go.Proofs.YtmnfndpbblpjiaaDoor
open Go.RowKit Pu

theorem one_byte (w : World) (n : Nat) (hn : n < 256) :
    (convert 38 9 (.slice (some ⟨w.heap.size, 0, none⟩) 1 1)).run Tryd.prog (w.alloc (.cells #[.int .u8 (n : Int)] 5))
      = .ok (.string ⟨#[UInt8.ofNat n]⟩) (w.alloc (.cells #[.int .u8 (n : Int)] 5)) := by
  refine run_convert_bytes_back (P := Tryd.prog) _ 38 9 5 ⟨w.heap.size, 0, none⟩ 1 [UInt8.ofNat n] Tryd.underlying38 Tryd.underlying5 Tryd.underlying9 ?_
  intro j hj
  have hj2 : j = 0 := by simpa using hj
  subst hj2
  have hc : (w.alloc (.cells #[.int .u8 (n : Int)] 5)).cell? ⟨w.heap.size, 0, none⟩ = #[Value.int .u8 (n : Int)][0]? := World.cell?_alloc_mark w _ _ _ 0
  have ha : (⟨w.heap.size, 0, none⟩ : Addr).add 0 = ⟨w.heap.size, 0, none⟩ := by simp [Addr.add]
  rw [ha, hc]
  simp
  omega

end Go.Proofs.YtmnfndpbblpjiaaDoor

/- The document's numeral. -/
namespace Go.Proofs.YtmnfndpbblpjiaaDoor
open Go.RowKit Pu

theorem bytes_inj {a b : ByteArray} (h : a.toList = b.toList) : a = b := by
  obtain ⟨⟨a⟩⟩ := a
  obtain ⟨⟨b⟩⟩ := b
  rw [ByteArray.toList_mk, ByteArray.toList_mk] at h
  rw [h]
def numAns (o : Option Int) : Value := match o with
  | some n => .tuple #[.int .i64 n, .bool true]
  | none => .tuple #[.int .i64 0, .bool false]

end Go.Proofs.YtmnfndpbblpjiaaDoor

/- The document's Inputs. -/
namespace Go.Proofs.YtmnfndpbblpjiaaDoor
open Go.RowKit Pu

/-- What Inputs answers. -/
def InpEnd (w : World) (o : Option (List Int)) (e : Ending) (w' : World) : Prop := Mod (fun _ => False) w w' ∧ match o with
  | none => e = .returned (.tuple #[.slice none 0 0, .bool false])
  | some l => ∃ v, e = .returned (.tuple #[v, .bool true]) ∧ w'.ownsRow w.heap.size 3 1 v l.length (zvs l)
theorem inpEnd_none {w w' : World} (hm : Mod (fun _ => False) w w') : InpEnd w none (.returned (.tuple #[.slice none 0 0, .bool false])) w' := ⟨hm, rfl⟩
theorem inpEnd_some {w w' : World} {l : List Int} {v : Value} (hm : Mod (fun _ => False) w w') (h : w'.ownsRow w.heap.size 3 1 v l.length (zvs l)) : InpEnd w (some l) (.returned (.tuple #[v, .bool true])) w' := ⟨hm, v, rfl, h⟩

end Go.Proofs.YtmnfndpbblpjiaaDoor

/- The document's registers, and its value of any right step. -/
namespace Go.Proofs.YtmnfndpbblpjiaaDoor
open Go.RowKit Pu

/-- Two cells of a block set. -/
def set2at (w : World) (b o : Nat) (x y : Value) : World := (w.setCell ⟨b, o, none⟩ x).setCell ⟨b, o + 1, none⟩ y
theorem set2at_own (w : World) (b o : Nat) (x y : Value) : Mod (fun q => q = b) w (set2at w b o x y) := by
  have h0 : Mod (fun q => q = b) w (w.setCell ⟨b, o, none⟩ x) := (Mod.refl _ w).setCell ⟨b, o, none⟩ x (fun _ => rfl)
  exact h0.setCell ⟨b, o + 1, none⟩ y (fun _ => rfl)
theorem set2at_new {p : Nat → Prop} {a w : World} (h : Mod p a w) (b o : Nat) (x y : Value) (hb : a.heap.size ≤ b) : Mod p a (set2at w b o x y) := by
  have h0 := h.setCell ⟨b, o, none⟩ x (fun h => absurd h (Nat.not_lt.2 hb))
  exact h0.setCell ⟨b, o + 1, none⟩ y (fun h => absurd h (Nat.not_lt.2 hb))
theorem set2at_block {w : World} {b o : Nat} {x y : Value} {C : Array Value} {t : TypeId} (h : w.heap[b]? = some (.cells C t (0, 0))) : (set2at w b o x y).heap[b]? = some (.cells ((C.setIfInBounds o x).setIfInBounds (o + 1) y) t (0, 0)) := by
  have h0 : (w.setCell ⟨b, o, none⟩ x).heap[b]? = some (.cells (C.setIfInBounds o x) t (0, 0)) := by simp [World.setCell, Array.getElem?_modify, h]
  unfold set2at
  generalize w.setCell ⟨b, o, none⟩ x = w1 at *
  simp [World.setCell, Array.getElem?_modify, h0]
theorem set2at_cell {w : World} {b o : Nat} {x y : Value} {C : Array Value} {t : TypeId} (h : w.heap[b]? = some (.cells C t (0, 0))) (i : Nat) : (set2at w b o x y).cell? ⟨b, i, none⟩ = if i = o + 1 ∧ i < C.size then some y else if i = o ∧ i < C.size then some x else w.cell? ⟨b, i, none⟩ := by
  have e : (set2at w b o x y).cell? ⟨b, i, none⟩ = ((C.setIfInBounds o x).setIfInBounds (o + 1) y)[i]? := by simp only [World.cell?, set2at_block h]; simp
  have e2 : w.cell? ⟨b, i, none⟩ = C[i]? := by simp only [World.cell?, h]; simp
  rw [e, e2, Array.getElem?_setIfInBounds, Array.getElem?_setIfInBounds]
  by_cases a : i = o + 1
  · subst a
    by_cases hs : o + 1 < C.size <;> simp [hs]
  · by_cases c : i = o
    · subst c
      by_cases hs : i < C.size <;> simp [hs]
    · simp [a, c, show ¬ o + 1 = i from fun hh => a hh.symm, show ¬ o = i from fun hh => c hh.symm]
/-- What a step of a right code keeps to. -/
def Good (n : Nat) (t : Stp) : Prop := Small t ∧ t.op ≤ 7 ∧ t.x < 128 ∧ (2 ≤ t.op ∧ t.op ≤ 5 → t.y < 128) ∧ (2 ≤ t.op ∧ t.op ≤ 4 → t.z < 128) ∧ (t.op = 0 → t.y < n) ∧ (t.op = 7 → t.y < 3 ∧ t.z < 16)
theorem Pu.sgn_eq (x : Int) : sgn x = sgI x := rfl

end Go.Proofs.YtmnfndpbblpjiaaDoor

/- The document's steps of a code; who sets a register; what a step reads; what is proper. -/
namespace Go.Proofs.YtmnfndpbblpjiaaDoor
open Go.RowKit Pu

theorem index_in (s : ByteArray) (u : World) (k : Nat) (hk : k < s.size) (i : Int) (hi : i = (k : Int)) : (Instr.index 9 (.string s) (.int .i64 i)).run Tryd.prog u = .ok (.int .u8 s[k].toNat) u := by
  subst hi
  rw [run_index_string u 9 s .i64 (k : Int) Tryd.underlying9]
  simp [hk]

theorem index_p0 (s : ByteArray) (u : World) (k : Nat) (hk : k < s.size) : (Instr.index 9 (.string s) (.int .i64 (k : Int))).run Tryd.prog u = .ok (.int .u8 s[k].toNat) u := index_in s u k hk _ rfl
theorem index_p1 (s : ByteArray) (u : World) (k : Nat) (hk : k + 1 < s.size) : (Instr.index 9 (.string s) (.int .i64 ((k : Int) + 1))).run Tryd.prog u = .ok (.int .u8 s[k + 1].toNat) u := index_in s u _ hk _ (by omega)
theorem index_p2 (s : ByteArray) (u : World) (k : Nat) (hk : k + 2 < s.size) : (Instr.index 9 (.string s) (.int .i64 ((k : Int) + 2))).run Tryd.prog u = .ok (.int .u8 s[k + 2].toNat) u := index_in s u _ hk _ (by omega)
theorem index_p3 (s : ByteArray) (u : World) (k : Nat) (hk : k + 3 < s.size) : (Instr.index 9 (.string s) (.int .i64 ((k : Int) + 3))).run Tryd.prog u = .ok (.int .u8 s[k + 3].toNat) u := index_in s u _ hk _ (by omega)
theorem wrap_n {n : Int} (h0 : 0 ≤ n) (h : n ≤ 1000000000) : IntKind.i64.wrap n = n := by
  have : (Lit.int .i64 n).wf = true := by simp [Lit.wf, IntKind.min, IntKind.max, IntKind.signed, IntKind.bits]; omega
  simp [IntKind.wrap, IntKind.signed, IntKind.bits]; omega
theorem wrap_b (b : UInt8) : IntKind.i64.wrap (b.toNat : Int) = (b.toNat : Int) := wrap_n (by omega) (by have := b.toNat_lt; omega)
theorem wrap_p1 (k : Nat) (h : k ≤ 100000) : IntKind.i64.wrap ((k : Int) + 1) = (k : Int) + 1 := wrap_n (by omega) (by omega)
theorem wrap_p2 (k : Nat) (h : k ≤ 100000) : IntKind.i64.wrap ((k : Int) + 2) = (k : Int) + 2 := wrap_n (by omega) (by omega)
theorem wrap_p3 (k : Nat) (h : k ≤ 100000) : IntKind.i64.wrap ((k : Int) + 3) = (k : Int) + 3 := wrap_n (by omega) (by omega)
attribute [local go_sem] index_p0 index_p1 index_p2 index_p3
attribute [local go_sem] wrap_b wrap_p1 wrap_p2 wrap_p3

end Go.Proofs.YtmnfndpbblpjiaaDoor

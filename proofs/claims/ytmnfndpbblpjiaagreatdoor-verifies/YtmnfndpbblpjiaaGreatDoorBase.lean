/- Words on memory that all the walks share: which blocks a call may have turned, how a reader, a sentence lie. -/
import Derived.Test.YtmnfndpbblpjiaaGreatDoorRows
import Derived.Test.YtmnfndpbblpjiaaGreatDoorPure
import Derived.WalkKit
import Derived.WalkSpells
import Derived.WalkLawsBesides
import Derived.Deep.QuietTactic
import Derived.BigQuiet
namespace Go.Proofs.YtmnfndpbblpjiaaGreatDoor
open Go.RowKit

/-- Of the blocks that were there at most those of p have turned. -/
structure Mod (p : Nat → Prop) (w w' : World) : Prop where
  os : w'.os = w.os
  tape : w'.tape = w.tape
  output : w'.output = w.output
  size : w.heap.size ≤ w'.heap.size
  block : ∀ k, k < w.heap.size → ¬ p k → w'.heap[k]? = w.heap[k]?

section
variable {p q : Nat → Prop} {a b c w : World}
theorem Mod.refl (p : Nat → Prop) (w : World) : Mod p w w := ⟨rfl, rfl, rfl, Nat.le_refl _, fun _ _ _ => rfl⟩
theorem Mod.trans (h : Mod p a b) (k : Mod p b c) : Mod p a c :=
  ⟨k.os.trans h.os, k.tape.trans h.tape, k.output.trans h.output, Nat.le_trans h.size k.size, fun i hi hp => (k.block i (Nat.lt_of_lt_of_le hi h.size) hp).trans (h.block i hi hp)⟩
theorem Mod.mono (h : Mod p a b) (hp : ∀ k, k < a.heap.size → p k → q k) : Mod q a b := ⟨h.os, h.tape, h.output, h.size, fun k hk hn => h.block k hk fun hh => hn (hp k hk hh)⟩
theorem Mod.drewN (h : Mod p a b) (n : Nat) : Mod p a (b.drewN n) := ⟨h.os, h.tape, h.output, by simpa using h.size, fun k hk hp => h.block k hk hp⟩
theorem Mod.drew (h : Mod p a b) : Mod p a b.drew := ⟨h.os, h.tape, h.output, h.size, h.block⟩
theorem Mod.alloc (h : Mod p a b) (o : Obj) : Mod p a (b.alloc o) :=
  ⟨h.os, h.tape, h.output, by have := h.size; simp; omega, fun k hk hp => (Below.heap_alloc _ _ _ (Nat.lt_of_lt_of_le hk h.size)).trans (h.block k hk hp)⟩
theorem Mod.setCell (h : Mod p a b) (x : Addr) (v : Value) (hx : x.block < a.heap.size → p x.block) : Mod p a (b.setCell x v) := by
  refine ⟨h.os, h.tape, h.output, by simpa using h.size, fun k hk hp => ?_⟩
  rw [Below.heap_setCell _ _ _ _ (fun e => hp (by rw [e]; exact hx (by omega)))]
  exact h.block k hk hp
theorem Mod.grown {row : Option Nat} (h : Mod p a b) (hg : b.grownBy c row) (hr : ∀ k, row = some k → k < a.heap.size → p k) : Mod p a c :=
  ⟨hg.os.trans h.os, hg.tape.trans h.tape, hg.output.trans h.output, Nat.le_trans h.size hg.size, fun k hk hp => (hg.block k (Nat.lt_of_lt_of_le hk h.size) (fun e => hp (hr k e.symm hk))).trans (h.block k hk hp)⟩
theorem Mod.below (h : Mod (fun _ => False) a b) : Below a.heap.size a b := ⟨h.os, h.tape, h.output, h.size, fun k hk => h.block k hk (fun f => f)⟩
theorem Mod.below_of {B : Nat} (h : Mod p a b) (hp : ∀ k, p k → B ≤ k) (hB : B ≤ a.heap.size) : Below B a b :=
  ⟨h.os, h.tape, h.output, h.size, fun k hk => h.block k (by omega) (fun f => by have := hp k f; omega)⟩
theorem Mod.keep {o : Obj} {k : Nat} (h : Mod p a b) (hk : a.heap[k]? = some o) (hp : ¬ p k) : b.heap[k]? = some o :=
  (h.block k (lt_of_block hk) hp).trans hk
theorem Mod.same (n : Nat) (p : Nat → Prop) (w : World) : Mod p w (w.drewN n) := (Mod.refl p w).drewN n
end

abbrev S (l : List UInt8) : Value := .string ⟨l.toArray⟩

/-- A reader at k of the text s. -/
def Rd (w : World) (rb : Nat) (s : ByteArray) (k : Nat) : Prop := w.heap[rb]? = some (.cells #[.string s, .int .i64 k] 138 (0, 0))
/-- A sentence. -/
def Se (w : World) (sb : Nat) (n : Nat) (wd : List UInt8) (av : Value) (wt : Int) : Prop := w.heap[sb]? = some (.cells #[.int .u8 n, S wd, av, .int .i64 wt] 83 (0, 0))

section
variable {w : World} {rb sb k n : Nat} {s : ByteArray} {wd : List UInt8} {av : Value} {wt : Int}
theorem Rd.c0 (h : Rd w rb s k) : w.cell? ⟨rb, 0, none⟩ = some (.string s) := by unfold Rd at h; simp [World.cell?, h]
theorem Rd.c1 (h : Rd w rb s k) : w.cell? ⟨rb, 1, none⟩ = some (.int .i64 k) := by unfold Rd at h; simp [World.cell?, h]
theorem Rd.f1 (h : Rd w rb s k) : w.frozen? ⟨rb, 1, none⟩ = false := by unfold Rd at h; simp [World.frozen?, h]
theorem Rd.lt (h : Rd w rb s k) : rb < w.heap.size := lt_of_block h
theorem Rd.set (h : Rd w rb s k) (j : Nat) : Rd (w.setCell ⟨rb, 1, none⟩ (.int .i64 j)) rb s j := by
  unfold Rd at *
  simp [World.setCell, Array.getElem?_modify, h]
theorem Rd.drewN (h : Rd w rb s k) (j : Nat) : Rd (w.drewN j) rb s k := by unfold Rd at *; simpa using h
theorem Rd.keep {p : Nat → Prop} {w' : World} (h : Rd w rb s k) (hm : Mod p w w') (hp : ¬ p rb) : Rd w' rb s k := hm.keep h hp
theorem Se.lt (h : Se w sb n wd av wt) : sb < w.heap.size := lt_of_block h
theorem Se.ne (h : Se w sb n wd av wt) (k : Rd w rb s k) : rb ≠ sb := by
  intro e; subst e; unfold Se at h; unfold Rd at k; rw [h] at k; simp at k
theorem Se.c0 (h : Se w sb n wd av wt) : w.cell? ⟨sb, 0, none⟩ = some (.int .u8 n) := by unfold Se at h; simp [World.cell?, h]
theorem Se.c1 (h : Se w sb n wd av wt) : w.cell? ⟨sb, 1, none⟩ = some (S wd) := by unfold Se at h; simp [World.cell?, h]
theorem Se.c2 (h : Se w sb n wd av wt) : w.cell? ⟨sb, 2, none⟩ = some av := by unfold Se at h; simp [World.cell?, h]
theorem Se.c3 (h : Se w sb n wd av wt) : w.cell? ⟨sb, 3, none⟩ = some (.int .i64 wt) := by unfold Se at h; simp [World.cell?, h]
theorem Se.fz (h : Se w sb n wd av wt) (i : Nat) : w.frozen? ⟨sb, i, none⟩ = false := by unfold Se at h; simp [World.frozen?, h]
theorem Se.set0 (h : Se w sb n wd av wt) (j : Nat) : Se (w.setCell ⟨sb, 0, none⟩ (.int .u8 j)) sb j wd av wt := by unfold Se at *; simp [World.setCell, Array.getElem?_modify, h]
theorem Se.set1 (h : Se w sb n wd av wt) (j : List UInt8) : Se (w.setCell ⟨sb, 1, none⟩ (S j)) sb n j av wt := by unfold Se at *; simp [World.setCell, Array.getElem?_modify, h]
theorem Se.set2 (h : Se w sb n wd av wt) (j : Value) : Se (w.setCell ⟨sb, 2, none⟩ j) sb n wd j wt := by unfold Se at *; simp [World.setCell, Array.getElem?_modify, h]
theorem Se.set3 (h : Se w sb n wd av wt) (j : Int) : Se (w.setCell ⟨sb, 3, none⟩ (.int .i64 j)) sb n wd av j := by unfold Se at *; simp [World.setCell, Array.getElem?_modify, h]
theorem Se.drewN (h : Se w sb n wd av wt) (j : Nat) : Se (w.drewN j) sb n wd av wt := by unfold Se at *; simpa using h
theorem Se.keep {p : Nat → Prop} {w' : World} (h : Se w sb n wd av wt) (hm : Mod p w w') (hp : ¬ p sb) : Se w' sb n wd av wt := hm.keep h hp
end

theorem beq_t {c m : Nat} (h : c = m) : ((c : Int) == (m : Int)) = true := by subst h; simp
theorem beq_f {c m : Nat} (h : ¬ c = m) : ((c : Int) == (m : Int)) = false := by
  rw [beq_eq_false_iff_ne]; omega
/-- Bytes as cells. -/
def bvs (l : List UInt8) : List Value := l.map fun c => .int .u8 (c.toNat : Int)
theorem bvs_len (l : List UInt8) : (bvs l).length = l.length := by simp [bvs]
theorem bvs_snoc (l : List UInt8) (c : UInt8) : bvs l ++ [.int .u8 (c.toNat : Int)] = bvs (l ++ [c]) := by simp [bvs]
def sliceLen : Value → Nat
  | .slice _ n _ => n
  | _ => 0

section
variable {w w' : World} {base : Nat} {e : TypeId} {size : Nat} {v : Value} {n : Nat} {xs : List Value}
theorem owns_form (h : w.ownsRow base e size v n xs) : ∃ ao cap, v = .slice ao n cap ∧ (ao = none → n = 0 ∧ cap = 0) := by
  obtain ⟨_, ⟨rfl, rfl⟩ | ⟨g, cap, cur, rfl, _⟩⟩ := h
  · exact ⟨none, 0, rfl, fun _ => ⟨rfl, rfl⟩⟩
  · exact ⟨_, cap, rfl, fun h => by cases h⟩
theorem owns_mod {p : Nat → Prop} (h : w.ownsRow base e size v n xs) (hm : Mod p w w') (hp : ∀ g, base ≤ g → p g → False) : w'.ownsRow base e size v n xs := by
  obtain ⟨hl, ⟨rfl, rfl⟩ | ⟨g, cap, cur, rfl, hb, hg, h1, h2, h3, h4⟩⟩ := h
  · exact ⟨hl, .inl ⟨rfl, rfl⟩⟩
  · exact ⟨hl, .inr ⟨g, cap, cur, rfl, hb, hm.keep hg (hp g hb), h1, h2, h3, h4⟩⟩
theorem owns_mod' {p : Nat → Prop} (h : w.ownsRow base e size v n xs) (hm : Mod p w w') (hp : ∀ g, v.ownBlock = some g → p g → False) : w'.ownsRow base e size v n xs := by
  obtain ⟨hl, ⟨rfl, rfl⟩ | ⟨g, cap, cur, rfl, hb, hg, h1, h2, h3, h4⟩⟩ := h
  · exact ⟨hl, .inl ⟨rfl, rfl⟩⟩
  · exact ⟨hl, .inr ⟨g, cap, cur, rfl, hb, hm.keep hg (hp g rfl), h1, h2, h3, h4⟩⟩
theorem owns_drewN (h : w.ownsRow base e size v n xs) (j : Nat) : (w.drewN j).ownsRow base e size v n xs := owns_mod h (Mod.same j (fun _ => False) w) (fun _ _ f => f)
theorem owns_base {base' : Nat} (h : w.ownsRow base e size v n xs) (hb : base' ≤ base) : w.ownsRow base' e size v n xs := by
  obtain ⟨hl, ⟨rfl, rfl⟩ | ⟨g, cap, cur, rfl, hb', hg⟩⟩ := h
  · exact ⟨hl, .inl ⟨rfl, rfl⟩⟩
  · exact ⟨hl, .inr ⟨g, cap, cur, rfl, by omega, hg⟩⟩
theorem owns_cell {ao : Option Addr} {cap : Nat} (h : w.ownsRow base e size (.slice ao n cap) n xs) {j : Nat} (hj : j < n * size) : ∃ gb, ao = some ⟨gb, 0, none⟩ ∧ w.cell? ⟨gb, j, none⟩ = xs[j]? := by
  have h' := h
  obtain ⟨hl, ⟨he, rfl⟩ | ⟨gb, cap', cur, he, hb', hg⟩⟩ := h
  · simp at hj
  · cases he
    exact ⟨gb, rfl, h'.cellAt j hj⟩
theorem convert_owned {P : Program} {src dst : TypeId} {l : List UInt8} (h : w.ownsRow base e 1 v n (bvs l)) (hn : n = l.length) (hs : P.underlying src = some (.slice e)) (he : P.underlying e = some (.int .u8)) (hd : P.underlying dst = some .string) :
    (convert src dst v).run P w = .ok (S l) w := by
  subst hn
  have h' := h
  obtain ⟨hl, ⟨rfl, h0⟩ | ⟨gb, cap, cur, rfl, hb', hg⟩⟩ := h
  · have : l = [] := List.eq_nil_of_length_eq_zero h0
    subst this
    exact run_convert_bytes_nil w src e hs he 0 0 dst hd
  · refine run_convert_bytes_back w src dst e _ cap l hs he hd fun j hj => ?_
    have hc := h'.cellAt j (by omega)
    have ha : (⟨gb, 0, none⟩ : Addr).add j = ⟨gb, j, none⟩ := by
      unfold Addr.add
      by_cases h0 : j = 0
      · subst h0; simp
      · simp [h0]
    rw [ha, hc]
    simp [bvs, hj]
end

end Go.Proofs.YtmnfndpbblpjiaaGreatDoor

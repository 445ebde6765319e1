/- The document's registers, and its value of any right step. -/
import Derived.Test.YtmnfndpbblpjiaaGreatDoorRe2
import Derived.Test.YtmnfndpbblpjiaaGreatDoorRx3
namespace Go.Proofs.YtmnfndpbblpjiaaGreatDoor
open Go.RowKit Pu

/-- The registers in memory: each number of at most 2000 digits of base 10000. -/
def Rgs (w : World) (rb : Nat) (R : List Int) : Prop := R.length = 128 ∧ (∃ C, w.heap[rb]? = some (.cells C 116 (0, 0)) ∧ C.size = 256) ∧
  ∀ r, r < 128 → ∃ nx u a, w.cell? ⟨rb, r * 2, none⟩ = some (.bool nx) ∧ w.cell? ⟨rb, r * 2 + 1, none⟩ = some u ∧ Nm w nx u a ∧ num nx a = reg R r ∧ a.length ≤ 2000
theorem Rgs.mod {w w' : World} {rb : Nat} {R : List Int} (h : Rgs w rb R) (hm : Mod (fun _ => False) w w') : Rgs w' rb R := by
  obtain ⟨h1, ⟨C, h2, h3⟩, h4⟩ := h
  refine ⟨h1, ⟨C, hm.keep h2 (fun f => f), h3⟩, fun r hr => ?_⟩
  obtain ⟨nx, u, a, c0, c1, hN, hx, hl⟩ := h4 r hr
  exact ⟨nx, u, a, hm.cell c0, hm.cell c1, hN.mod hm, hx, hl⟩
theorem Rgs.lt {w : World} {rb : Nat} {R : List Int} (h : Rgs w rb R) : rb < w.heap.size := by
  obtain ⟨C, h2, -⟩ := h.2.1
  exact lt_of_block h2
theorem Rgs.fz {w : World} {rb : Nat} {R : List Int} (h : Rgs w rb R) (i : Nat) : w.frozen? ⟨rb, i, none⟩ = false := by
  obtain ⟨C, h2, -⟩ := h.2.1
  simp [World.frozen?, h2]
/-- Two cells of a block set. -/
def set2at (w : World) (b o : Nat) (x y : Value) : World := (w.setCell ⟨b, o, none⟩ x).setCell ⟨b, o + 1, none⟩ y
theorem set2at_own (w : World) (b o : Nat) (x y : Value) : Mod (fun q => q = b) w (set2at w b o x y) := by
  have h0 : Mod (fun q => q = b) w (w.setCell ⟨b, o, none⟩ x) := (Mod.refl _ w).setCell ⟨b, o, none⟩ x (fun _ => rfl)
  exact h0.setCell ⟨b, o + 1, none⟩ y (fun _ => rfl)
theorem set2at_new {p : Nat → Prop} {a w : World} (h : Mod p a w) (b o : Nat) (x y : Value) (hb : a.heap.size ≤ b) : Mod p a (set2at w b o x y) := by
  have h0 := h.setCell ⟨b, o, none⟩ x (fun h => absurd h (Nat.not_lt.2 hb))
  exact h0.setCell ⟨b, o + 1, none⟩ y (fun h => absurd h (Nat.not_lt.2 hb))
theorem set2at_block {w : World} {b o : Nat} {x y : Value} {C : Array Value} {t : TypeId} (h : w.heap[b]? = some (.cells C t (0, 0))) : (set2at w b o x y).heap[b]? = some (.cells ((C.setIfInBounds o x).setIfInBounds (o + 1) y) t (0, 0)) := by
  have h0 : (w.setCell ⟨b, o, none⟩ x).heap[b]? = some (.cells (C.setIfInBounds o x) t (0, 0)) := by simp [World.setCell, Array.getElem?_modify, h]
  unfold set2at
  generalize w.setCell ⟨b, o, none⟩ x = w1 at *
  simp [World.setCell, Array.getElem?_modify, h0]
theorem set2at_cell {w : World} {b o : Nat} {x y : Value} {C : Array Value} {t : TypeId} (h : w.heap[b]? = some (.cells C t (0, 0))) (i : Nat) : (set2at w b o x y).cell? ⟨b, i, none⟩ = if i = o + 1 ∧ i < C.size then some y else if i = o ∧ i < C.size then some x else w.cell? ⟨b, i, none⟩ := by
  have e : (set2at w b o x y).cell? ⟨b, i, none⟩ = ((C.setIfInBounds o x).setIfInBounds (o + 1) y)[i]? := by simp only [World.cell?, set2at_block h]; simp
  have e2 : w.cell? ⟨b, i, none⟩ = C[i]? := by simp only [World.cell?, h]; simp
  rw [e, e2, Array.getElem?_setIfInBounds, Array.getElem?_setIfInBounds]
  by_cases a : i = o + 1
  · subst a
    by_cases hs : o + 1 < C.size <;> simp [hs]
  · by_cases c : i = o
    · subst c
      by_cases hs : i < C.size <;> simp [hs]
    · simp [a, c, show ¬ o + 1 = i from fun hh => a hh.symm, show ¬ o = i from fun hh => c hh.symm]
theorem Nm.apart {w w' : World} {rb : Nat} {nx : Bool} {u : Value} {a : List Nat} (h : Nm w nx u a) (hm : Mod (fun q => q = rb) w w') {C : Array Value} (hb : w.heap[rb]? = some (.cells C 116 (0, 0))) : Nm w' nx u a := by
  refine ⟨h.1, owns_mod' h.2 hm (fun g h1 h2 => ?_)⟩
  subst h2
  obtain ⟨_, ⟨rfl, _⟩ | ⟨g', cap, cur, rfl, _, hg, _⟩⟩ := h.2
  · simp [Value.ownBlock] at h1
  · simp [Value.ownBlock] at h1
    subst h1
    rw [hb] at hg
    simp at hg
theorem Rgs.set {w : World} {rb : Nat} {R : List Int} {nb : Bool} {v : Value} {l : List Nat} (h : Rgs w rb R) {x : Nat} (hx : x < 128) (hN : Nm w nb v l) (hl : l.length ≤ 2000) : Rgs (set2at w rb (x * 2) (.bool nb) v) rb (R.set x (num nb l)) := by
  obtain ⟨h1, ⟨C, h2, h3⟩, h4⟩ := h
  refine ⟨by simpa using h1, ⟨_, set2at_block h2, by simpa using h3⟩, fun r hr => ?_⟩
  have hm := set2at_own w rb (x * 2) (.bool nb) v
  rw [set2at_cell h2, set2at_cell h2]
  by_cases e : r = x
  · subst e
    refine ⟨nb, v, l, by rw [if_neg (by omega), if_pos (by omega)], by rw [if_pos (by omega)], hN.apart hm h2, ?_, hl⟩
    simp [reg, h1, hr]
  · obtain ⟨nx, u, a, c0, c1, hN', hx', hl'⟩ := h4 r hr
    refine ⟨nx, u, a, by rw [if_neg (by omega), if_neg (by omega)]; exact c0, by rw [if_neg (by omega), if_neg (by omega)]; exact c1, hN'.apart hm h2, ?_, hl'⟩
    rw [hx']
    simp [reg, show ¬ x = r from fun hh => e hh.symm]

/-- What a step of a right code keeps to. -/
def Good (n : Nat) (t : Stp) : Prop := Small t ∧ t.op ≤ 7 ∧ t.x < 128 ∧ (2 ≤ t.op ∧ t.op ≤ 5 → t.y < 128) ∧ (2 ≤ t.op ∧ t.op ≤ 4 → t.z < 128) ∧ (t.op = 0 → t.y < n) ∧ (t.op = 7 → t.y < 3 ∧ t.z < 16)
theorem Pu.sgn_eq (x : Int) : sgn x = sgI x := rfl

theorem value_any (t : Stp) (rb rcap : Nat) (iv : Value) (R ins : List Int) (base : Nat) (w : World) (hg : Good ins.length t) (hop : t.op < 6) (hR : Rgs w rb R) (hI : w.ownsRow base 3 1 iv ins.length (zvs ins)) (hn : ins.length ≤ 1000) (hi : ∀ x ∈ ins, -100 < x ∧ x < 100) :
    Calls Tryz.prog 75 #[st4 t, .slice (some ⟨rb, 0, none⟩) 128 rcap, iv] w (NumEnd w (Pu.valOf t R ins) 4004) := by
  obtain ⟨hs, -, -, hy, hz, h0, -⟩ := hg
  have hlt := hR.lt
  have hb : ∀ {x : Int} {n : Nat} (_ : n ≤ 4004) (e : Ending) (w' : World), NumEnd w x n e w' → NumEnd w x 4004 e w' := fun hn e w' h => by
    obtain ⟨hm, nb, v', l, he, hN, hx, hl⟩ := h
    exact ⟨hm, nb, v', l, he, hN, hx, Nat.le_trans hl hn⟩
  have hc : t.op = 0 ∨ t.op = 1 ∨ t.op = 2 ∨ t.op = 3 ∨ t.op = 4 ∨ t.op = 5 := by omega
  rcases hc with e | e | e | e | e | e
  · have hyl : t.y < ins.length := h0 e
    obtain ⟨io, icap, rfl, -⟩ := owns_form hI
    obtain ⟨gi, rfl, ci⟩ := zvs_cell hI rfl hyl
    obtain ⟨b1, b2⟩ := hi _ (List.getElem_mem hyl)
    have := value_in t (.slice (some ⟨rb, 0, none⟩) 128 rcap) gi ins.length icap ins[t.y] w hs e hyl hn b1 b2 ci
    rw [show Pu.valOf t R ins = ins[t.y] by simp [Pu.valOf, e, hyl]]
    exact this.mono (hb (by omega))
  · rw [show Pu.valOf t R ins = (t.y : Int) by simp [Pu.valOf, e]]
    exact (value_con t _ iv w hs e).mono (hb (by omega))
  · obtain ⟨nx, u, a, c0, c1, hU, hx, la⟩ := hR.2.2 t.y (hy (by omega))
    obtain ⟨ny, v, b, d0, d1, hV, hx', lb⟩ := hR.2.2 t.z (hz (by omega))
    rw [show Pu.valOf t R ins = num nx a + num ny b by simp [Pu.valOf, e, hx, hx']]
    exact (value_add t rb 128 rcap iv nx ny u v a b w hs e (hy (by omega)) (hz (by omega)) (by omega) hlt c0 c1 d0 d1 hU hV (by omega) (by omega)).mono (hb (by omega))
  · obtain ⟨nx, u, a, c0, c1, hU, hx, la⟩ := hR.2.2 t.y (hy (by omega))
    obtain ⟨ny, v, b, d0, d1, hV, hx', lb⟩ := hR.2.2 t.z (hz (by omega))
    rw [show Pu.valOf t R ins = num nx a - num ny b by simp [Pu.valOf, e, hx, hx']]
    exact (value_sub t rb 128 rcap iv nx ny u v a b w hs e (hy (by omega)) (hz (by omega)) (by omega) hlt c0 c1 d0 d1 hU hV (by omega) (by omega)).mono (hb (by omega))
  · obtain ⟨nx, u, a, c0, c1, hU, hx, la⟩ := hR.2.2 t.y (hy (by omega))
    obtain ⟨ny, v, b, d0, d1, hV, hx', lb⟩ := hR.2.2 t.z (hz (by omega))
    rw [show Pu.valOf t R ins = num nx a * num ny b by simp [Pu.valOf, e, hx, hx']]
    exact (value_mul t rb 128 rcap iv nx ny u v a b w hs e (hy (by omega)) (hz (by omega)) (by omega) hlt c0 c1 d0 d1 hU hV (by omega) (by omega)).mono (hb (by omega))
  · obtain ⟨nx, u, a, c0, c1, hU, hx, la⟩ := hR.2.2 t.y (hy (by omega))
    rw [show Pu.valOf t R ins = sgI (num nx a) by simp [Pu.valOf, e, hx, sgn_eq]]
    exact (value_sgn t rb 128 rcap iv nx u a w hs (by omega) (hy (by omega)) (by omega) c0 c1 hU (by omega)).mono (hb (by omega))
end Go.Proofs.YtmnfndpbblpjiaaGreatDoor

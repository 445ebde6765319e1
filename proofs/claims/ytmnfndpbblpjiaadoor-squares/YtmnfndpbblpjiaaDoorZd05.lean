/- The document's numbers: made, carried. -/
import Derived.Test.YtmnfndpbblpjiaaDoorZd04
namespace Go.Proofs.YtmnfndpbblpjiaaDoor
open Go.RowKit Pu

theorem owns_prefix {w : World} {base : Nat} {e : TypeId} {ao : Option Addr} {n cap : Nat} {l : List Nat} (h : w.ownsRow base e 1 (.slice ao n cap) n (ivs l)) (hn : n = l.length) (m : Nat) (hm : m ≤ n) (hs : 0 < n) : w.ownsRow base e 1 (.slice ao m cap) m (ivs (l.take m)) := by
  obtain ⟨hl, ⟨he, h0⟩ | ⟨g, c, cur, he, hb, hg, h1, h2, h3, h4⟩⟩ := h
  · omega
  · injection he with e1 e2 e3
    subst e1 e3
    refine ⟨by simp [ivs]; omega, .inr ⟨g, cap, cur, rfl, hb, hg, by omega, h2, h3, ?_⟩⟩
    have := congrArg (List.take m) h4
    rw [List.take_take] at this
    rw [show min m (n * 1) = m * 1 by omega] at this
    rw [this]
    simp [ivs]

theorem owns_cap {w : World} {base : Nat} {e : TypeId} {size : Nat} {ao : Option Addr} {n cap : Nat} {xs : List Value} (h : w.ownsRow base e size (.slice ao n cap) n xs) : n ≤ cap ∧ cap ≤ maxLen := by
  obtain ⟨hl, ⟨he, h0⟩ | ⟨g, c, cur, he, hb, hg, h1, h2, h3, h4⟩⟩ := h
  · injection he with e1 e2 e3
    subst e3; unfold maxLen; omega
  · injection he with e1 e2 e3
    subst e3; exact ⟨h1, h2⟩
theorem owns_zero {w : World} {base : Nat} {e : TypeId} {ao : Option Addr} {n cap : Nat} {l : List Nat} (h : w.ownsRow base e 1 (.slice ao n cap) n (ivs l)) : w.ownsRow base e 1 (.slice ao 0 cap) 0 [] := by
  obtain ⟨hl, ⟨he, h0⟩ | ⟨g, c, cur, he, hb, hg, h1, h2, h3, h4⟩⟩ := h
  · injection he with e1 e2 e3
    subst e1 e3
    exact World.ownsRow_nil _ _ _ _
  · injection he with e1 e2 e3
    subst e1 e3
    exact ⟨rfl, .inr ⟨g, cap, cur, rfl, hb, hg, by omega, h2, h3, by simp⟩⟩

section
variable {w : World} {b : Nat} {nb : Bool} {v : Value}
theorem mod_set2 (b : Nat) (w : World) (x : Bool) (u : Value) : Mod (fun i => i = b) w ((w.setCell ⟨b, 0, none⟩ (.bool x)).setCell ⟨b, 1, none⟩ u) := ((Mod.refl (fun i => i = b) w).setCell _ _ (fun _ => rfl)).setCell _ _ (fun _ => rfl)
end

/-- A call has answered a number of this value. -/
def NumEnd (w : World) (x : Int) (n : Nat) (e : Ending) (w' : World) : Prop := Mod (fun _ => False) w w' ∧ ∃ nb v' l, e = .returned (nm2 nb v') ∧ Nm w' nb v' l ∧ num nb l = x ∧ l.length ≤ n
theorem numEnd {w w' : World} {x : Int} {n : Nat} {nb : Bool} {v : Value} {l : List Nat} (hm : Mod (fun _ => False) w w') (hN : Nm w' nb v l) (hx : num nb l = x) (hl : l.length ≤ n) : NumEnd w x n (.returned (nm2 nb v)) w' := ⟨hm, nb, v, l, rfl, hN, hx, hl⟩
theorem made_num {neg : Bool} {ds : List Nat} {m : Nat} (h : val (ds.take m) = val ds) : num neg (ds.take m) = num neg ds := by unfold num; rw [h]

/-- Digits that may be anything, in memory. -/
def zvs (l : List Int) : List Value := l.map fun (n : Int) => Value.int .i64 n
theorem zvs_cell {w : World} {base n : Nat} {ao : Option Addr} {cap : Nat} {l : List Int} (h : w.ownsRow base 3 1 (.slice ao n cap) n (zvs l)) (hn : n = l.length) {k : Nat} (hk : k < l.length) :
    ∃ gb, ao = some ⟨gb, 0, none⟩ ∧ w.cell? ⟨gb, k, none⟩ = some (.int .i64 l[k]) := by
  subst hn
  obtain ⟨gb, rfl, hc⟩ := owns_cell h (j := k) (by omega)
  exact ⟨gb, rfl, by rw [hc]; simp [zvs, hk]⟩
theorem ivs_snoc (l : List Nat) (d : Nat) : ivs l ++ [.int .i64 (d : Int)] = ivs (l ++ [d]) := by simp [ivs]

def CarEnd (w : World) (d : List Int) (e : Ending) (w' : World) : Prop := Mod (fun _ => False) w w' ∧ ∃ v' os, e = .returned v' ∧ w'.ownsRow w.heap.size 3 1 v' os.length (ivs os) ∧ Dig os ∧ (val os : Int) = valI d ∧ os.length ≤ d.length + 4

end Go.Proofs.YtmnfndpbblpjiaaDoor

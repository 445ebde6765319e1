/- The document's registers, and its value of any right step. -/
import Derived.Test.YtmnfndpbblpjiaaGreatDoorZr04
namespace Go.Proofs.YtmnfndpbblpjiaaGreatDoor
open Go.RowKit Pu
def set2at (w:World) (b o:Nat) (x y:Value):World:=(w.setCell ⟨b,o,none⟩ x).setCell ⟨b,o+1,none⟩ y
theorem set2at_own (w:World) (b o:Nat) (x y:Value):Mod (fun q=>q=b) w (set2at w b o x y):=by
 have h0:Mod (fun q=>q=b) w (w.setCell ⟨b,o,none⟩ x):=(Mod.refl _ w).setCell ⟨b,o,none⟩ x (fun _=>rfl)
 exact h0.setCell ⟨b,o+1,none⟩ y (fun _=>rfl)
theorem set2at_new {p:Nat→Prop} {a w:World} (h:Mod p a w) (b o:Nat) (x y:Value) (hb:a.heap.size≤b):Mod p a (set2at w b o x y):=by
 have h0:=h.setCell ⟨b,o,none⟩ x (fun h=>absurd h (Nat.not_lt.2 hb))
 exact h0.setCell ⟨b,o+1,none⟩ y (fun h=>absurd h (Nat.not_lt.2 hb))
theorem set2at_block {w:World} {b o:Nat} {x y:Value} {C:Array Value} {t:TypeId} (h:w.heap[b]?=some (.cells C t (0,0))):(set2at w b o x y).heap[b]?=some (.cells ((C.setIfInBounds o x).setIfInBounds (o+1) y) t (0,0)):=by
 have h0:(w.setCell ⟨b,o,none⟩ x).heap[b]?=some (.cells (C.setIfInBounds o x) t (0,0)):=by simp [World.setCell,Array.getElem?_modify,h]
 unfold set2at
 generalize w.setCell ⟨b,o,none⟩ x=w1 at *
 simp [World.setCell,Array.getElem?_modify,h0]
theorem set2at_cell {w:World} {b o:Nat} {x y:Value} {C:Array Value} {t:TypeId} (h:w.heap[b]?=some (.cells C t (0,0))) (i:Nat):(set2at w b o x y).cell? ⟨b,i,none⟩=if i=o+1∧i < C.size then some y else if i=o∧i < C.size then some x else w.cell? ⟨b,i,none⟩:=by
 have e:(set2at w b o x y).cell? ⟨b,i,none⟩=((C.setIfInBounds o x).setIfInBounds (o+1) y)[i]?:=by simp only [World.cell?,set2at_block h];simp
 have e2:w.cell? ⟨b,i,none⟩=C[i]?:=by simp only [World.cell?,h];simp
 rw [e,e2,Array.getElem?_setIfInBounds,Array.getElem?_setIfInBounds]
 by_cases a:i=o+1
 ·subst a
  by_cases hs:o+1 < C.size <;> simp [hs]
 ·by_cases c:i=o
  ·subst c
   by_cases hs:i < C.size <;> simp [hs]
  ·simp [a,c,show ¬ o+1=i from fun hh=>a hh.symm,show ¬ o=i from fun hh=>c hh.symm]
def Good (n:Nat) (t:Stp):Prop:=Small t∧t.op≤7∧t.x < 128∧(2≤t.op∧t.op≤5→t.y < 128)∧(2≤t.op∧t.op≤4→t.z < 128)∧(t.op=0→t.y < n)∧(t.op=7→t.y < 3∧t.z < 16)
end Go.Proofs.YtmnfndpbblpjiaaGreatDoor

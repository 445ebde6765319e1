/- The document's Run, and a step that asks for it. -/
import Derived.Test.YtmnfndpbblpjiabGreatDoorZc34
import Derived.Test.YtmnfndpbblpjiabGreatDoorZc43
import Derived.Test.YtmnfndpbblpjiabGreatDoorZc44
import Derived.Test.YtmnfndpbblpjiabGreatDoorZc45
namespace Go.Proofs.YtmnfndpbblpjiabGreatDoor
open Go.RowKit Pu
theorem ptR_ins {l : List St} {C : List Cmd} {V : List Nat} (h : StR l C V) {k : Nat} {x : St} (hx : l[k]? = some x) : insC (cmdOf l x) = ptR x := by
 have hq := h.q k x hx
 rcases word_cases (h.k k x hx) with e | e | e | e | e | e | e | e | e | e | e | e | e | e | e | e | e | e <;> rw [e] at hq <;> simp [cmdOf,e,insC,ptR]
 exact fun e0 => by have := hq.2 e0; simp [fm] at this
theorem ndR_cnt {p : List (St × Nat)} (h : Ok p) (hl : p.length ≤ 16) : ndR (sts p) = cntI (cmds (sts p)) := by
 have hS := StR.of h hl
 unfold ndR cntI cmds
 rw [List.map_map]
 refine congrArg List.sum (List.map_congr_left fun x hx => ?_)
 obtain ⟨k,hk,e⟩ := List.getElem_of_mem hx
 exact (ptR_ins hS (k := k) (by rw [List.getElem?_eq_getElem hk,e])).symm
theorem cnt_32 {p : List (St × Nat)} (hl : p.length ≤ 16) : cntI (cmds (sts p)) ≤ 32 := by
 have : ∀ C : List Cmd,cntI C ≤ 2 * C.length := fun C => by
  induction C with
  | nil => simp [cntI]
  | cons c C ih =>
   have : insC c ≤ 2 := by cases c <;> simp [insC]
   simp only [cntI,List.map_cons,List.sum_cons,List.length_cons] at *
   omega
 have := this (cmds (sts p))
 rw [cmds_len] at this
 omega
end Go.Proofs.YtmnfndpbblpjiabGreatDoor

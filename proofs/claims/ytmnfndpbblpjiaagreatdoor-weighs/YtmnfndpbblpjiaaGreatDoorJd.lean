/- The program's judging of a statement: names, sorts, weight. -/
import Derived.Test.YtmnfndpbblpjiaaGreatDoorGv
import Derived.Test.YtmnfndpbblpjiaaGreatDoorPu3
namespace Go.Proofs.YtmnfndpbblpjiaaGreatDoor
set_option linter.unusedVariables false
open Go.RowKit Pu

abbrev ag4 (nm : Nat) (wd : List UInt8) (av : Value) (wt : Int) : Value := .agg #[.int .u8 nm, S wd, av, .int .i64 wt]
def pq (q : List It) : List (St × Nat) := q.map fun t => (t.x, t.wt)
theorem sts_pq (q : List It) : sts (pq q) = q.map It.x := by simp [sts, pq]

set_option maxHeartbeats 400000 in
theorem isQuestion_any (nm : Nat) (wd : List UInt8) (av : Value) (wt : Int) (w : World) (hav : av.oneCell' = true) :
    Calls Tryz.prog 57 #[ag4 nm wd av wt] w fun e w' => e = .returned (.bool (nm == 0)) ∧ Mod (fun _ => False) w w' := by
  go_enter Tryz.func57, Tryz.ntmps57
  go_wp2
  go_ret
  exact ⟨by have : (nm == 0) = ((nm : Int) == 0) := by rw [Bool.eq_iff_iff]; simp
            rw [this]; rfl, (Mod.refl _ w).alloc _⟩

theorem se_new (w : World) (nm : Nat) (wd : List UInt8) (av : Value) (wt : Int) : Se (w.alloc (.cells #[.int .u8 nm, S wd, av, .int .i64 wt] 83)) w.heap.size nm wd av wt := by
  unfold Se; show (w.heap.push _)[w.heap.size]? = _; simp
def tk (nm : Nat) (wd : List UInt8) : List UInt8 × Bool := if nm = 0 then qT wd else cT wd

set_option maxHeartbeats 800000 in
theorem argumentSorts_any (nm : Nat) (wd : List UInt8) (av : Value) (wt : Int) (w : World) (hav : av.oneCell' = true) :
    Calls Tryz.prog 88 #[ag4 nm wd av wt] w fun e w' => e = .returned (.tuple #[S (tk nm wd).1, .bool (tk nm wd).2]) ∧ Mod (fun _ => False) w w' := by
  have hS := se_new w nm wd av wt
  have hm0 : Mod (fun _ => False) w (w.alloc (.cells #[.int .u8 nm, S wd, av, .int .i64 wt] 83)) := (Mod.refl _ w).alloc _
  by_cases h0 : nm = 0
  · have HT : Hid (tk nm wd = qT wd) := show tk nm wd = qT wd by simp [tk, h0]
    have hb : (nm == 0) = true := by simpa using h0
    clear h0
    go_enter Tryz.func88, Tryz.ntmps88
    go_wp2_with fail
    refine (isQuestion_any nm wd av wt _ hav).mono ?_
    rintro e w1 ⟨rfl, hm1⟩
    have c1 := (hS.keep hm1 (fun f => f)).c1
    go_wp2_with fail
    refine (questionTakes_any _ _).mono ?_
    rintro e w2 ⟨rfl, rfl⟩
    go_wp2
    go_ret2
    exact ⟨by rw [HT.out]; rfl, hm0.trans hm1⟩
  · have HT : Hid (tk nm wd = cT wd) := show tk nm wd = cT wd by simp [tk, h0]
    have hb : (nm == 0) = false := by simpa using h0
    go_enter Tryz.func88, Tryz.ntmps88
    go_wp2_with fail
    refine (isQuestion_any nm wd av wt _ hav).mono ?_
    rintro e w1 ⟨rfl, hm1⟩
    have c1 := (hS.keep hm1 (fun f => f)).c1
    go_wp2_with fail
    refine (constructionTakes_any _ _).mono ?_
    rintro e w2 ⟨rfl, rfl⟩
    go_wp2
    go_ret2
    exact ⟨by rw [HT.out]; rfl, hm0.trans hm1⟩

theorem owns_one {w : World} {base : Nat} {e : TypeId} {size : Nat} {v : Value} {n : Nat} {xs : List Value} (h : w.ownsRow base e size v n xs) : v.oneCell' = true := by
  obtain ⟨ao, cap, rfl, -⟩ := owns_form h; rfl
theorem args_cell {w : World} {base n : Nat} {ao : Option Addr} {cap : Nat} {ag : List UInt8} (h : w.ownsRow base 5 1 (.slice ao n cap) n (bvs ag)) (hn : n = ag.length) {k : Nat} (hk : k < ag.length) :
    ∃ gb, ao = some ⟨gb, 0, none⟩ ∧ w.cell? ⟨gb, k, none⟩ = some (.int .u8 ag[k].toNat) := by
  subst hn
  obtain ⟨gb, rfl, hc⟩ := owns_cell h (j := k) (by omega)
  exact ⟨gb, rfl, by rw [hc]; simp [bvs, hk]⟩

theorem names_no {l : List St} {x : St} {k : Nat} (hk : k < x.args.length) (h : gvI l x.args[k].toNat = -1) : namesOk l x = false := by
  have : x.args.all (fun a => gvI l a.toNat != -1) = false := by
    rw [Bool.eq_false_iff, ne_eq, List.all_eq_true]
    intro H
    have := H x.args[k] (List.getElem_mem hk)
    simp [h] at this
  simp [namesOk, this]

set_option maxHeartbeats 1600000 in
set_option maxRecDepth 100000 in
theorem namesFit_any (v : Value) (q : List It) (base : Nat) (x : St) (av : Value) (wt : Int) (w : World) (hq : q.length ≤ 1000) (hal : x.args.length ≤ 1000) (hL : Lst w base v q) (hA : w.ownsRow base 5 1 av x.args.length (bvs x.args)) :
    Calls Tryz.prog 89 #[v, ag4 x.name x.word av wt] w fun e w' => e = .returned (.bool (namesOk (q.map It.x) x)) ∧ Mod (fun _ => False) w w' := by
  have hS := se_new w x.name x.word av wt
  have hm0 : Mod (fun _ => False) w (w.alloc (.cells #[.int .u8 x.name, S x.word, av, .int .i64 wt] 83)) := (Mod.refl _ w).alloc _
  have hL1 := hL.mod hm0 (fun _ _ _ f => f)
  have hA1 := owns_mod hA hm0 (fun _ _ f => f)
  have hav := owns_one hA
  obtain ⟨aa, acap, rfl, -⟩ := owns_form hA
  clear hL hA
  go_enter Tryz.func89, Tryz.ntmps89
  go_wp2
  generalize hW : w.alloc (.cells #[.int .u8 x.name, S x.word, .slice aa x.args.length acap, .int .i64 wt] 83) = W at *
  clear hW
  go_loop [10] (fun i => ∃ k : Nat, k ≤ x.args.length ∧ i = .int .i64 k ∧ ∀ j (hj : j < x.args.length), j < k → gvI (q.map It.x) x.args[j].toNat ≠ -1) (fun i => x.args.length - (intOf i).toNat)
  case atStart => exact ⟨0, by omega, rfl, fun j hj h => by omega⟩
  case round =>
    obtain ⟨k, hk, rfl, hN⟩ := hrel
    have HN : Hid (∀ j (hj : j < x.args.length), j < k → gvI (q.map It.x) x.args[j].toNat ≠ -1) := hN
    clear hN
    by_cases hlt : k < x.args.length
    · obtain ⟨gb, rfl, ck⟩ := args_cell hA1 rfl hlt
      by_cases hg : gvI (q.map It.x) x.args[k].toNat = -1
      · have HG : Hid (gvI (q.map It.x) x.args[k].toNat = -1) := hg
        have hb : (gvI (q.map It.x) x.args[k].toNat == -1) = true := by rw [hg]; rfl
        clear hg
        go_wp2_with fail
        refine (giver_any v q x.args[k].toNat base W hq hL1).mono ?_
        rintro e w2 ⟨rfl, rfl⟩
        go_wp2
        go_ret
        exact ⟨by rw [names_no hlt HG.out]; rfl, hm0⟩
      · have hb : (gvI (q.map It.x) x.args[k].toNat == -1) = false := by rw [beq_eq_false_iff_ne]; exact hg
        go_wp2_with fail
        refine (giver_any v q x.args[k].toNat base W hq hL1).mono ?_
        rintro e w2 ⟨rfl, rfl⟩
        go_wp2
        go_round
        case rel => exact ⟨k + 1, by omega, by go_num, fun j hj h => by by_cases e : j = k; (· subst e; exact hg); exact HN.out j hj (by omega)⟩
        case measure => simp [intOf]; omega
    · have hall : x.args.all (fun a => gvI (q.map It.x) a.toNat != -1) = true := by
        rw [List.all_eq_true]; intro a ha; obtain ⟨j, hj, rfl⟩ := List.getElem_of_mem ha
        rw [bne_iff_ne]; exact HN.out j hj (by omega)
      have HA : Hid (x.args.all (fun a => gvI (q.map It.x) a.toNat != -1) = true) := hall
      clear hall
      have s0 := hS.c0
      have s1 := hS.c1
      have s2 := hS.c2
      have s3 := hS.c3
      by_cases h0 : x.name = 0
      · have hb : (x.name == 0) = true := by simpa using h0
        have HB : Hid (namesOk (q.map It.x) x = true) := show namesOk (q.map It.x) x = true by unfold namesOk; rw [HA.out]; simp [h0]
        clear h0
        go_wp2_with fail
        refine (isQuestion_any x.name x.word _ wt _ hav).mono ?_
        rintro e w2 ⟨rfl, hm2⟩
        go_wp2
        go_ret
        exact ⟨by rw [HB.out]; rfl, hm0.trans hm2⟩
      · have hb : (x.name == 0) = false := by simpa using h0
        have HB : Hid (namesOk (q.map It.x) x = (gvI (q.map It.x) x.name == -1)) := show namesOk (q.map It.x) x = (gvI (q.map It.x) x.name == -1) by unfold namesOk; rw [HA.out, hb]; simp
        clear h0
        go_wp2_with fail
        refine (isQuestion_any x.name x.word _ wt _ hav).mono ?_
        rintro e w2 ⟨rfl, hm2⟩
        have c0 := (hS.keep hm2 (fun f => f)).c0
        have hL2 := hL1.mod hm2 (fun _ _ _ f => f)
        go_wp2_with fail
        refine (giver_any v q x.name base _ hq hL2).mono ?_
        rintro e w3 ⟨rfl, rfl⟩
        go_wp2
        go_ret
        exact ⟨by rw [HB.out]; rfl, hm0.trans hm2⟩
end Go.Proofs.YtmnfndpbblpjiaaGreatDoor

/- Who gave a name, on both sides. -/
import Derived.Test.YtmnfndpbblpjiabGreatDoorZb18
import Derived.Test.YtmnfndpbblpjiabGreatDoorZb16
import Derived.Test.YtmnfndpbblpjiabGreatDoorZb09
import Derived.Test.YtmnfndpbblpjiabGreatDoorZb11
import Derived.Test.YtmnfndpbblpjiabGreatDoorZb04
namespace Go.Proofs.YtmnfndpbblpjiabGreatDoor
open Go.RowKit Pu

set_option maxHeartbeats 800000 in
set_option maxRecDepth 100000 in
theorem giver_any (v : Value) (q : List It) (nm base : Nat) (w : World) (hq : q.length ≤ 1000) (hL : Lst w base v q) :
    Calls Tryz.prog 77 #[v, .int .u8 nm] w fun e w' => e = .returned (.int .i64 (gvI (q.map It.x) nm)) ∧ w = w' := by
  obtain ⟨ao, cap, rfl, -⟩ := hL.form
  go_enter Tryz.func77, Tryz.ntmps77
  go_wp2
  go_loop [8] (fun i => ∃ k : Nat, k ≤ q.length ∧ i = .int .i64 k ∧ ∀ j (hj : j < q.length), j < k → q[j].x.name ≠ nm) (fun i => q.length - (intOf i).toNat)
  case atStart => exact ⟨0, by omega, rfl, fun j hj h => by omega⟩
  case round =>
    obtain ⟨k, hk, rfl, hn⟩ := hrel
    by_cases hlt : k < q.length
    · obtain ⟨gb, rfl, c0, -⟩ := hL.cell hlt
      have HN : Hid (∀ j (hj : j < q.length), j < k → q[j].x.name ≠ nm) := hn
      clear hn
      by_cases he : q[k].x.name = nm
      · have HE : Hid (q[k].x.name = nm) := he
        have hb : ((q[k].x.name : Int) == (nm : Int)) = true := beq_t he
        clear he
        go_wp2
        go_ret
        exact ⟨by rw [gvI_some (k := k) (by simpa using hlt) (by simpa using HE.out) (fun j hj => by simpa using HN.out j (by omega) hj)]; rfl, rfl⟩
      · have hb : ((q[k].x.name : Int) == (nm : Int)) = false := beq_f he
        go_wp2
        go_round
        case rel => exact ⟨k + 1, by omega, by go_num, fun j hj h => by by_cases e : j = k; (· subst e; exact he); exact HN.out j hj (by omega)⟩
        case measure => simp [intOf]; omega
    · have hks : k = q.length := by omega
      subst hks
      go_wp2
      go_ret
      exact ⟨by rw [gvI_none (fun j hj => by simpa using hn j (by simpa using hj) (by simpa using hj))]; rfl, rfl⟩

theorem RLst.cell {w : World} {base : Nat} {ao : Option Addr} {cap : Nat} {l : List St} (h : RLst w base (.slice ao l.length cap) l) {j : Nat} (hj : j < l.length) :
    ∃ gb, ao = some ⟨gb, 0, none⟩ ∧ w.cell? ⟨gb, j * 3, none⟩ = some (.int .u8 l[j].name) ∧ w.cell? ⟨gb, j * 3 + 1, none⟩ = some (S l[j].word) ∧ w.cell? ⟨gb, j * 3 + 2, none⟩ = some (S l[j].args) := by
  unfold RLst at h
  obtain ⟨gb, rfl, h0⟩ := owns_cell h (j := j * 3 + 0) (by omega)
  have h1 := h.cellAt (j * 3 + 1) (by omega)
  have h2 := h.cellAt (j * 3 + 2) (by omega)
  rw [rcellsOf_at l j _ hj (by omega)] at h0 h1 h2
  exact ⟨gb, rfl, by simpa [rcells] using h0, by simpa [rcells] using h1, by simpa [rcells] using h2⟩

set_option maxHeartbeats 800000 in
set_option maxRecDepth 100000 in
theorem given_any (v : Value) (l : List St) (n nm base : Nat) (w : World) (hq : l.length ≤ 1000) (hn : n ≤ l.length) (hL : RLst w base v l) :
    Calls Tryz.prog 149 #[v, .int .i64 n, .int .u8 nm] w fun e w' => e = .returned (.int .i64 (gvI (l.take n) nm)) ∧ w = w' := by
  obtain ⟨ao, cap, rfl, -⟩ := owns_form hL
  go_enter Tryz.func149, Tryz.ntmps149
  go_wp2
  go_loop [7] (fun i => ∃ k : Nat, k ≤ n ∧ i = .int .i64 k ∧ ∀ j (hj : j < l.length), j < k → l[j].name ≠ nm) (fun i => n - (intOf i).toNat)
  case atStart => exact ⟨0, by omega, rfl, fun j hj h => by omega⟩
  case round =>
    obtain ⟨k, hk, rfl, hN⟩ := hrel
    have HN : Hid (∀ j (hj : j < l.length), j < k → l[j].name ≠ nm) := hN
    clear hN
    by_cases hlt : k < n
    · have hkl : k < l.length := by omega
      obtain ⟨gb, rfl, c0, -⟩ := hL.cell hkl
      by_cases he : l[k].name = nm
      · have HE : Hid (l[k].name = nm) := he
        have hb : ((l[k].name : Int) == (nm : Int)) = true := beq_t he
        clear he
        go_wp2
        go_ret
        exact ⟨by rw [gvI_some (k := k) (by simp; omega) (by simpa using HE.out) (fun j hj => by simpa using HN.out j (by omega) hj)]; rfl, rfl⟩
      · have hb : ((l[k].name : Int) == (nm : Int)) = false := beq_f he
        go_wp2
        go_round
        case rel => exact ⟨k + 1, by omega, by go_num, fun j hj h => by by_cases e : j = k; (· subst e; exact he); exact HN.out j hj (by omega)⟩
        case measure => simp [intOf]; omega
    · have hks : k = n := by omega
      subst hks
      go_wp2
      go_ret
      exact ⟨by rw [gvI_none (fun j hj => by simpa using HN.out j (by simp at hj; omega) (by simp at hj; omega))]; rfl, rfl⟩
end Go.Proofs.YtmnfndpbblpjiabGreatDoor

/- The program's judging of a statement: names, sorts, weight. -/
namespace Go.Proofs.YtmnfndpbblpjiabGreatDoor
set_option linter.unusedVariables false
open Go.RowKit Pu

abbrev ag4 (nm : Nat) (wd : List UInt8) (av : Value) (wt : Int) : Value := .agg #[.int .u8 nm, S wd, av, .int .i64 wt]
def pq (q : List It) : List (St × Nat) := q.map fun t => (t.x, t.wt)
theorem sts_pq (q : List It) : sts (pq q) = q.map It.x := by simp [sts, pq]

set_option maxHeartbeats 400000 in
theorem isQuestion_any (nm : Nat) (wd : List UInt8) (av : Value) (wt : Int) (w : World) (hav : av.oneCell' = true) :
    Calls Tryz.prog 47 #[ag4 nm wd av wt] w fun e w' => e = .returned (.bool (nm == 0)) ∧ Mod (fun _ => False) w w' := by
  go_enter Tryz.func47, Tryz.ntmps47
  go_wp2
  go_ret
  exact ⟨by have : (nm == 0) = ((nm : Int) == 0) := (by rw [Bool.eq_iff_iff]; simp); rw [this]; rfl, (Mod.refl _ w).alloc _⟩

theorem se_new (w : World) (nm : Nat) (wd : List UInt8) (av : Value) (wt : Int) : Se (w.alloc (.cells #[.int .u8 nm, S wd, av, .int .i64 wt] 72)) w.heap.size nm wd av wt := by
  unfold Se; show (w.heap.push _)[w.heap.size]? = _; simp
def tk (nm : Nat) (wd : List UInt8) : List UInt8 × Bool := if nm = 0 then qT wd else cT wd

set_option maxHeartbeats 800000 in
theorem argumentSorts_any (nm : Nat) (wd : List UInt8) (av : Value) (wt : Int) (w : World) (hav : av.oneCell' = true) :
    Calls Tryz.prog 73 #[ag4 nm wd av wt] w fun e w' => e = .returned (.tuple #[S (tk nm wd).1, .bool (tk nm wd).2]) ∧ Mod (fun _ => False) w w' := by
  have hS := se_new w nm wd av wt
  have hm0 : Mod (fun _ => False) w (w.alloc (.cells #[.int .u8 nm, S wd, av, .int .i64 wt] 72)) := (Mod.refl _ w).alloc _
  by_cases h0 : nm = 0
  · have HT : Hid (tk nm wd = qT wd) := show tk nm wd = qT wd by simp [tk, h0]
    have hb : (nm == 0) = true := by simpa using h0
    clear h0
    go_enter Tryz.func73, Tryz.ntmps73
    go_wp2_with fail
    refine (isQuestion_any nm wd av wt _ hav).mono ?_
    rintro e w1 ⟨rfl, hm1⟩
    have c1 := (hS.keep hm1 (fun f => f)).c1
    go_wp2_with fail
    refine (questionTakes_any _ _).mono ?_
    rintro e w2 ⟨rfl, rfl⟩
    go_wp2
    go_ret2
    exact ⟨by rw [HT.out]; rfl, hm0.trans hm1⟩
  · have HT : Hid (tk nm wd = cT wd) := show tk nm wd = cT wd by simp [tk, h0]
    have hb : (nm == 0) = false := by simpa using h0
    go_enter Tryz.func73, Tryz.ntmps73
    go_wp2_with fail
    refine (isQuestion_any nm wd av wt _ hav).mono ?_
    rintro e w1 ⟨rfl, hm1⟩
    have c1 := (hS.keep hm1 (fun f => f)).c1
    go_wp2_with fail
    refine (constructionTakes_any _ _).mono ?_
    rintro e w2 ⟨rfl, rfl⟩
    go_wp2
    go_ret2
    exact ⟨by rw [HT.out]; rfl, hm0.trans hm1⟩

theorem owns_one {w : World} {base : Nat} {e : TypeId} {size : Nat} {v : Value} {n : Nat} {xs : List Value} (h : w.ownsRow base e size v n xs) : v.oneCell' = true := by
  obtain ⟨ao, cap, rfl, -⟩ := owns_form h; rfl
theorem args_cell {w : World} {base n : Nat} {ao : Option Addr} {cap : Nat} {ag : List UInt8} (h : w.ownsRow base 5 1 (.slice ao n cap) n (bvs ag)) (hn : n = ag.length) {k : Nat} (hk : k < ag.length) :
    ∃ gb, ao = some ⟨gb, 0, none⟩ ∧ w.cell? ⟨gb, k, none⟩ = some (.int .u8 ag[k].toNat) := by
  subst hn
  obtain ⟨gb, rfl, hc⟩ := owns_cell h (j := k) (by omega)
  exact ⟨gb, rfl, by rw [hc]; simp [bvs, hk]⟩

theorem names_no {l : List St} {x : St} {k : Nat} (hk : k < x.args.length) (h : gvI l x.args[k].toNat = -1) : namesOk l x = false := by
  have : x.args.all (fun a => gvI l a.toNat != -1) = false := by
    rw [Bool.eq_false_iff, ne_eq, List.all_eq_true]
    intro H
    have := H x.args[k] (List.getElem_mem hk)
    simp [h] at this
  simp [namesOk, this]

set_option maxHeartbeats 1600000 in
set_option maxRecDepth 100000 in
theorem namesFit_any (v : Value) (q : List It) (base : Nat) (x : St) (av : Value) (wt : Int) (w : World) (hq : q.length ≤ 1000) (hal : x.args.length ≤ 1000) (hL : Lst w base v q) (hA : w.ownsRow base 5 1 av x.args.length (bvs x.args)) :
    Calls Tryz.prog 74 #[v, ag4 x.name x.word av wt] w fun e w' => e = .returned (.bool (namesOk (q.map It.x) x)) ∧ Mod (fun _ => False) w w' := by
  have hS := se_new w x.name x.word av wt
  have hm0 : Mod (fun _ => False) w (w.alloc (.cells #[.int .u8 x.name, S x.word, av, .int .i64 wt] 72)) := (Mod.refl _ w).alloc _
  have hL1 := hL.mod hm0 (fun _ _ _ f => f)
  have hA1 := owns_mod hA hm0 (fun _ _ f => f)
  have hav := owns_one hA
  obtain ⟨aa, acap, rfl, -⟩ := owns_form hA
  clear hL hA
  go_enter Tryz.func74, Tryz.ntmps74
  go_wp2
  generalize hW : w.alloc (.cells #[.int .u8 x.name, S x.word, .slice aa x.args.length acap, .int .i64 wt] 72) = W at *
  clear hW
  go_loop [10] (fun i => ∃ k : Nat, k ≤ x.args.length ∧ i = .int .i64 k ∧ ∀ j (hj : j < x.args.length), j < k → gvI (q.map It.x) x.args[j].toNat ≠ -1) (fun i => x.args.length - (intOf i).toNat)
  case atStart => exact ⟨0, by omega, rfl, fun j hj h => by omega⟩
  case round =>
    obtain ⟨k, hk, rfl, hN⟩ := hrel
    have HN : Hid (∀ j (hj : j < x.args.length), j < k → gvI (q.map It.x) x.args[j].toNat ≠ -1) := hN
    clear hN
    by_cases hlt : k < x.args.length
    · obtain ⟨gb, rfl, ck⟩ := args_cell hA1 rfl hlt
      by_cases hg : gvI (q.map It.x) x.args[k].toNat = -1
      · have HG : Hid (gvI (q.map It.x) x.args[k].toNat = -1) := hg
        have hb : (gvI (q.map It.x) x.args[k].toNat == -1) = true := by rw [hg]; rfl
        clear hg
        go_wp2_with fail
        refine (giver_any v q x.args[k].toNat base W hq hL1).mono ?_
        rintro e w2 ⟨rfl, rfl⟩
        go_wp2
        go_ret
        exact ⟨by rw [names_no hlt HG.out]; rfl, hm0⟩
      · have hb : (gvI (q.map It.x) x.args[k].toNat == -1) = false := by rw [beq_eq_false_iff_ne]; exact hg
        go_wp2_with fail
        refine (giver_any v q x.args[k].toNat base W hq hL1).mono ?_
        rintro e w2 ⟨rfl, rfl⟩
        go_wp2
        go_round
        case rel => exact ⟨k + 1, by omega, by go_num, fun j hj h => by by_cases e : j = k; (· subst e; exact hg); exact HN.out j hj (by omega)⟩
        case measure => simp [intOf]; omega
    · have hall : x.args.all (fun a => gvI (q.map It.x) a.toNat != -1) = true := by
        rw [List.all_eq_true]; intro a ha; obtain ⟨j, hj, rfl⟩ := List.getElem_of_mem ha
        rw [bne_iff_ne]; exact HN.out j hj (by omega)
      have HA : Hid (x.args.all (fun a => gvI (q.map It.x) a.toNat != -1) = true) := hall
      clear hall
      have s0 := hS.c0
      have s1 := hS.c1
      have s2 := hS.c2
      have s3 := hS.c3
      by_cases h0 : x.name = 0
      · have hb : (x.name == 0) = true := by simpa using h0
        have HB : Hid (namesOk (q.map It.x) x = true) := show namesOk (q.map It.x) x = true by unfold namesOk; rw [HA.out]; simp [h0]
        clear h0
        go_wp2_with fail
        refine (isQuestion_any x.name x.word _ wt _ hav).mono ?_
        rintro e w2 ⟨rfl, hm2⟩
        go_wp2
        go_ret
        exact ⟨by rw [HB.out]; rfl, hm0.trans hm2⟩
      · have hb : (x.name == 0) = false := by simpa using h0
        have HB : Hid (namesOk (q.map It.x) x = (gvI (q.map It.x) x.name == -1)) := show namesOk (q.map It.x) x = (gvI (q.map It.x) x.name == -1) by unfold namesOk; rw [HA.out, hb]; simp
        clear h0
        go_wp2_with fail
        refine (isQuestion_any x.name x.word _ wt _ hav).mono ?_
        rintro e w2 ⟨rfl, hm2⟩
        have c0 := (hS.keep hm2 (fun f => f)).c0
        have hL2 := hL1.mod hm2 (fun _ _ _ f => f)
        go_wp2_with fail
        refine (giver_any v q x.name base _ hq hL2).mono ?_
        rintro e w3 ⟨rfl, rfl⟩
        go_wp2
        go_ret
        exact ⟨by rw [HB.out]; rfl, hm0.trans hm2⟩
end Go.Proofs.YtmnfndpbblpjiabGreatDoor

/- The program's decode. -/
namespace Go.Proofs.YtmnfndpbblpjiabGreatDoor
open Go.RowKit Pu

/-- What decode answers of a text. -/
def DecEnd (s : ByteArray) (w w' : World) (e : Ending) : Prop :=
  ∃ (a b : Nat) (ao : Option Addr) (n cap : Nat), e = .returned (.tuple #[.agg #[.int .u8 a, .int .u8 b, .slice ao n cap], .int .i64 (vfy s).1, .int .i64 (vfy s).2]) ∧
    ((vfy s).1 = 0 → a = g s 2 ∧ b = g s 3 ∧ begunB s = true ∧ (∀ j, j < nst s → rightB (steps s) j (stepAt s j) (g s 2) (g s 3) = true) ∧ PLst w' w.heap.size (.slice ao n cap) (steps s))
theorem Tryz.marks0 : Tryz.zeroCells98 = mcells (fun _ => false) := by rw [mcells_none]; kernel_rfl
theorem mset {w : World} {b : Nat} {M : Nat → Bool} (r : Nat) (v : Bool) (h : w.heap[b]? = some (.cells (mcells M) 98 (0, 0))) : (w.setCell ⟨b, r, none⟩ (.bool v)).heap[b]? = some (.cells (mcells (fun i => if i = r then v else M i)) 98 (0, 0)) := by
  rw [← mcells_set]
  simp [World.setCell, Array.getElem?_modify, h]
theorem dec_long (s : ByteArray) (w : World) (hs : 8006 < s.size) (hm : s.size ≤ maxLen) : Calls Tryz.prog 34 #[.string s] w fun e w' => e = .returned (.tuple #[.agg #[.int .u8 0, .int .u8 0, .slice none 0 0], .int .i64 1, .int .i64 0]) ∧ Mod (fun _ => False) w w' := by
  unfold maxLen at hm
  go_enter Tryz.func34, Tryz.ntmps34
  go_wp2_with fail
  exact bodyPost_ret (v := .tuple #[.agg #[.int .u8 0, .int .u8 0, .slice none 0 0], .int .i64 1, .int .i64 0]) (by simp [results, Tryz.results34, go_sem]) rfl ⟨rfl, (Mod.refl _ w).alloc _⟩

set_option maxHeartbeats 1600000 in
set_option maxRecDepth 100000 in
theorem dec_any (s : ByteArray) (w : World) (hs : s.size ≤ 8006) : Calls Tryz.prog 34 #[.string s] w fun e w' => DecEnd s w w' e ∧ Mod (fun _ => False) w w' := by
  have hz := Tryz.marks0
  have HZ : Hid (Tryz.zeroCells98 = mcells (fun _ => false)) := hz
  clear hz
  go_enter Tryz.func34, Tryz.ntmps34
  go_wp2_with fail
  refine (split_any s _ hs).mono ?_
  rintro e w1 ⟨⟨hb, rfl⟩ | ⟨hb, v, rfl, hL⟩, hm1⟩
  · have HV : Hid (vfy s = (8, 0)) := vfy_bad hb
    clear hb
    have hz0 := hm1.keep (heap_alloc_new w (.cells #[.int .u8 0, .int .u8 0, .slice none 0 0] 63)) (fun f => f)
    obtain ⟨c0, c1, c2⟩ := cells3 hz0
    have e0 := fz3 hz0 0
    have e1 := fz3 hz0 1
    have e2 := fz3 hz0 2
    have hlt := lt_of_block hz0
    have hmw : Mod (fun _ => False) w w1 := ((Mod.refl _ w).alloc _).trans hm1
    have hm4 := (set3_mod hmw w.heap.size (.int .u8 0) (.int .u8 0) (.slice none 0 0) (Nat.le_refl _)).alloc (.cells #[.int .u8 0, .int .u8 0, .slice none 0 0] 63)
    have HC : Hid _ := cells3 (((Mod.refl (fun _ => False) _).alloc (.cells #[.int .u8 0, .int .u8 0, .slice none 0 0] 63)).keep (set3_at (x' := .int .u8 0) (y' := .int .u8 0) (z' := .slice none 0 0) hz0) (fun f => f))
    have HE : Hid (DecEnd s w ((set3 w1 w.heap.size (.int .u8 0) (.int .u8 0) (.slice none 0 0)).alloc (.cells #[.int .u8 0, .int .u8 0, .slice none 0 0] 63)) (.returned (.tuple #[.agg #[.int .u8 0, .int .u8 0, .slice none 0 0], .int .i64 8, .int .i64 0]))) :=
      ⟨0, 0, none, 0, 0, by rw [HV.out]; rfl, fun h => by rw [HV.out] at h; cases h⟩
    clear hz0
    go_wp2_with fail
    obtain ⟨g0, g1, g2⟩ := HC.out
    unfold set3 at g0 g1 g2
    exact bodyPost_ret (v := .tuple #[.agg #[.int .u8 0, .int .u8 0, .slice none 0 0], .int .i64 8, .int .i64 0]) (by simp [results, Tryz.results34, go_sem, g0, g1, g2]) rfl ⟨HE.out, hm4⟩
  · have hlen : (steps s).length = nst s := stepsTo_len s _
    have HLen : Hid ((steps s).length = nst s) := hlen
    have HB : Hid (begunB s = true) := hb
    have hns : nst s ≤ 2000 := (nst_of hb).2.2.1
    have l2 := g_lt s 2
    have l3 := g_lt s 3
    unfold PLst at hL
    rw [hlen] at hL
    clear hb hlen
    obtain ⟨ao, cap, rfl, -⟩ := owns_form hL
    have hz0 := hm1.keep (heap_alloc_new w (.cells #[.int .u8 0, .int .u8 0, .slice none 0 0] 63)) (fun f => f)
    have hlt := lt_of_block hz0
    have hmw : Mod (fun _ => False) w w1 := ((Mod.refl _ w).alloc _).trans hm1
    clear hm1
    have hsw := hmw.size
    generalize hr2 : g s 2 = r2 at *
    generalize hr3 : g s 3 = r3 at *
    have HR2 : Hid (g s 2 = r2) := hr2
    have HR3 : Hid (g s 3 = r3) := hr3
    clear hr2 hr3
    have hm2 : Mod (fun _ => False) w1 (w1.alloc (.cells #[.int .u8 r2, .int .u8 r3, .slice ao (nst s) cap] 63)) := (Mod.refl _ w1).alloc _
    have hp2 : (w1.alloc (.cells #[.int .u8 r2, .int .u8 r3, .slice ao (nst s) cap] 63)).heap[w1.heap.size]? = some (.cells #[.int .u8 r2, .int .u8 r3, .slice ao (nst s) cap] 63 (0, 0)) := heap_alloc_new w1 _
    have hL2 := owns_mod hL hm2 (fun _ _ f => f)
    have hz2 := hm2.keep hz0 (fun f => f)
    have hmw2 := hmw.trans hm2
    have hmb : ((w1.alloc (.cells #[.int .u8 r2, .int .u8 r3, .slice ao (nst s) cap] 63)).alloc (.cells Tryz.zeroCells98 98)).heap[w1.heap.size + 1]? = some (.cells (mcells (Set (steps s) 0)) 98 (0, 0)) := by
      rw [Set_zero, ← HZ.out]; exact (alloc2_at w1 _ _).2
    have HMB : Hid _ := hmb
    clear hmb
    have hsz2 : (w1.alloc (.cells #[.int .u8 r2, .int .u8 r3, .slice ao (nst s) cap] 63)).heap.size = w1.heap.size + 1 := by simp
    have HS2 : Hid ((w1.alloc (.cells #[.int .u8 r2, .int .u8 r3, .slice ao (nst s) cap] 63)).heap.size = w1.heap.size + 1) := hsz2
    clear hsz2
    have HHs : Hid _ := And.intro hp2 (And.intro hL2 (And.intro hz2 hmw2))
    clear hp2 hL2 hz2 hmw2 hm2
    go_wp2_with fail
    generalize hw2 : w1.alloc (.cells #[.int .u8 r2, .int .u8 r3, .slice ao (nst s) cap] 63) = w2 at *
    clear hw2
    obtain ⟨hp2, hL2, hz2, hmw2⟩ := HHs.out
    clear HHs hL hz0 hmw
    go_loopw [25] (fun i wr => ∃ k : Nat, k ≤ nst s ∧ i = .int .i64 k ∧ wr.heap[w1.heap.size + 1]? = some (.cells (mcells (Set (steps s) k)) 98 (0, 0)) ∧ Mod (fun _ => False) w2 wr ∧ Hid (∀ j, j < k → rightB (steps s) j (stepAt s j) (g s 2) (g s 3) = true)) (fun i _ => nst s - (intOf i).toNat)
    case atStart => exact ⟨0, by omega, rfl, HMB.out, (Mod.refl _ _).alloc _, fun j hj => by omega⟩
    case round =>
      clear HMB
      obtain ⟨k, hk, rfl, hM, hmr, HN⟩ := hrel
      have hsr : w1.heap.size + 1 ≤ wr.heap.size := by have := hmr.size; rw [HS2.out] at this; exact this
      have hp := hmr.keep hp2 (fun f => f)
      have hz := hmr.keep hz2 (fun f => f)
      have hL := owns_mod hL2 hmr (fun _ _ f => f)
      by_cases hlt : k < nst s
      · have hkl : k < (steps s).length := by rw [HLen.out]; exact hlt
        have hLT : PLst wr (w.alloc (.cells #[.int .u8 0, .int .u8 0, .slice none 0 0] 63)).heap.size (.slice ao (nst s) cap) (steps s) := by unfold PLst; rw [HLen.out]; exact hL
        have hLT' := hLT
        rw [← HLen.out] at hLT'
        obtain ⟨gb, hao, a0, a1, a2, a3⟩ := hLT'.cell hkl
        subst hao
        rw [steps_at] at a0 a1 a2 a3
        clear hLT hLT'
        have HSt : Hid (Small (stepAt s k)) := stepAt_small s k
        have hst : Small (stepAt s k) := stepAt_small s k
        obtain ⟨s1, s2', s3, s4⟩ := hst
        have HF : Hid (rightB (steps s) k (stepAt s k) (g s 2) (g s 3) = stFit (Set (steps s) k) (stepAt s k) (g s 2) (g s 3)) := right_fit _ _ _ _ _ (Set_below (by omega) (fun j hj => by rw [steps_at]; exact HN.out j hj))
        rw [HR2.out, HR3.out] at HF
        have HSY : Hid ((stepAt s k).op ≤ 5 → Set (steps s) (k + 1) = fun r => if r = (stepAt s k).x then true else Set (steps s) k r) := fun h => by
          have := Set_yes hkl (by rw [steps_at]; exact h); rw [steps_at] at this; exact this
        have HSN : Hid (¬ (stepAt s k).op ≤ 5 → Set (steps s) (k + 1) = Set (steps s) k) := fun h => Set_no hkl (by rw [steps_at]; exact h)
        generalize ht : stepAt s k = t at *
        have HT : Hid (stepAt s k = t) := ht
        clear ht
        have hms := mcells_size (Set (steps s) k)
        have hfit := fun w => stepfits_any t r2 r3 (some ⟨gb, 0, none⟩) (nst s) cap (Set (steps s) k) w HSt.out l2 l3
        have HM : Hid (wr.heap[w1.heap.size + 1]? = some (.cells (mcells (Set (steps s) k)) 98 (0, 0))) := hM
        clear hM
        have hMa : (wr.alloc (.cells #[.int .u8 t.op, .int .u8 t.x, .int .u8 t.y, .int .u8 t.z] 94)).heap[w1.heap.size + 1]? = some (.cells (mcells (Set (steps s) k)) 98 (0, 0)) := ((Mod.refl (fun _ => False) wr).alloc _).keep HM.out (fun f => f)
        have HMA : Hid _ := hMa
        clear hMa
        obtain ⟨c0, c1, c2⟩ := cells3 hp
        have hpl : w1.heap.size < wr.heap.size := lt_of_block hp
        clear hsr
        generalize hbs : stFit (Set (steps s) k) t r2 r3 = bs at *
        clear hbs
        go_wp2_with (refine wpList_load_row rfl 98 _ rfl _ rfl (mcells (Set (steps s) k)) 98 (0, 0) ?hb0 _ Tryz.underlying98 rfl (marks_size hms) ?_; case hb0 => exact HMA.out)
        refine (hfit _).mono ?_
        rintro e w3 ⟨rfl, hm3⟩
        have HM3 : Hid (w3.heap[w1.heap.size + 1]? = some (.cells (mcells (Set (steps s) k)) 98 (0, 0))) := hm3.keep HMA.out (fun f => f)
        have hst3 := hm3.keep (heap_alloc_new wr (.cells #[.int .u8 t.op, .int .u8 t.x, .int .u8 t.y, .int .u8 t.z] 94)) (fun f => f)
        have hmr3 : Mod (fun _ => False) w2 w3 := (hmr.alloc _).trans hm3
        have hz3 := hmr3.keep hz2 (fun f => f)
        have hmw3 := hmw2.trans hmr3
        obtain ⟨d0, d1, d2, d3⟩ := cells4 hst3
        obtain ⟨p0, p1, p2⟩ := cells3 hz3
        have e0 := fz3 hz3 0
        have e1 := fz3 hz3 1
        have e2 := fz3 hz3 2
        have hst3l := lt_of_block hst3
        have hsx := fun w => setsx_any t.op w s1
        clear hst3 hm3 HMA HM hfit hz hL hp a0 a1 a2 a3 hmr
        cases bs with
        | false =>
          have HV : Hid (vfy s = (8, 1 + k)) := vfy_at HB.out hlt (by rw [HT.out, HR2.out, HR3.out]; exact HF.out) HN.out
          have hm4 := set3_mod hmw3 w.heap.size (.int .u8 0) (.int .u8 0) (.slice none 0 0) (Nat.le_refl _)
          have HC : Hid _ := cells3 (set3_at (x' := .int .u8 0) (y' := .int .u8 0) (z' := .slice none 0 0) hz3)
          have HE : Hid (DecEnd s w (set3 w3 w.heap.size (.int .u8 0) (.int .u8 0) (.slice none 0 0)) (.returned (.tuple #[.agg #[.int .u8 0, .int .u8 0, .slice none 0 0], .int .i64 8, .int .i64 (1 + (k : Int))]))) :=
            ⟨0, 0, none, 0, 0, by rw [HV.out]; simp, fun h => by rw [HV.out] at h; cases h⟩
          clear hz3 HF HN HSY HSN
          go_wp2_with fail
          obtain ⟨g0, g1, g2⟩ := HC.out
          unfold set3 at g0 g1 g2
          exact bodyPost_ret (v := .tuple #[.agg #[.int .u8 0, .int .u8 0, .slice none 0 0], .int .i64 8, .int .i64 (1 + (k : Int))]) (by simp [results, Tryz.results34, go_sem, g0, g1, g2]) rfl ⟨HE.out, hm4⟩
        | true =>
          have HN2 : Hid (∀ j, j < k + 1 → rightB (steps s) j (stepAt s j) (g s 2) (g s 3) = true) := fun j hj => by
            by_cases e : j = k
            · subst e; rw [HT.out, HR2.out, HR3.out]; exact HF.out
            · exact HN.out j (by omega)
          clear HN HF hz3 p0 p1 p2 e0 e1 e2
          by_cases h5 : t.op ≤ 5
          · have hS := HSY.out h5
            have HMS : Hid ((w3.setCell ⟨w1.heap.size + 1, t.x, none⟩ (.bool true)).heap[w1.heap.size + 1]? = some (.cells (mcells (Set (steps s) (k + 1))) 98 (0, 0))) := show _ = _ by
              rw [hS]; exact mset t.x true HM3.out
            have hm5 : Mod (fun _ => False) w2 (w3.setCell ⟨w1.heap.size + 1, t.x, none⟩ (.bool true)) := hmr3.setCell _ _ (fun h => absurd h (by have := HS2.out; show ¬ w1.heap.size + 1 < w2.heap.size; omega))
            have hfz := fz3 HM3.out t.x
            have hmg : w3.cell? ⟨w1.heap.size + 1, t.x, none⟩ = some (.bool (Set (steps s) k t.x)) := by
              have := mcells_at (Set (steps s) k) s2'
              simp only [World.cell?, HM3.out]; simpa using this
            have ix : (t.x : Int) < 256 := by omega
            clear hS HSY HSN
            go_wp2_with (go_at_call 55; refine (hsx _).mono ?_; rintro e w4 ⟨rfl, rfl⟩)
            go_roundw
            case rel => exact ⟨k + 1, by omega, by go_num, HMS.out, hm5, HN2⟩
            case measure => simp [intOf]; omega
          · have hS := HSN.out h5
            have HMS : Hid (w3.heap[w1.heap.size + 1]? = some (.cells (mcells (Set (steps s) (k + 1))) 98 (0, 0))) := show _ = _ by
              rw [hS]; exact HM3.out
            clear hS HSY HSN
            go_wp2_with (go_at_call 55; refine (hsx _).mono ?_; rintro e w4 ⟨rfl, rfl⟩)
            go_roundw
            case rel => exact ⟨k + 1, by omega, by go_num, HMS.out, hmr3, HN2⟩
            case measure => simp [intOf]; omega
      · have hks : k = nst s := by omega
        subst hks
        have HV : Hid (vfy s = (0, 0)) := vfy_ok HB.out HN.out
        have hmwr := hmw2.trans hmr
        have hm4 := set3_mod hmwr w.heap.size (.int .u8 r2) (.int .u8 r3) (.slice ao (nst s) cap) (Nat.le_refl _)
        have HC : Hid _ := cells3 (set3_at (x' := .int .u8 r2) (y' := .int .u8 r3) (z' := .slice ao (nst s) cap) hz)
        have hL5 := owns_base (base' := w.heap.size) (owns_mod hL (set3_own wr w.heap.size (.int .u8 r2) (.int .u8 r3) (.slice ao (nst s) cap)) (fun g h1 h2 => by simp at h1; omega)) (by simp)
        have HE : Hid (DecEnd s w (set3 wr w.heap.size (.int .u8 r2) (.int .u8 r3) (.slice ao (nst s) cap)) (.returned (.tuple #[.agg #[.int .u8 r2, .int .u8 r3, .slice ao (nst s) cap], .int .i64 0, .int .i64 0]))) :=
          ⟨r2, r3, ao, nst s, cap, by rw [HV.out]; rfl, fun _ => ⟨HR2.out.symm, HR3.out.symm, HB.out, HN.out, by unfold PLst; rw [HLen.out]; exact hL5⟩⟩
        obtain ⟨c0, c1, c2⟩ := cells3 hp
        obtain ⟨p0, p1, p2⟩ := cells3 hz
        have e0 := fz3 hz 0
        have e1 := fz3 hz 1
        have e2 := fz3 hz 2
        clear hL5 hL hM HN
        go_wp2_with fail
        obtain ⟨g0, g1, g2⟩ := HC.out
        unfold set3 at g0 g1 g2
        exact bodyPost_ret (v := .tuple #[.agg #[.int .u8 r2, .int .u8 r3, .slice ao (nst s) cap], .int .i64 0, .int .i64 0]) (by simp [results, Tryz.results34, go_sem, g0, g1, g2]) rfl ⟨HE.out, hm4⟩
end Go.Proofs.YtmnfndpbblpjiabGreatDoor

/- The program's wantedAhead. -/
namespace Go.Proofs.YtmnfndpbblpjiabGreatDoor
open Go.RowKit Pu

theorem results_one {fn : Func} {p : Tmp} {ty : TypeId} (h : fn.results = #[.cell p ty]) (tmps : Array Value) (P : Program) (w : World) :
    (results fn tmps).run P w = ((asAddr (tmps.getD p undef)).run P w).andThen fun a w₁ => (loadVar ty a).run P w₁ := by
  simp only [results, h]
  simp [Sem.run_bind, Result.andThen]
theorem mupd (M : Nat → Bool) (r : Nat) (b : Bool) : (mcells M).setIfInBounds r (.bool b) = mcells (upd r b M) := mcells_set M r b

/-- The step, its marks and the result's place. -/
def AS (w wX : World) (t : Stp) (M : Nat → Bool) : Prop :=
  wX.heap[w.heap.size]? = some (.cells #[.int .u8 t.op, .int .u8 t.x, .int .u8 t.y, .int .u8 t.z] 94 (0, 0)) ∧ wX.heap[w.heap.size + 1]? = some (.cells (mcells M) 98 (0, 0)) ∧
  wX.heap[w.heap.size + 1 + 1]? = some (.cells Tryz.zeroCells98 98 (0, 0)) ∧ Mod (fun _ => False) w wX
theorem AS.set {w wX : World} {t : Stp} {M : Nat → Bool} (h : AS w wX t M) (r : Nat) (v : Bool) : AS w (wX.setCell ⟨w.heap.size + 1, r, none⟩ (.bool v)) t (upd r v M) := by
  obtain ⟨h1, h2, h3, h4⟩ := h
  have hm : Mod (fun q => q = w.heap.size + 1) wX (wX.setCell ⟨w.heap.size + 1, r, none⟩ (.bool v)) := (Mod.refl _ wX).setCell ⟨w.heap.size + 1, r, none⟩ (.bool v) (fun _ => rfl)
  exact ⟨hm.keep h1 (by omega), mset r v h2, hm.keep h3 (by omega), h4.setCell ⟨w.heap.size + 1, r, none⟩ (.bool v) (fun h => absurd h (by show ¬ w.heap.size + 1 < w.heap.size; omega))⟩
theorem AS.drew {w wX : World} {t : Stp} {M : Nat → Bool} (h : AS w wX t M) : AS w wX.drew t M := ⟨h.1, h.2.1, h.2.2.1, h.2.2.2.drew⟩
theorem AS.mx {w wX : World} {t : Stp} {M : Nat → Bool} (h : AS w wX t M) {r : Nat} (hr : r < 256) : wX.cell? ⟨w.heap.size + 1, r, none⟩ = some (.bool (M r)) ∧ wX.frozen? ⟨w.heap.size + 1, r, none⟩ = false := by
  refine ⟨?_, fz3 h.2.1 r⟩
  have := mcells_at M hr
  simp only [World.cell?, h.2.1]; simpa using this
theorem setRow_at {w : World} {b : Nat} {C C' : Array Value} {t : TypeId} (h : w.heap[b]? = some (.cells C t (0, 0))) : (w.setRow b C').heap[b]? = some (.cells C' t (0, 0)) := by
  simp [World.setRow, Array.getElem?_modify, h]
theorem setRow_mod (w : World) (b : Nat) (C : Array Value) : Mod (fun q => q = b) w (w.setRow b C) :=
  ⟨rfl, rfl, rfl, by simp [World.setRow], fun k _ hk => by simp only [World.setRow]; rw [Array.getElem?_modify, if_neg (fun h => hk h.symm)]⟩
theorem setRow_new {w wX : World} {b : Nat} {C : Array Value} (h : Mod (fun _ => False) w wX) (hb : w.heap.size ≤ b) : Mod (fun _ => False) w (wX.setRow b C) := by
  have := (h.mono (q := fun q => q = b) (fun _ _ f => f.elim)).trans (setRow_mod wX b C)
  exact this.mono (fun k hk e => by omega)

set_option maxHeartbeats 800000 in
set_option maxRecDepth 4000 in
theorem ahead_any (t : Stp) (M : Nat → Bool) (w : World) (ht : Small t) : Calls Tryz.prog 154 #[stV t, .agg (mcells M)] w fun e w' => e = .returned (.agg (mcells (wAhead t M))) ∧ Mod (fun _ => False) w w' := by
  obtain ⟨h1, h2, h3, h4⟩ := ht
  have ix : (t.x : Int) < 256 := by omega
  have iy : (t.y : Int) < 256 := by omega
  have iz : (t.z : Int) < 256 := by omega
  have hsz := mcells_size M
  have HZS : Hid (Tryz.zeroCells98.size = 256) := Tryz.zeroCells98_size
  have HW : Hid (wAhead t M = if rz t.op then upd t.z true (if ry t.op then upd t.y true (upd t.x (!decide (t.op ≤ 5)) M) else upd t.x (!decide (t.op ≤ 5)) M)
    else (if ry t.op then upd t.y true (upd t.x (!decide (t.op ≤ 5)) M) else upd t.x (!decide (t.op ≤ 5)) M)) := rfl
  generalize wAhead t M = A at *
  have hsx := fun w => setsx_any t.op w h1
  have hry := fun w => readsy_any t.op w h1
  have hrz := fun w => readsz_any t.op w h1
  generalize decide (t.op ≤ 5) = b5 at *
  generalize ry t.op = py at *
  generalize rz t.op = pz at *
  have hA0 : AS w (((w.alloc (.cells #[.int .u8 t.op, .int .u8 t.x, .int .u8 t.y, .int .u8 t.z] 94)).alloc (.cells (mcells M) 98)).alloc (.cells Tryz.zeroCells98 98)) t M := by
    obtain ⟨a1, a2, a3⟩ := alloc3_at w (.cells #[.int .u8 t.op, .int .u8 t.x, .int .u8 t.y, .int .u8 t.z] 94) (.cells (mcells M) 98) (.cells Tryz.zeroCells98 98)
    exact ⟨a1, a2, a3, (((Mod.refl _ w).alloc _).alloc _).alloc _⟩
  go_enter Tryz.func154, Tryz.ntmps154
  go_wp2_with fail
  generalize ((w.alloc (.cells #[.int .u8 t.op, .int .u8 t.x, .int .u8 t.y, .int .u8 t.z] 94)).alloc (.cells (mcells M) 98)).alloc (.cells Tryz.zeroCells98 98) = w0 at *
  obtain ⟨c0, c1, c2, c3⟩ := cells4 hA0.1
  obtain ⟨mx, fx⟩ := hA0.mx h2
  have hA1 := (hA0.set t.x (!b5)).drew
  clear hA0
  go_region_held3 (fun w' => w'.cell? ⟨w.heap.size, 0, none⟩ = some (.int .u8 t.op) ∧ w'.cell? ⟨w.heap.size, 1, none⟩ = some (.int .u8 t.x)) (go_keep) ((go_at_call 55; refine (hsx _).mono ?_; rintro e w3 ⟨rfl, rfl⟩))
  clear c0 c1 c2 c3 mx fx hsx
  generalize (w0.setCell ⟨w.heap.size + 1, t.x, none⟩ (.bool !b5)).drew = w1 at *
  generalize upd t.x (!b5) M = M1 at *
  obtain ⟨c0, c1, c2, c3⟩ := cells4 hA1.1
  obtain ⟨my, fy⟩ := hA1.mx h3
  have hA2 : AS w (if py then w1.setCell ⟨w.heap.size + 1, t.y, none⟩ (.bool true) else w1) t (if py then upd t.y true M1 else M1) := by
    cases py
    · exact hA1
    · exact hA1.set t.y true
  clear hA1
  have hA2' : ∃ w2 M2, (if py then w1.setCell ⟨w.heap.size + 1, t.y, none⟩ (.bool true) else w1) = w2 ∧ (if py then upd t.y true M1 else M1) = M2 := ⟨_, _, rfl, rfl⟩
  obtain ⟨w2, M2, e2, f2⟩ := hA2'
  rw [e2, f2] at hA2
  rw [f2] at HW
  have hend : ∀ (wF : World) (F : Nat → Bool), AS w wF t F → A = F → Mod (fun _ => False) w (wF.setRow (w.heap.size + 1 + 1) (mcells F)) ∧ (loadVar 98 ⟨w.heap.size + 1 + 1, 0, none⟩).run Tryz.prog (wF.setRow (w.heap.size + 1 + 1) (mcells F)) = .ok (.agg (mcells A)) (wF.setRow (w.heap.size + 1 + 1) (mcells F)) := fun wF F h e => by
    subst e
    exact ⟨setRow_new h.2.2.2 (by omega), run_loadVar_row _ _ _ _ _ (0, 0) _ (setRow_at h.2.2.1) Tryz.underlying98 rfl (marks_size (mcells_size _))⟩
  have HEND : Hid _ := hend
  clear hend
  cases py
  · simp only [Bool.false_eq_true, if_false] at e2
    subst e2
    clear f2 my fy
    go_wp2_with (go_at_call 136; refine (hry _).mono ?_; rintro e w3 ⟨rfl, rfl⟩)
    refine (hrz _).mono ?_
    rintro e w3 ⟨rfl, rfl⟩
    cases pz
    · simp only [Bool.false_eq_true, if_false] at HW
      have hF := hA2
      have HQ : Hid _ := HEND.out w1 M2 hF HW.out
      have HF1 : Hid _ := hF.2.1
      have HF2 : Hid _ := hF.2.2.1
      clear hF
      go_wp2_with (first
        | (refine wpList_load_row rfl 98 _ rfl _ rfl (mcells M2) 98 (0, 0) ?hb0 _ Tryz.underlying98 rfl (marks_size (mcells_size _)) ?_; case hb0 => exact HF1.out)
        | (refine wpList_store_row rfl 98 _ _ rfl _ Tryz.zeroCells98 (mcells M2) 98 rfl rfl ?hb1 (marks_size (mcells_size _)) (by rw [mcells_size]; exact HZS.out) (mcells_one _) ?_; case hb1 => exact HF2.out))
      refine bodyPost_ret (v := .agg (mcells A)) ?_ rfl ⟨rfl, HQ.out.1⟩
      rw [results_one Tryz.results154]
      simp [asAddr, Result.andThen, HQ.out.2, Act.put]
    · simp only [if_true] at HW
      obtain ⟨mz, fz⟩ := hA2.mx h4
      have hF := hA2.set t.z true
      have HQ : Hid _ := HEND.out (w1.setCell ⟨w.heap.size + 1, t.z, none⟩ (.bool true)) (upd t.z true M2) hF HW.out
      have HF1 : Hid _ := hF.2.1
      have HF2 : Hid _ := hF.2.2.1
      clear hF
      go_wp2_with (first
        | (refine wpList_load_row rfl 98 _ rfl _ rfl (mcells (upd t.z true M2)) 98 (0, 0) ?hb0 _ Tryz.underlying98 rfl (marks_size (mcells_size _)) ?_; case hb0 => exact HF1.out)
        | (refine wpList_store_row rfl 98 _ _ rfl _ Tryz.zeroCells98 (mcells (upd t.z true M2)) 98 rfl rfl ?hb1 (marks_size (mcells_size _)) (by rw [mcells_size]; exact HZS.out) (mcells_one _) ?_; case hb1 => exact HF2.out))
      refine bodyPost_ret (v := .agg (mcells A)) ?_ rfl ⟨rfl, HQ.out.1⟩
      rw [results_one Tryz.results154]
      simp [asAddr, Result.andThen, HQ.out.2, Act.put]
  · simp only [if_true] at e2
    obtain ⟨d0, d1, d2, d3⟩ := cells4 hA2.1
    clear f2
    go_wp2_with (go_at_call 136; refine (hry _).mono ?_; rintro e w3 ⟨rfl, rfl⟩)
    clear e2 my fy c0 c1 c2 c3
    refine (hrz _).mono ?_
    rintro e w3 ⟨rfl, rfl⟩
    cases pz
    · simp only [Bool.false_eq_true, if_false] at HW
      have hF := hA2
      have HQ : Hid _ := HEND.out w2 M2 hF HW.out
      have HF1 : Hid _ := hF.2.1
      have HF2 : Hid _ := hF.2.2.1
      clear hF
      go_wp2_with (first
        | (refine wpList_load_row rfl 98 _ rfl _ rfl (mcells M2) 98 (0, 0) ?hb0 _ Tryz.underlying98 rfl (marks_size (mcells_size _)) ?_; case hb0 => exact HF1.out)
        | (refine wpList_store_row rfl 98 _ _ rfl _ Tryz.zeroCells98 (mcells M2) 98 rfl rfl ?hb1 (marks_size (mcells_size _)) (by rw [mcells_size]; exact HZS.out) (mcells_one _) ?_; case hb1 => exact HF2.out))
      refine bodyPost_ret (v := .agg (mcells A)) ?_ rfl ⟨rfl, HQ.out.1⟩
      rw [results_one Tryz.results154]
      simp [asAddr, Result.andThen, HQ.out.2, Act.put]
    · simp only [if_true] at HW
      obtain ⟨mz, fz⟩ := hA2.mx h4
      have hF := hA2.set t.z true
      have HQ : Hid _ := HEND.out (w2.setCell ⟨w.heap.size + 1, t.z, none⟩ (.bool true)) (upd t.z true M2) hF HW.out
      have HF1 : Hid _ := hF.2.1
      have HF2 : Hid _ := hF.2.2.1
      clear hF
      go_wp2_with (first
        | (refine wpList_load_row rfl 98 _ rfl _ rfl (mcells (upd t.z true M2)) 98 (0, 0) ?hb0 _ Tryz.underlying98 rfl (marks_size (mcells_size _)) ?_; case hb0 => exact HF1.out)
        | (refine wpList_store_row rfl 98 _ _ rfl _ Tryz.zeroCells98 (mcells (upd t.z true M2)) 98 rfl rfl ?hb1 (marks_size (mcells_size _)) (by rw [mcells_size]; exact HZS.out) (mcells_one _) ?_; case hb1 => exact HF2.out))
      refine bodyPost_ret (v := .agg (mcells A)) ?_ rfl ⟨rfl, HQ.out.1⟩
      rw [results_one Tryz.results154]
      simp [asAddr, Result.andThen, HQ.out.2, Act.put]
end Go.Proofs.YtmnfndpbblpjiabGreatDoor

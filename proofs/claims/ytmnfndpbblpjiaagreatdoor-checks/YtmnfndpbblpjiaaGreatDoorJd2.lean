/- The program's look at sorts, and its weighing. -/
import Derived.Test.YtmnfndpbblpjiaaGreatDoorJd
namespace Go.Proofs.YtmnfndpbblpjiaaGreatDoor
open Go.RowKit Pu

theorem Lst.drewN {w : World} {base : Nat} {v : Value} {q : List It} (h : Lst w base v q) (n : Nat) : Lst (w.drewN n) base v q := h.mod (Mod.same n (fun _ => False) w) (fun _ _ _ f => f)
theorem who_q {q : List It} {nm j : Nat} (hj : j < q.length) (h : gvI (q.map It.x) nm = (j : Int)) : who (pq q) nm = some (q[j].x, q[j].wt) := by
  have := who_of (p := pq q) (nm := nm) (k := j) (by simpa [pq] using hj) (by rw [sts_pq]; exact h)
  simpa [pq] using this
theorem given_q {q : List It} {nm : Nat} (h : gvI (q.map It.x) nm ≠ -1) : ∃ j, ∃ hj : j < q.length, gvI (q.map It.x) nm = (j : Int) ∧ q[j].x.name = nm := by
  obtain ⟨k, hk, h1, h2⟩ := given_lt (p := pq q) (nm := nm) (by rw [sts_pq]; exact h)
  exact ⟨k, by simpa [pq] using hk, by rw [← sts_pq]; exact h1, by simpa [pq] using h2⟩
theorem sorts_no {p : List (St × Nat)} {ag so : List UInt8} {k : Nat} (hk : k < ag.length) (hs : k < so.length) (h : ¬ sG (argWord p ag[k].toNat) = so[k].toNat) : sortsOkG p ag so = false := by
  unfold sortsOkG
  rw [Bool.eq_false_iff, ne_eq, List.all_eq_true]
  intro H
  have := H (ag[k], so[k]) (by rw [← List.getElem_zip (h := by simp; omega)]; exact List.getElem_mem _)
  exact h (by simpa using this)
theorem sorts_yes {p : List (St × Nat)} {ag so : List UInt8} (h : ∀ j (hj : j < ag.length) (hs : j < so.length), sG (argWord p ag[j].toNat) = so[j].toNat) : sortsOkG p ag so = true := by
  unfold sortsOkG
  rw [List.all_eq_true]
  intro y hy
  obtain ⟨j, hj, rfl⟩ := List.getElem_of_mem hy
  have hj' : j < min ag.length so.length := by simpa using hj
  simpa using h j (by omega) (by omega)

set_option maxHeartbeats 1600000 in
set_option maxRecDepth 100000 in
theorem sortsFit_any (v : Value) (q : List It) (base : Nat) (x : St) (av : Value) (wt : Int) (so : List UInt8) (w : World) (hq : q.length ≤ 1000) (hal : x.args.length ≤ 1000) (hL : Lst w base v q) (hA : w.ownsRow base 5 1 av x.args.length (bvs x.args))
    (hg : ∀ j (hj : j < x.args.length), gvI (q.map It.x) x.args[j].toNat ≠ -1) (hlen : x.args.length = so.length) :
    Calls Tryz.prog 90 #[v, ag4 x.name x.word av wt, S so] w fun e w' => e = .returned (.bool (sortsOkG (pq q) x.args so)) ∧ Mod (fun _ => False) w w' := by
  have hS := se_new w x.name x.word av wt
  have hm0 : Mod (fun _ => False) w (w.alloc (.cells #[.int .u8 x.name, S x.word, av, .int .i64 wt] 83)) := (Mod.refl _ w).alloc _
  have hL1 := hL.mod hm0 (fun _ _ _ f => f)
  have hA1 := owns_mod hA hm0 (fun _ _ f => f)
  have hav := owns_one hA
  obtain ⟨aa, acap, rfl, -⟩ := owns_form hA
  obtain ⟨va, vcap, rfl, -⟩ := hL.form
  have HG : Hid (∀ j (hj : j < x.args.length), gvI (q.map It.x) x.args[j].toNat ≠ -1) := hg
  have HLen : Hid (x.args.length = so.length) := hlen
  clear hL hA hg hlen
  go_enter Tryz.func90, Tryz.ntmps90
  go_wp2
  go_loopw [13] (fun i wr => ∃ k : Nat, k ≤ x.args.length ∧ i = .int .i64 k ∧ Mod (fun _ => False) w wr ∧ Lst wr base (.slice va q.length vcap) q ∧ wr.ownsRow base 5 1 (.slice aa x.args.length acap) x.args.length (bvs x.args) ∧ ∀ j (hj : j < x.args.length) (hs : j < so.length), j < k → sG (argWord (pq q) x.args[j].toNat) = so[j].toNat) (fun i _ => x.args.length - (intOf i).toNat)
  case atStart => exact ⟨0, by omega, rfl, hm0, hL1, hA1, fun j hj hs h => by omega⟩
  case round =>
    clear hm0 hL1 hA1 hS
    obtain ⟨k, hk, rfl, hm0, hL1, hA1, hN⟩ := hrel
    have HN : Hid (∀ j (hj : j < x.args.length) (hs : j < so.length), j < k → sG (argWord (pq q) x.args[j].toNat) = so[j].toNat) := hN
    clear hN
    by_cases hlt : k < x.args.length
    · have hks : k < so.length := by have := HLen.out; omega
      obtain ⟨gb, rfl, ck⟩ := args_cell hA1 rfl hlt
      obtain ⟨j, hj, hgj, -⟩ := given_q (HG.out k hlt)
      obtain ⟨vb, rfl, -, cw, -⟩ := hL1.cell hj
      have hw : argWord (pq q) x.args[k].toNat = q[j].x.word := by simp [argWord, who_q hj hgj]
      have HW : Hid (argWord (pq q) x.args[k].toNat = q[j].x.word) := hw
      have HJ : Hid (gvI (q.map It.x) x.args[k].toNat = (j : Int)) := hgj
      clear hw hgj
      have hj1 : ((j : Int) == -1) = false := by rw [beq_eq_false_iff_ne]; omega
      have hso : ∀ h, (⟨so.toArray⟩ : ByteArray)[k]'h = so[k] := fun _ => rfl
      by_cases he : sG q[j].x.word = so[k].toNat
      · have HE : Hid (sG q[j].x.word = so[k].toNat) := he
        have hb : ((sG q[j].x.word : Int) != (so[k].toNat : Int)) = false := by rw [he]; simp
        clear he
        go_wp2_with fail
        have hgv := giver_any (.slice (some ⟨vb, 0, none⟩) q.length vcap) q x.args[k].toNat base wr hq hL1
        rw [HJ.out] at hgv
        refine hgv.mono ?_
        rintro e w2 ⟨rfl, rfl⟩
        clear hgv
        go_wp2
        go_quiet ((go_at_call 145; exact Calls.quiet_of_same ((sortGiven_any _ _).mono fun _ _ h => ⟨h.1, h.2.symm⟩)))
        go_wp2
        go_roundw
        case rel => exact ⟨k + 1, by omega, by go_num, hm0.drewN _, hL1.drewN _, owns_drewN hA1 _, fun j hj hs h => by by_cases e : j = k; (· subst e; rw [HW.out]; exact HE.out); exact HN.out j hj hs (by omega)⟩
        case measure => simp [intOf]; omega
      · have hb : ((sG q[j].x.word : Int) != (so[k].toNat : Int)) = true := by rw [bne_iff_ne]; omega
        go_wp2_with fail
        have hgv := giver_any (.slice (some ⟨vb, 0, none⟩) q.length vcap) q x.args[k].toNat base wr hq hL1
        rw [HJ.out] at hgv
        refine hgv.mono ?_
        rintro e w2 ⟨rfl, rfl⟩
        clear hgv
        go_wp2
        go_quiet ((go_at_call 145; exact Calls.quiet_of_same ((sortGiven_any _ _).mono fun _ _ h => ⟨h.1, h.2.symm⟩)))
        go_wp2
        go_ret
        exact ⟨by rw [sorts_no hlt hks (by rw [HW.out]; exact he)]; rfl, hm0.drewN _⟩
    · go_wp2
      go_ret
      exact ⟨by rw [sorts_yes (fun j hj hs => HN.out j hj hs (by omega))]; rfl, hm0⟩
end Go.Proofs.YtmnfndpbblpjiaaGreatDoor

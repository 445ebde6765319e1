/- What is made of right statements tells their report. -/
import Derived.Test.YtmnfndpbblpjiabGreatDoorZb06
namespace Go.Proofs.YtmnfndpbblpjiabGreatDoor.Pu

section
variable {B : Nat} {ins : List Int} {l : List Stp} {R R' : List Int} {Q : List Int → Prop} {M : Nat}
theorem rn_set {op x y z : Nat} (v : Int) (hR : R.length = 128) (hs : x < 128) (hop : op < 6) (hv : valOf ⟨op, x, y, z⟩ R ins = v) (hb : v.natAbs < B) (k : ∀ R', R'.length = 128 → (∀ r, r ≠ x → reg R' r = reg R r) → reg R' x = v → Rn B ins l R' Q) : Rn B ins (⟨op, x, y, z⟩ :: l) R Q := by
  have hb' : ¬ B ≤ (valOf ⟨op, x, y, z⟩ R ins).natAbs := by rw [hv]; omega
  obtain ⟨R2, h2, k2⟩ := k (R.set x v) (by simpa using hR) (fun r hr => reg_set_ne hr) (reg_set_eq (by omega))
  refine ⟨R2, h2, fun rest st => ?_⟩
  rw [List.cons_append, play_set hop hb', hv]
  exact k2 rest st
/-- At home: three registers are set, nothing else below 48. -/
def Kept (k : Nat) (v : T3) (R R' : List Int) : Prop := R'.length = 128 ∧ (∀ r, r < 48 → r ≠ 3 * k → r ≠ 3 * k + 1 → r ≠ 3 * k + 2 → reg R' r = reg R r) ∧ reg R' (3 * k) = v.x ∧ reg R' (3 * k + 1) = v.y ∧ reg R' (3 * k + 2) = v.w
theorem mul_abs {x f : Int} {N : Nat} (hx : Sm N x) (hf : f.natAbs ≤ 1) (hb : N < B) : (x * f).natAbs < B := by
  unfold Sm at hx
  rw [Int.natAbs_mul]
  have := Nat.mul_le_mul_left x.natAbs hf
  omega
theorem rn_kp3 {s N k : Nat} {m : Tr} {v : T3} {f : Int} (hR : R.length = 128) (hk : k < 16) (hs : 48 ≤ s) (hm : m.x ≥ 48 ∧ m.y ≥ 48 ∧ m.w ≥ 48) (hv : Tv s N R m v) (hf : reg R s = f) (hf1 : f.natAbs ≤ 1) (hB : N < B) (kk : ∀ R', Kept k (mul3 v f) R R' → Rn B ins l R' Q) : Rn B ins (kp3 s m k ++ l) R Q := by
  refine rn_set (v.x * f) hR (by omega) (by omega) (val_mul hv.1.2.1 hf) (mul_abs hv.1.2.2 hf1 hB) ?_
  intro R1 n1 k1 e1
  refine rn_set (v.y * f) n1 (by omega) (by omega) (val_mul (by rw [k1 _ (by omega)]; exact hv.2.1.2.1) (by rw [k1 _ (by omega)]; exact hf)) (mul_abs hv.2.1.2.2 hf1 hB) ?_
  intro R2 n2 k2 e2
  refine rn_set (v.w * f) n2 (by omega) (by omega) (val_mul (by rw [k2 _ (by omega), k1 _ (by omega)]; exact hv.2.2.2.1) (by rw [k2 _ (by omega), k1 _ (by omega)]; exact hf)) (mul_abs hv.2.2.2.2 hf1 hB) ?_
  intro R3 n3 k3 e3
  exact kk R3 ⟨n3, fun r _ h1 h2 h3 => by rw [k3 _ h3, k2 _ h2, k1 _ h1], by rw [k3 _ (by omega), k2 _ (by omega)]; exact e1, by rw [k3 _ (by omega)]; exact e2, e3⟩
theorem Kept.lo {k s : Nat} {v : T3} {R1 R2 : List Int} (h : Lo s R R1) (hs : 48 ≤ s) (kk : Kept k v R1 R2) : Kept k v R R2 := ⟨kk.1, fun r h1 h2 h3 h4 => by rw [kk.2.1 r h1 h2 h3 h4, h.2 r (by omega)], kk.2.2⟩
theorem rn_kpP {s N k : Nat} {m : Tr} {v : T3} (hR : R.length = 128) (hk : k < 16) (hs : 48 ≤ s) (hs2 : s < 128) (hm : m.x ≥ 48 ∧ m.y ≥ 48 ∧ m.w ≥ 48) (h1 : 1 ≤ N) (hv : Tv s N R m v) (hB : N < B) (kk : ∀ R', Kept k (mul3 v (sgn v.w)) R R' → Rn B ins l R' Q) : Rn B ins (kpP s m k ++ l) R Q := by
  refine rn_work (sgn v.w) N hR hs2 (by omega) (val_sgn hv.2.2.2.1) (.sgn _ h1) hB ?_
  intro R1 l1 v1
  have hv1 : Tv s N R1 m v := hv.lo l1 s N (Nat.le_refl _) (Nat.le_refl _)
  refine rn_kp3 l1.1 hk hs hm hv1 v1.2.1 (sgn_abs _) hB ?_
  intro R2 k2
  exact kk R2 (Kept.lo l1 hs k2)
theorem rn_kpL {s N k : Nat} {m : Tr} {v : T3} (hR : R.length = 128) (hk : k < 16) (hs : 48 ≤ s) (hs2 : s < 128) (hm : m.x ≥ 48 ∧ m.y ≥ 48 ∧ m.w ≥ 48) (h1 : 1 ≤ N) (hv : Tv s N R m v) (hB : N < B) (kk : ∀ R', Kept k (mul3 v 1) R R' → Rn B ins l R' Q) : Rn B ins (kpL s m k ++ l) R Q := by
  refine rn_work 1 N hR hs2 (by omega) val_con (by unfold Sm; simpa using h1) hB ?_
  intro R1 l1 v1
  have hv1 : Tv s N R1 m v := hv.lo l1 s N (Nat.le_refl _) (Nat.le_refl _)
  refine rn_kp3 l1.1 hk hs hm hv1 v1.2.1 (by decide) hB ?_
  intro R2 k2
  exact kk R2 (Kept.lo l1 hs k2)

/-- The homes hold what has been made; it weighs no more than it may. -/
structure Inv (M : Nat) (C : List Cmd) (W : List Nat) (D : List T3) (R : List Int) : Prop where
  len : R.length = 128
  dl : D.length = C.length
  wl : W.length = C.length
  w64 : ∀ j, wt W j ≤ 64
  at_ : ∀ j (h : j < C.length), srt C[j] ≠ 63 → reg R (3 * j) = (th D j).x ∧ reg R (3 * j + 1) = (th D j).y ∧ reg R (3 * j + 2) = (th D j).w ∧ Bw (wt W j) (th D j)
theorem th_snoc {D : List T3} {v : T3} {j : Nat} (h : j < D.length) : th (D ++ [v]) j = th D j := by simp [th, List.getElem?_append_left h]
theorem th_last (D : List T3) (v : T3) : th (D ++ [v]) D.length = v := by simp [th]
theorem wt_snoc {W : List Nat} {v j : Nat} (h : j < W.length) : wt (W ++ [v]) j = wt W j := by simp [wt, List.getElem?_append_left h]
theorem wt_last (W : List Nat) (v : Nat) : wt (W ++ [v]) W.length = v := by simp [wt]
theorem wt_out {W : List Nat} {j : Nat} (h : W.length ≤ j) : wt W j = 0 := by simp [wt, List.getElem?_eq_none h]
theorem w64_snoc {W : List Nat} {v : Nat} (h : ∀ j, wt W j ≤ 64) (hv : v ≤ 64) : ∀ j, wt (W ++ [v]) j ≤ 64 := by
  intro j
  by_cases h1 : j < W.length
  · rw [wt_snoc h1]; exact h j
  · by_cases h2 : j = W.length
    · subst h2; rw [wt_last]; exact hv
    · rw [wt_out (by simp; omega)]; omega
variable {C : List Cmd} {W : List Nat} {D : List T3}
theorem Inv.tv (h : Inv M C W D R) (hM : 297 ^ 64 ≤ M) (hk : C.length ≤ 16) {j : Nat} (hj : j < C.length) (hs : srt C[j] ≠ 63) : Tv 48 M R (hm j) (th D j) := by
  obtain ⟨a1, a2, a3, a4⟩ := h.at_ j hj hs
  obtain ⟨b1, b2, b3⟩ := a4.sm (h.w64 j) hM
  have hx : (hm j).x = 3 * j := rfl
  have hy : (hm j).y = 3 * j + 1 := rfl
  have hw : (hm j).w = 3 * j + 2 := rfl
  exact ⟨⟨by omega, a1, b1⟩, ⟨by omega, a2, b2⟩, ⟨by omega, a3, b3⟩⟩
theorem Inv.P (h : Inv M C W D R) (hM : 297 ^ 64 ≤ M) (hk : C.length ≤ 16) {j : Nat} (hj : isP C j) : Tv 48 M R (hm j) (th D j) := h.tv hM hk hj.1 (by rw [hj.2]; omega)
theorem Inv.L (h : Inv M C W D R) (hM : 297 ^ 64 ≤ M) (hk : C.length ≤ 16) {j : Nat} (hj : isLn C j) : Tv 48 M R (hm j) (th D j) := h.tv hM hk hj.1 (by rw [hj.2]; omega)
theorem Inv.bP (h : Inv M C W D R) {j : Nat} (hj : isP C j) : Bw (wt W j) (th D j) := (h.at_ j hj.1 (by rw [hj.2]; omega)).2.2.2
theorem Inv.bL (h : Inv M C W D R) {j : Nat} (hj : isLn C j) : Bw (wt W j) (th D j) := (h.at_ j hj.1 (by rw [hj.2]; omega)).2.2.2
theorem Inv.ask (h : Inv M C W D R) (hk : C.length < 16) {c : Cmd} (hc : srt c = 63) {s : Nat} (hs : 48 ≤ s) (l : Lo s R R') : Inv M (C ++ [c]) (W ++ [wtC W c]) (D ++ [t0]) R' := by
  have h0 : wtC W c = 0 := by cases c using Cmd.el <;> simp [srt] at hc <;> rfl
  refine ⟨l.1, by simp [h.dl], by simp [h.wl], w64_snoc h.w64 (by omega), fun j hj hn => ?_⟩
  by_cases hl : j < C.length
  · rw [List.getElem_append_left hl] at hn
    obtain ⟨a1, a2, a3, a4⟩ := h.at_ j hl hn
    rw [th_snoc (by rw [h.dl]; exact hl), wt_snoc (by rw [h.wl]; exact hl), l.2 _ (by omega), l.2 _ (by omega), l.2 _ (by omega)]
    exact ⟨a1, a2, a3, a4⟩
  · have : j = C.length := by simp at hj; omega
    subst this
    simp at hn; exact absurd hc hn
theorem Inv.made (h : Inv M C W D R) (hk : C.length < 16) {c : Cmd} {v : T3} (kk : Kept C.length v R R') (hw : wtC W c ≤ 64) (hb : Bw (wtC W c) v) : Inv M (C ++ [c]) (W ++ [wtC W c]) (D ++ [v]) R' := by
  refine ⟨kk.1, by simp [h.dl], by simp [h.wl], w64_snoc h.w64 hw, fun j hj hn => ?_⟩
  by_cases hl : j < C.length
  · rw [List.getElem_append_left hl] at hn
    obtain ⟨a1, a2, a3, a4⟩ := h.at_ j hl hn
    rw [th_snoc (by rw [h.dl]; exact hl), wt_snoc (by rw [h.wl]; exact hl), kk.2.1 _ (by omega) (by omega) (by omega) (by omega), kk.2.1 _ (by omega) (by omega) (by omega) (by omega), kk.2.1 _ (by omega) (by omega) (by omega) (by omega)]
    exact ⟨a1, a2, a3, a4⟩
  · have : j = C.length := by simp at hj; omega
    subst this
    rw [← h.dl, th_last, h.dl, ← h.wl, wt_last, h.wl]
    exact ⟨kk.2.2.1, kk.2.2.2.1, kk.2.2.2.2, hb⟩
end
end Go.Proofs.YtmnfndpbblpjiabGreatDoor.Pu

/- What is made of right statements tells their report: each statement, and all. -/
namespace Go.Proofs.YtmnfndpbblpjiabGreatDoor.Pu

section
variable {B : Nat} {ins : List Int} {R : List Int} {M : Nat} {C : List Cmd} {W : List Nat} {D : List T3}
structure Big (M B : Nat) : Prop where
  m1 : 1 ≤ M
  mM : 297 ^ 64 ≤ M
  q1 : M ≤ qd M
  q2 : qd M ≤ qd (qd M)
  q3 : qd (qd M) ≤ qd (qd (qd M))
  q4 : qd (qd (qd M)) ≤ qd (qd (qd (qd M)))
  q5 : qd (qd (qd (qd M))) ≤ qd (qd (qd (qd (qd M))))
  b : qd (qd (qd (qd (qd M)))) < B
theorem Big.of (hM : 297 ^ 64 ≤ M) (h : qd (qd (qd (qd (qd M)))) < B) : Big M B := by
  have m1 : 1 ≤ M := Nat.le_trans (Nat.one_le_pow 64 297 (by omega)) hM
  exact ⟨m1, hM, qd_le m1, qd_le (qd_pos m1), qd_le (qd_pos (qd_pos m1)), qd_le (qd_pos (qd_pos (qd_pos m1))), qd_le (qd_pos (qd_pos (qd_pos (qd_pos m1)))), h⟩
theorem sgn_pos {x : Int} (h : x ≠ 0) : 0 < x * sgn x := by rcases sgn_cases x with k | k | k <;> rw [k.1] <;> omega

theorem made_mid {a b i : Nat} (g : Big M B) (h : Inv M C W D R) (hk : C.length < 16) (hok : okC C (.mid a b)) (hw : wtC W (.mid a b) ≤ 64) :
    Rn B ins (cmdL C.length i (.mid a b)) R (Inv M (C ++ [.mid a b]) (W ++ [wtC W (.mid a b)]) (D ++ [mul3 (valC D ins i (.mid a b)) (facC (valC D ins i (.mid a b)) (.mid a b))])) := by
  have ⟨q1, q2, q3, q4, q5, q6⟩ := And.intro g.q1 (And.intro g.q2 (And.intro g.q3 (And.intro g.q4 (And.intro g.q5 g.b))))
  unfold okC at hok
  refine rn_mid h.len (by omega) (by omega) (h.P g.mM (by omega) hok.1) (h.P g.mM (by omega) hok.2) ?_
  intro R1 l1 v1
  rw [← List.append_nil (kpP _ _ _)]
  refine rn_kpP l1.1 hk (by omega) (by omega) (by decide) (qd_pos g.m1) v1 (by omega) ?_
  intro R2 k2
  exact rn_nil (h.made hk (Kept.lo l1 (by omega) k2) hw ((Bw.mid (h.bP hok.1) (h.bP hok.2)).sg (facC_abs _ _)))

theorem made_par {p l i : Nat} (g : Big M B) (h : Inv M C W D R) (hk : C.length < 16) (hok : okC C (.par p l)) (hw : wtC W (.par p l) ≤ 64) :
    Rn B ins (cmdL C.length i (.par p l)) R (Inv M (C ++ [.par p l]) (W ++ [wtC W (.par p l)]) (D ++ [mul3 (valC D ins i (.par p l)) (facC (valC D ins i (.par p l)) (.par p l))])) := by
  have ⟨q1, q2, q3, q4, q5, q6⟩ := And.intro g.q1 (And.intro g.q2 (And.intro g.q3 (And.intro g.q4 (And.intro g.q5 g.b))))
  unfold okC at hok
  refine rn_par h.len (by omega) (by omega) (h.P g.mM (by omega) hok.1) (h.L g.mM (by omega) hok.2) ?_
  intro R1 l1 v1
  rw [← List.append_nil (kpL _ _ _)]
  refine rn_kpL l1.1 hk (by omega) (by omega) (by decide) (qd_pos g.m1) v1 (by omega) ?_
  intro R2 k2
  exact rn_nil (h.made hk (Kept.lo l1 (by omega) k2) hw ((Bw.par (h.bP hok.1) (h.bL hok.2)).sg (facC_abs _ _)))

theorem made_perp {p l i : Nat} (g : Big M B) (h : Inv M C W D R) (hk : C.length < 16) (hok : okC C (.perp p l)) (hw : wtC W (.perp p l) ≤ 64) :
    Rn B ins (cmdL C.length i (.perp p l)) R (Inv M (C ++ [.perp p l]) (W ++ [wtC W (.perp p l)]) (D ++ [mul3 (valC D ins i (.perp p l)) (facC (valC D ins i (.perp p l)) (.perp p l))])) := by
  have ⟨q1, q2, q3, q4, q5, q6⟩ := And.intro g.q1 (And.intro g.q2 (And.intro g.q3 (And.intro g.q4 (And.intro g.q5 g.b))))
  unfold okC at hok
  refine rn_upr h.len (by omega) g.m1 (by omega) (h.P g.mM (by omega) hok.1) (h.L g.mM (by omega) hok.2) ?_
  intro R1 l1 v1
  rw [← List.append_nil (kpL _ _ _)]
  refine rn_kpL l1.1 hk (by omega) (by omega) (by decide) (qd_pos g.m1) v1 (by omega) ?_
  intro R2 k2
  exact rn_nil (h.made hk (Kept.lo l1 (by omega) k2) hw ((Bw.upr (h.bP hok.1) (h.bL hok.2)).sg (facC_abs _ _)))

theorem made_foot {p l i : Nat} (g : Big M B) (h : Inv M C W D R) (hk : C.length < 16) (hok : okC C (.foot p l)) (hw : wtC W (.foot p l) ≤ 64) :
    Rn B ins (cmdL C.length i (.foot p l)) R (Inv M (C ++ [.foot p l]) (W ++ [wtC W (.foot p l)]) (D ++ [mul3 (valC D ins i (.foot p l)) (facC (valC D ins i (.foot p l)) (.foot p l))])) := by
  have ⟨q1, q2, q3, q4, q5, q6⟩ := And.intro g.q1 (And.intro g.q2 (And.intro g.q3 (And.intro g.q4 (And.intro g.q5 g.b))))
  unfold okC at hok
  refine rn_foot h.len (by omega) g.m1 (by omega) (h.P g.mM (by omega) hok.1) (h.L g.mM (by omega) hok.2) ?_
  intro R1 l1 v1
  rw [← List.append_nil (kpP _ _ _)]
  refine rn_kpP l1.1 hk (by omega) (by omega) (by decide) (qd_pos (qd_pos g.m1)) v1 (by omega) ?_
  intro R2 k2
  exact rn_nil (h.made hk (Kept.lo l1 (by omega) k2) hw ((Bw.foot (h.bP hok.1) (h.bL hok.2)).sg (facC_abs _ _)))

theorem made_mirror {p l i : Nat} (g : Big M B) (h : Inv M C W D R) (hk : C.length < 16) (hok : okC C (.mirror p l)) (hw : wtC W (.mirror p l) ≤ 64) :
    Rn B ins (cmdL C.length i (.mirror p l)) R (Inv M (C ++ [.mirror p l]) (W ++ [wtC W (.mirror p l)]) (D ++ [mul3 (valC D ins i (.mirror p l)) (facC (valC D ins i (.mirror p l)) (.mirror p l))])) := by
  have ⟨q1, q2, q3, q4, q5, q6⟩ := And.intro g.q1 (And.intro g.q2 (And.intro g.q3 (And.intro g.q4 (And.intro g.q5 g.b))))
  unfold okC at hok
  refine rn_mir h.len (by omega) g.m1 (by omega) (h.P g.mM (by omega) hok.1) (h.L g.mM (by omega) hok.2) ?_
  intro R1 l1 v1
  rw [← List.append_nil (kpP _ _ _)]
  refine rn_kpP l1.1 hk (by omega) (by omega) (by decide) (qd_pos (qd_pos (qd_pos (qd_pos g.m1)))) v1 (by omega) ?_
  intro R2 k2
  exact rn_nil (h.made hk (Kept.lo l1 (by omega) k2) hw ((Bw.mir (h.bP hok.1) (h.bL hok.2)).sg (facC_abs _ _)))

theorem made_pt {i : Nat} {x y : Int} (g : Big M B) (h : Inv M C W D R) (hk : C.length < 16) (hx : ins[i]? = some x) (hy : ins[i + 1]? = some y) (bx : x.natAbs ≤ 99) (bY : y.natAbs ≤ 99) :
    Rn B ins (cmdL C.length i .pt) R (Inv M (C ++ [.pt]) (W ++ [wtC W .pt]) (D ++ [mul3 (valC D ins i .pt) (facC (valC D ins i .pt) .pt)])) := by
  have ⟨q1, q2, q3, q4, q5, q6⟩ := And.intro g.q1 (And.intro g.q2 (And.intro g.q3 (And.intro g.q4 (And.intro g.q5 g.b))))
  have h99 : 99 ≤ M := by
    have h1 : 297 ^ 1 ≤ 297 ^ 64 := q297 (by omega)
    have := g.mM
    generalize 297 ^ 64 = A at *
    omega
  have ev : valC D ins i .pt = ⟨x, y, 1⟩ := by simp [valC, inp, hx, hy]
  rw [ev]
  refine rn_work x M h.len (by omega) (by omega) (val_in hx) (by unfold Sm; omega) (by omega) ?_
  intro R1 l1 v1
  refine rn_work y M l1.1 (by omega) (by omega) (val_in hy) (by unfold Sm; omega) (by omega) ?_
  intro R2 l2 v2
  refine rn_work 1 M l2.1 (by omega) (by omega) val_con (by unfold Sm; simpa using g.m1) (by omega) ?_
  intro R3 l3 v3
  have l23 := l2.trans l3 (by omega)
  have l13 := l1.trans l23 (by omega)
  have tv : Tv 51 M R3 (givenR 48) ⟨x, y, 1⟩ := ⟨v1.lo l23 51 M (by omega) (Nat.le_refl _), v2.lo l3 51 M (by omega) (Nat.le_refl _), v3⟩
  show Rn B ins (kpP 51 (givenR 48) C.length) R3 _
  rw [← List.append_nil (kpP _ _ _)]
  refine rn_kpP l3.1 hk (by omega) (by omega) (by decide) g.m1 tv (by omega) ?_
  intro R4 k4
  refine rn_nil (h.made hk (Kept.lo l13 (by omega) k4) (by simp [wtC]) ?_)
  have hw : Bw 1 (⟨x, y, 1⟩ : T3) := ⟨show 3 * x.natAbs ≤ 1 * 297 ^ 1 by omega, show 3 * y.natAbs ≤ 1 * 297 ^ 1 by omega, show 3 * (1 : Int).natAbs ≤ 1 * 297 ^ 1 by decide⟩
  exact hw.sg (facC_abs _ _)

theorem made_line {a b i : Nat} (g : Big M B) (h : Inv M C W D R) (hk : C.length < 16) (hok : okC C (.line a b)) (hw : wtC W (.line a b) ≤ 64) :
    Rn B ins (crossL 48 (hm a) (hm b) ++ prodS 57 50 50 53 53) R (fun R1 => reg R1 59 = stopC (valC D ins i (.line a b)) (.line a b) ∧ Rn B ins (kpL 60 (crossR 48) C.length) R1 (Inv M (C ++ [.line a b]) (W ++ [wtC W (.line a b)]) (D ++ [mul3 (valC D ins i (.line a b)) (facC (valC D ins i (.line a b)) (.line a b))]))) := by
  have ⟨q1, q2, q3, q4, q5, q6⟩ := And.intro g.q1 (And.intro g.q2 (And.intro g.q3 (And.intro g.q4 (And.intro g.q5 g.b))))
  unfold okC at hok
  refine rn_cross h.len (by omega) (by omega) (h.P g.mM (by omega) hok.1) (h.P g.mM (by omega) hok.2) ?_
  intro R1 l1 v1
  rw [← List.append_nil (prodS 57 50 50 53 53)]
  refine rn_prodS l1.1 (by omega) (by omega) v1.1 v1.1 v1.2.1 v1.2.1 ?_
  intro R2 l2 v2
  refine rn_nil ⟨v2.2.1, ?_⟩
  have v1' := v1.lo l2 60 _ (by omega) (Nat.le_refl _)
  have l12 := l1.trans l2 (by omega)
  rw [← List.append_nil (kpL _ _ _)]
  refine rn_kpL l2.1 hk (by omega) (by omega) (by decide) (qd_pos g.m1) v1' (by omega) ?_
  intro R3 k3
  exact rn_nil (h.made hk (Kept.lo l12 (by omega) k3) hw ((Bw.cross (h.bP hok.1) (h.bP hok.2)).sg (facC_abs _ _)))

theorem made_meet {l m i : Nat} (g : Big M B) (h : Inv M C W D R) (hk : C.length < 16) (hok : okC C (.meet l m)) (hw : wtC W (.meet l m) ≤ 64) :
    Rn B ins (crossL 48 (hm l) (hm m)) R (fun R1 => reg R1 56 = stopC (valC D ins i (.meet l m)) (.meet l m) ∧ Rn B ins (kpP 57 (crossR 48) C.length) R1 (Inv M (C ++ [.meet l m]) (W ++ [wtC W (.meet l m)]) (D ++ [mul3 (valC D ins i (.meet l m)) (facC (valC D ins i (.meet l m)) (.meet l m))]))) := by
  have ⟨q1, q2, q3, q4, q5, q6⟩ := And.intro g.q1 (And.intro g.q2 (And.intro g.q3 (And.intro g.q4 (And.intro g.q5 g.b))))
  unfold okC at hok
  rw [← List.append_nil (crossL 48 (hm l) (hm m))]
  refine rn_cross h.len (by omega) (by omega) (h.L g.mM (by omega) hok.1) (h.L g.mM (by omega) hok.2) ?_
  intro R1 l1 v1
  refine rn_nil ⟨v1.2.2.2.1, ?_⟩
  rw [← List.append_nil (kpP _ _ _)]
  refine rn_kpP l1.1 hk (by omega) (by omega) (by decide) (qd_pos g.m1) v1 (by omega) ?_
  intro R2 k2
  exact rn_nil (h.made hk (Kept.lo l1 (by omega) k2) hw ((Bw.cross (h.bL hok.1) (h.bL hok.2)).sg (facC_abs _ _)))

theorem made_centre {a b c i : Nat} (g : Big M B) (h : Inv M C W D R) (hk : C.length < 16) (hok : okC C (.centre a b c)) (hw : wtC W (.centre a b c) ≤ 64) :
    Rn B ins (cenL 48 (hm a) (hm b) (hm c)) R (fun R1 => reg R1 108 = stopC (valC D ins i (.centre a b c)) (.centre a b c) ∧ Rn B ins (kpP 109 (cenR 48) C.length) R1 (Inv M (C ++ [.centre a b c]) (W ++ [wtC W (.centre a b c)]) (D ++ [mul3 (valC D ins i (.centre a b c)) (facC (valC D ins i (.centre a b c)) (.centre a b c))]))) := by
  have ⟨q1, q2, q3, q4, q5, q6⟩ := And.intro g.q1 (And.intro g.q2 (And.intro g.q3 (And.intro g.q4 (And.intro g.q5 g.b))))
  unfold okC at hok
  rw [← List.append_nil (cenL 48 (hm a) (hm b) (hm c))]
  refine rn_cen h.len (by omega) g.m1 (by omega) (h.P g.mM (by omega) hok.1) (h.P g.mM (by omega) hok.2.1) (h.P g.mM (by omega) hok.2.2) ?_
  intro R1 l1 v1
  refine rn_nil ⟨v1.2.2.2.1, ?_⟩
  rw [← List.append_nil (kpP _ _ _)]
  refine rn_kpP l1.1 hk (by omega) (by omega) (by decide) (qd_pos (qd_pos (qd_pos g.m1))) v1 (by omega) ?_
  intro R2 k2
  exact rn_nil (h.made hk (Kept.lo l1 (by omega) k2) hw ((Bw.cen (h.bP hok.1) (h.bP hok.2.1) (h.bP hok.2.2)).sg (facC_abs _ _)))

theorem ask_same {a b : Nat} (g : Big M B) (h : Inv M C W D R) (hk : C.length < 16) (hok : okC C (.same a b)) :
    Rn B ins (samL 48 (hm a) (hm b) ++ isnL 58 57) R (fun R1 => reg R1 61 = askC D (.same a b) ∧ Inv M (C ++ [.same a b]) (W ++ [wtC W (.same a b)]) (D ++ [t0]) R1) := by
  have ⟨q1, q2, q3, q4, q5, q6⟩ := And.intro g.q1 (And.intro g.q2 (And.intro g.q3 (And.intro g.q4 (And.intro g.q5 g.b))))
  unfold okC at hok
  refine rn_sam h.len (by omega) g.m1 (by omega) (h.P g.mM (by omega) hok.1) (h.P g.mM (by omega) hok.2) ?_
  intro R1 l1 v1
  rw [← List.append_nil (isnL 58 57)]
  refine rn_isn l1.1 (by omega) (by omega) (qd_pos (qd_pos g.m1)) v1 ?_
  intro R2 l2 v2
  exact rn_nil ⟨v2.2.1, h.ask hk rfl (by omega) (l1.trans l2 (by omega))⟩

theorem ask_col {a b c : Nat} (g : Big M B) (h : Inv M C W D R) (hk : C.length < 16) (hok : okC C (.col a b c)) :
    Rn B ins (volL 48 (hm a) (hm b) (hm c) ++ isnL 62 61) R (fun R1 => reg R1 65 = askC D (.col a b c) ∧ Inv M (C ++ [.col a b c]) (W ++ [wtC W (.col a b c)]) (D ++ [t0]) R1) := by
  have ⟨q1, q2, q3, q4, q5, q6⟩ := And.intro g.q1 (And.intro g.q2 (And.intro g.q3 (And.intro g.q4 (And.intro g.q5 g.b))))
  unfold okC at hok
  refine rn_vol h.len (by omega) g.m1 (by omega) (h.P g.mM (by omega) hok.1) (h.P g.mM (by omega) hok.2.1) (h.P g.mM (by omega) hok.2.2) ?_
  intro R1 l1 v1
  rw [← List.append_nil (isnL 62 61)]
  refine rn_isn l1.1 (by omega) (by omega) (qd_pos (qd_pos g.m1)) v1 ?_
  intro R2 l2 v2
  exact rn_nil ⟨v2.2.1, h.ask hk rfl (by omega) (l1.trans l2 (by omega))⟩

theorem ask_ccw {a b c : Nat} (g : Big M B) (h : Inv M C W D R) (hk : C.length < 16) (hok : okC C (.ccw a b c)) :
    Rn B ins (volL 48 (hm a) (hm b) (hm c)) R (fun R1 => reg R1 61 = askC D (.ccw a b c) ∧ Inv M (C ++ [.ccw a b c]) (W ++ [wtC W (.ccw a b c)]) (D ++ [t0]) R1) := by
  have ⟨q1, q2, q3, q4, q5, q6⟩ := And.intro g.q1 (And.intro g.q2 (And.intro g.q3 (And.intro g.q4 (And.intro g.q5 g.b))))
  unfold okC at hok
  rw [← List.append_nil (volL 48 (hm a) (hm b) (hm c))]
  refine rn_vol h.len (by omega) g.m1 (by omega) (h.P g.mM (by omega) hok.1) (h.P g.mM (by omega) hok.2.1) (h.P g.mM (by omega) hok.2.2) ?_
  intro R1 l1 v1
  exact rn_nil ⟨v1.2.1, h.ask hk rfl (by omega) l1⟩

theorem ask_btw {a b c : Nat} (g : Big M B) (h : Inv M C W D R) (hk : C.length < 16) (hok : okC C (.btw a b c)) :
    Rn B ins (btwL 48 (hm a) (hm b) (hm c)) R (fun R1 => reg R1 85 = askC D (.btw a b c) ∧ Inv M (C ++ [.btw a b c]) (W ++ [wtC W (.btw a b c)]) (D ++ [t0]) R1) := by
  have ⟨q1, q2, q3, q4, q5, q6⟩ := And.intro g.q1 (And.intro g.q2 (And.intro g.q3 (And.intro g.q4 (And.intro g.q5 g.b))))
  unfold okC at hok
  rw [← List.append_nil (btwL 48 (hm a) (hm b) (hm c))]
  refine rn_btw h.len (by omega) g.m1 (by omega) (h.P g.mM (by omega) hok.1) (h.P g.mM (by omega) hok.2.1) (h.P g.mM (by omega) hok.2.2) ?_
  intro R1 l1 v1
  exact rn_nil ⟨v1.2.1, h.ask hk rfl (by omega) l1⟩

theorem ask_con {a b c d : Nat} (g : Big M B) (h : Inv M C W D R) (hk : C.length < 16) (hok : okC C (.con a b c d)) :
    Rn B ins (rndL 48 (hm a) (hm b) (hm c) (hm d) ++ isnL 98 97) R (fun R1 => reg R1 101 = askC D (.con a b c d) ∧ Inv M (C ++ [.con a b c d]) (W ++ [wtC W (.con a b c d)]) (D ++ [t0]) R1) := by
  have ⟨q1, q2, q3, q4, q5, q6⟩ := And.intro g.q1 (And.intro g.q2 (And.intro g.q3 (And.intro g.q4 (And.intro g.q5 g.b))))
  unfold okC at hok
  refine rn_rnd h.len (by omega) g.m1 (by omega) (h.P g.mM (by omega) hok.1) (h.P g.mM (by omega) hok.2.1) (h.P g.mM (by omega) hok.2.2.1) (h.P g.mM (by omega) hok.2.2.2) ?_
  intro R1 l1 v1
  rw [← List.append_nil (isnL 98 97)]
  refine rn_isn l1.1 (by omega) (by omega) (qd_pos (qd_pos (qd_pos (qd_pos g.m1)))) v1 ?_
  intro R2 l2 v2
  exact rn_nil ⟨v2.2.1, h.ask hk rfl (by omega) (l1.trans l2 (by omega))⟩

theorem ask_on {p l : Nat} (g : Big M B) (h : Inv M C W D R) (hk : C.length < 16) (hok : okC C (.on p l)) :
    Rn B ins (dotL 48 (hm p) (hm l) ++ isnL 53 52) R (fun R1 => reg R1 56 = askC D (.on p l) ∧ Inv M (C ++ [.on p l]) (W ++ [wtC W (.on p l)]) (D ++ [t0]) R1) := by
  have ⟨q1, q2, q3, q4, q5, q6⟩ := And.intro g.q1 (And.intro g.q2 (And.intro g.q3 (And.intro g.q4 (And.intro g.q5 g.b))))
  unfold okC at hok
  refine rn_dot h.len (by omega) (by omega) (h.P g.mM (by omega) hok.1) (h.L g.mM (by omega) hok.2) ?_
  intro R1 l1 v1
  rw [← List.append_nil (isnL 53 52)]
  refine rn_isn l1.1 (by omega) (by omega) (qd_pos g.m1) v1 ?_
  intro R2 l2 v2
  exact rn_nil ⟨v2.2.1, h.ask hk rfl (by omega) (l1.trans l2 (by omega))⟩

theorem ask_pll {l m : Nat} (g : Big M B) (h : Inv M C W D R) (hk : C.length < 16) (hok : okC C (.pll l m)) :
    Rn B ins (prodD 48 (hm l).x (hm m).y (hm l).y (hm m).x ++ isnL 51 50) R (fun R1 => reg R1 54 = askC D (.pll l m) ∧ Inv M (C ++ [.pll l m]) (W ++ [wtC W (.pll l m)]) (D ++ [t0]) R1) := by
  have ⟨q1, q2, q3, q4, q5, q6⟩ := And.intro g.q1 (And.intro g.q2 (And.intro g.q3 (And.intro g.q4 (And.intro g.q5 g.b))))
  unfold okC at hok
  refine rn_prodD h.len (by omega) (by omega) (h.L g.mM (by omega) hok.1).1 (h.L g.mM (by omega) hok.2).2.1 (h.L g.mM (by omega) hok.1).2.1 (h.L g.mM (by omega) hok.2).1 ?_
  intro R1 l1 v1
  rw [← List.append_nil (isnL 51 50)]
  refine rn_isn l1.1 (by omega) (by omega) (qd_pos g.m1) v1 ?_
  intro R2 l2 v2
  exact rn_nil ⟨v2.2.1, h.ask hk rfl (by omega) (l1.trans l2 (by omega))⟩

theorem ask_prp {l m : Nat} (g : Big M B) (h : Inv M C W D R) (hk : C.length < 16) (hok : okC C (.prp l m)) :
    Rn B ins (prodS 48 (hm l).x (hm m).x (hm l).y (hm m).y ++ isnL 51 50) R (fun R1 => reg R1 54 = askC D (.prp l m) ∧ Inv M (C ++ [.prp l m]) (W ++ [wtC W (.prp l m)]) (D ++ [t0]) R1) := by
  have ⟨q1, q2, q3, q4, q5, q6⟩ := And.intro g.q1 (And.intro g.q2 (And.intro g.q3 (And.intro g.q4 (And.intro g.q5 g.b))))
  unfold okC at hok
  refine rn_prodS h.len (by omega) (by omega) (h.L g.mM (by omega) hok.1).1 (h.L g.mM (by omega) hok.2).1 (h.L g.mM (by omega) hok.1).2.1 (h.L g.mM (by omega) hok.2).2.1 ?_
  intro R1 l1 v1
  rw [← List.append_nil (isnL 51 50)]
  refine rn_isn l1.1 (by omega) (by omega) (qd_pos g.m1) v1 ?_
  intro R2 l2 v2
  exact rn_nil ⟨v2.2.1, h.ask hk rfl (by omega) (l1.trans l2 (by omega))⟩

theorem ask_cc {l m n : Nat} (g : Big M B) (h : Inv M C W D R) (hk : C.length < 16) (hok : okC C (.cc l m n)) :
    Rn B ins (volL 48 (hm l) (hm m) (hm n) ++ isnL 62 61) R (fun R1 => reg R1 65 = askC D (.cc l m n) ∧ Inv M (C ++ [.cc l m n]) (W ++ [wtC W (.cc l m n)]) (D ++ [t0]) R1) := by
  have ⟨q1, q2, q3, q4, q5, q6⟩ := And.intro g.q1 (And.intro g.q2 (And.intro g.q3 (And.intro g.q4 (And.intro g.q5 g.b))))
  unfold okC at hok
  refine rn_vol h.len (by omega) g.m1 (by omega) (h.L g.mM (by omega) hok.1) (h.L g.mM (by omega) hok.2.1) (h.L g.mM (by omega) hok.2.2) ?_
  intro R1 l1 v1
  rw [← List.append_nil (isnL 62 61)]
  refine rn_isn l1.1 (by omega) (by omega) (qd_pos (qd_pos g.m1)) v1 ?_
  intro R2 l2 v2
  exact rn_nil ⟨v2.2.1, h.ask hk rfl (by omega) (l1.trans l2 (by omega))⟩

theorem sem_ask {c : Cmd} {r : List Cmd} {k i : Nat} {s : ByteArray} (h : srt c = 63) : semC ins (c :: r) k i D s = semC ins r (k + 1) i (D ++ [t0]) (s ++ ⟨#[if 0 < askC D c then 49 else 48]⟩) := by simp [semC, h]
theorem sem_stop {c : Cmd} {r : List Cmd} {k i : Nat} {s : ByteArray} (h : srt c ≠ 63) (h0 : stopC (valC D ins i c) c = 0) : semC ins (c :: r) k i D s = s ++ ⟨#[lettC c]⟩ ++ dec (k : Int) := by simp [semC, h, h0]
theorem sem_made {c : Cmd} {r : List Cmd} {k i : Nat} {s : ByteArray} (h : srt c ≠ 63) (h0 : stopC (valC D ins i c) c ≠ 0) : semC ins (c :: r) k i D s = semC ins r (k + 1) (i + insC c) (D ++ [mul3 (valC D ins i c) (facC (valC D ins i c) c)]) s := by simp [semC, h, h0]
end
theorem play_sem {B M : Nat} (g : Big M B) (ins : List Int) (hin : ∀ x ∈ ins, x.natAbs ≤ 99) (r : List Cmd) : ∀ (C : List Cmd) (W : List Nat) (D : List T3) (R : List Int) (i : Nat) (s : ByteArray), Inv M C W D R → Wf C W r → C.length + r.length ≤ 16 → i + cntI r = ins.length → play B ins (cmdsL r C.length i) R s = (semC ins r C.length i D s, 0) := by
  induction r with
  | nil => intro C W D R i s _ _ _ _; rfl
  | cons c r ih =>
    intro C W D R i s h hwf hl hi
    obtain ⟨hok, hw, hwr⟩ := hwf
    have hk : C.length < 16 := by simp at hl; omega
    have hl' : (C ++ [c]).length + r.length ≤ 16 := by simp at *; omega
    have hlen : (C ++ [c]).length = C.length + 1 := by simp
    have hi' : i + insC c + cntI r = ins.length := by simp [cntI] at *; omega
    unfold cmdsL
    cases c using Cmd.el with

    | pt =>
      have hx : i < ins.length := by simp [insC] at hi'; omega
      have hy : i + 1 < ins.length := by simp [insC] at hi'; omega
      obtain ⟨R', inv, hp⟩ := made_pt g h hk (List.getElem?_eq_getElem hx) (List.getElem?_eq_getElem hy) (hin _ (List.getElem_mem hx)) (hin _ (List.getElem_mem hy))
      have e := ih _ _ _ R' _ s inv hwr hl' hi'
      rw [hlen] at e
      rw [hp, sem_made (by decide) (by simp [stopC]), e]

    | mid a b =>
      obtain ⟨R', inv, hp⟩ := made_mid (ins := ins) (i := i) g h hk hok hw
      have e := ih _ _ _ R' _ s inv hwr hl' hi'
      rw [hlen] at e
      rw [hp, sem_made (by simp [srt]) (by simp [stopC]), e]

    | par p l =>
      obtain ⟨R', inv, hp⟩ := made_par (ins := ins) (i := i) g h hk hok hw
      have e := ih _ _ _ R' _ s inv hwr hl' hi'
      rw [hlen] at e
      rw [hp, sem_made (by simp [srt]) (by simp [stopC]), e]

    | perp p l =>
      obtain ⟨R', inv, hp⟩ := made_perp (ins := ins) (i := i) g h hk hok hw
      have e := ih _ _ _ R' _ s inv hwr hl' hi'
      rw [hlen] at e
      rw [hp, sem_made (by simp [srt]) (by simp [stopC]), e]

    | foot p l =>
      obtain ⟨R', inv, hp⟩ := made_foot (ins := ins) (i := i) g h hk hok hw
      have e := ih _ _ _ R' _ s inv hwr hl' hi'
      rw [hlen] at e
      rw [hp, sem_made (by simp [srt]) (by simp [stopC]), e]

    | mirror p l =>
      obtain ⟨R', inv, hp⟩ := made_mirror (ins := ins) (i := i) g h hk hok hw
      have e := ih _ _ _ R' _ s inv hwr hl' hi'
      rw [hlen] at e
      rw [hp, sem_made (by simp [srt]) (by simp [stopC]), e]

    | line a b =>
      obtain ⟨R1, ⟨e1, R2, inv, hp2⟩, hp1⟩ := made_line (ins := ins) (i := i) g h hk hok hw
      unfold cmdL
      rw [show ∀ (A E F G : List Stp) (t : Stp), A ++ (E ++ t :: F) ++ G = (A ++ E) ++ t :: (F ++ G) from fun _ _ _ _ _ => by simp, hp1]
      by_cases h0 : stopC (valC D ins i (.line a b)) (.line a b) = 0
      · rw [play_end (show 6 < 7 by decide) (by rw [e1]; exact h0), sem_stop (by simp [srt]) h0]
        rfl
      · have e := ih _ _ _ R2 _ s inv hwr hl' hi'
        rw [hlen] at e
        rw [play_on (show 6 < 7 by decide) (by rw [e1]; exact h0), hp2, sem_made (by simp [srt]) h0]
        exact e

    | meet l m =>
      obtain ⟨R1, ⟨e1, R2, inv, hp2⟩, hp1⟩ := made_meet (ins := ins) (i := i) g h hk hok hw
      unfold cmdL
      rw [show ∀ (A F G : List Stp) (t : Stp), A ++ (t :: F) ++ G = A ++ t :: (F ++ G) from fun _ _ _ _ => by simp, hp1]
      by_cases h0 : stopC (valC D ins i (.meet l m)) (.meet l m) = 0
      · rw [play_end (show 6 < 7 by decide) (by rw [e1]; exact h0), sem_stop (by simp [srt]) h0]
        rfl
      · have e := ih _ _ _ R2 _ s inv hwr hl' hi'
        rw [hlen] at e
        rw [play_on (show 6 < 7 by decide) (by rw [e1]; exact h0), hp2, sem_made (by simp [srt]) h0]
        exact e

    | centre a b c =>
      obtain ⟨R1, ⟨e1, R2, inv, hp2⟩, hp1⟩ := made_centre (ins := ins) (i := i) g h hk hok hw
      unfold cmdL
      rw [show ∀ (A F G : List Stp) (t : Stp), A ++ (t :: F) ++ G = A ++ t :: (F ++ G) from fun _ _ _ _ => by simp, hp1]
      by_cases h0 : stopC (valC D ins i (.centre a b c)) (.centre a b c) = 0
      · rw [play_end (show 6 < 7 by decide) (by rw [e1]; exact h0), sem_stop (by simp [srt]) h0]
        rfl
      · have e := ih _ _ _ R2 _ s inv hwr hl' hi'
        rw [hlen] at e
        rw [play_on (show 6 < 7 by decide) (by rw [e1]; exact h0), hp2, sem_made (by simp [srt]) h0]
        exact e

    | same a b =>
      obtain ⟨R', ⟨e1, inv⟩, hp⟩ := ask_same (ins := ins) g h hk hok
      unfold cmdL
      rw [show ∀ (A E F G : List Stp), A ++ (E ++ F) ++ G = (A ++ E) ++ (F ++ G) from fun _ _ _ _ => by simp, hp]
      show play B ins (⟨6, 61, 0, 0⟩ :: cmdsL r (C.length + 1) i) R' s = _
      have e := ih _ _ _ R' i (s ++ ⟨#[if 0 < askC D (.same a b) then 49 else 48]⟩) inv hwr hl' hi'
      rw [hlen] at e
      rw [play_out rfl, sem_ask (by simp [srt]), e1]
      exact e

    | col a b c =>
      obtain ⟨R', ⟨e1, inv⟩, hp⟩ := ask_col (ins := ins) g h hk hok
      unfold cmdL
      rw [show ∀ (A E F G : List Stp), A ++ (E ++ F) ++ G = (A ++ E) ++ (F ++ G) from fun _ _ _ _ => by simp, hp]
      show play B ins (⟨6, 65, 0, 0⟩ :: cmdsL r (C.length + 1) i) R' s = _
      have e := ih _ _ _ R' i (s ++ ⟨#[if 0 < askC D (.col a b c) then 49 else 48]⟩) inv hwr hl' hi'
      rw [hlen] at e
      rw [play_out rfl, sem_ask (by simp [srt]), e1]
      exact e

    | ccw a b c =>
      obtain ⟨R', ⟨e1, inv⟩, hp⟩ := ask_ccw (ins := ins) g h hk hok
      unfold cmdL
      rw [List.append_assoc, hp]
      show play B ins (⟨6, 61, 0, 0⟩ :: cmdsL r (C.length + 1) i) R' s = _
      have e := ih _ _ _ R' i (s ++ ⟨#[if 0 < askC D (.ccw a b c) then 49 else 48]⟩) inv hwr hl' hi'
      rw [hlen] at e
      rw [play_out rfl, sem_ask (by simp [srt]), e1]
      exact e

    | btw a b c =>
      obtain ⟨R', ⟨e1, inv⟩, hp⟩ := ask_btw (ins := ins) g h hk hok
      unfold cmdL
      rw [List.append_assoc, hp]
      show play B ins (⟨6, 85, 0, 0⟩ :: cmdsL r (C.length + 1) i) R' s = _
      have e := ih _ _ _ R' i (s ++ ⟨#[if 0 < askC D (.btw a b c) then 49 else 48]⟩) inv hwr hl' hi'
      rw [hlen] at e
      rw [play_out rfl, sem_ask (by simp [srt]), e1]
      exact e

    | con a b c d =>
      obtain ⟨R', ⟨e1, inv⟩, hp⟩ := ask_con (ins := ins) g h hk hok
      unfold cmdL
      rw [show ∀ (A E F G : List Stp), A ++ (E ++ F) ++ G = (A ++ E) ++ (F ++ G) from fun _ _ _ _ => by simp, hp]
      show play B ins (⟨6, 101, 0, 0⟩ :: cmdsL r (C.length + 1) i) R' s = _
      have e := ih _ _ _ R' i (s ++ ⟨#[if 0 < askC D (.con a b c d) then 49 else 48]⟩) inv hwr hl' hi'
      rw [hlen] at e
      rw [play_out rfl, sem_ask (by simp [srt]), e1]
      exact e

    | on p l =>
      obtain ⟨R', ⟨e1, inv⟩, hp⟩ := ask_on (ins := ins) g h hk hok
      unfold cmdL
      rw [show ∀ (A E F G : List Stp), A ++ (E ++ F) ++ G = (A ++ E) ++ (F ++ G) from fun _ _ _ _ => by simp, hp]
      show play B ins (⟨6, 56, 0, 0⟩ :: cmdsL r (C.length + 1) i) R' s = _
      have e := ih _ _ _ R' i (s ++ ⟨#[if 0 < askC D (.on p l) then 49 else 48]⟩) inv hwr hl' hi'
      rw [hlen] at e
      rw [play_out rfl, sem_ask (by simp [srt]), e1]
      exact e

    | pll l m =>
      obtain ⟨R', ⟨e1, inv⟩, hp⟩ := ask_pll (ins := ins) g h hk hok
      unfold cmdL
      rw [show ∀ (A E F G : List Stp), A ++ (E ++ F) ++ G = (A ++ E) ++ (F ++ G) from fun _ _ _ _ => by simp, hp]
      show play B ins (⟨6, 54, 0, 0⟩ :: cmdsL r (C.length + 1) i) R' s = _
      have e := ih _ _ _ R' i (s ++ ⟨#[if 0 < askC D (.pll l m) then 49 else 48]⟩) inv hwr hl' hi'
      rw [hlen] at e
      rw [play_out rfl, sem_ask (by simp [srt]), e1]
      exact e

    | prp l m =>
      obtain ⟨R', ⟨e1, inv⟩, hp⟩ := ask_prp (ins := ins) g h hk hok
      unfold cmdL
      rw [show ∀ (A E F G : List Stp), A ++ (E ++ F) ++ G = (A ++ E) ++ (F ++ G) from fun _ _ _ _ => by simp, hp]
      show play B ins (⟨6, 54, 0, 0⟩ :: cmdsL r (C.length + 1) i) R' s = _
      have e := ih _ _ _ R' i (s ++ ⟨#[if 0 < askC D (.prp l m) then 49 else 48]⟩) inv hwr hl' hi'
      rw [hlen] at e
      rw [play_out rfl, sem_ask (by simp [srt]), e1]
      exact e

    | cc l m n =>
      obtain ⟨R', ⟨e1, inv⟩, hp⟩ := ask_cc (ins := ins) g h hk hok
      unfold cmdL
      rw [show ∀ (A E F G : List Stp), A ++ (E ++ F) ++ G = (A ++ E) ++ (F ++ G) from fun _ _ _ _ => by simp, hp]
      show play B ins (⟨6, 65, 0, 0⟩ :: cmdsL r (C.length + 1) i) R' s = _
      have e := ih _ _ _ R' i (s ++ ⟨#[if 0 < askC D (.cc l m n) then 49 else 48]⟩) inv hwr hl' hi'
      rw [hlen] at e
      rw [play_out rfl, sem_ask (by simp [srt]), e1]
      exact e


theorem inv_start {M : Nat} : Inv M [] [] [] (List.replicate 128 0) := ⟨by simp, rfl, rfl, fun j => by simp [wt], fun j hj => by simp at hj⟩
theorem big_start {B nn m : Nat} (hB : B = 10 ^ nn) (hn : nn = 8000) (hm : m = 160) : Big (10 ^ m) B := by
  refine Big.of (by subst hm; decide) ?_
  subst hB
  have h0 : ∀ n : Nat, qd (10 ^ n) ≤ 10 ^ (2 * n + 1) := fun n => by
    unfold qd
    rw [show 2 * n + 1 = n + n + 1 by omega, Nat.pow_succ, Nat.pow_add]
    omega
  have mono : ∀ {a b : Nat}, a ≤ b → qd a ≤ qd b := fun h => by unfold qd; exact Nat.mul_le_mul_left 3 (Nat.mul_le_mul h h)
  have h1 := h0 m
  have h2 := Nat.le_trans (mono h1) (h0 _)
  have h3 := Nat.le_trans (mono h2) (h0 _)
  have h4 := Nat.le_trans (mono h3) (h0 _)
  have h5 := Nat.le_trans (mono h4) (h0 _)
  refine Nat.lt_of_le_of_lt h5 (Nat.pow_lt_pow_right (by omega) (by omega))
theorem play_report {B nn : Nat} (hB : B = 10 ^ nn) (hn : nn = 8000) (ins : List Int) (hin : ∀ x ∈ ins, x.natAbs ≤ 99) (r : List Cmd) (hw : Wf [] [] r) (hl : r.length ≤ 16) (hi : cntI r = ins.length) :
    play B ins (cmdsL r 0 0) (List.replicate 128 0) ⟨#[]⟩ = (semC ins r 0 0 [] ⟨#[]⟩, 0) :=
  play_sem (big_start hB hn rfl) ins hin r [] [] [] _ 0 _ inv_start hw (by simpa using hl) (by omega)
end Go.Proofs.YtmnfndpbblpjiabGreatDoor.Pu

/- What a report tells stays the same if all points are turned, mirrored, widened, moved. -/
namespace Go.Proofs.YtmnfndpbblpjiabGreatDoor.Pu

/-- A likeness of the plane: g is 1 or -1 (mirrored). -/
structure Sim where
  a : Int
  b : Int
  dx : Int
  dy : Int
  g : Int
  gg : g * g = 1
  s : a * a + b * b ≠ 0
def tP (T : Sim) (v : T3) : T3 := ⟨T.a * v.x - T.b * T.g * v.y + T.dx * v.w, T.b * v.x + T.a * T.g * v.y + T.dy * v.w, v.w⟩
def tL (T : Sim) (v : T3) : T3 := ⟨T.a * T.g * v.x - T.b * v.y, T.b * T.g * v.x + T.a * v.y, (T.b * T.dx - T.a * T.dy) * v.y - T.g * (T.b * T.dy + T.a * T.dx) * v.x + T.g * (T.a * T.a + T.b * T.b) * v.w⟩
def ss (T : Sim) : Int := T.a * T.a + T.b * T.b
theorem sq_nn (x : Int) : 0 ≤ x * x := by
  rcases Int.le_total 0 x with h | h
  · exact Int.mul_nonneg h h
  · exact Int.mul_nonneg_of_nonpos_of_nonpos h h
theorem ss_pos (T : Sim) : 0 < ss T := by
  have h1 := sq_nn T.a
  have h2 := sq_nn T.b
  have := T.s
  unfold ss; omega
theorem T3.ext' {u v : T3} (h1 : u.x = v.x) (h2 : u.y = v.y) (h3 : u.w = v.w) : u = v := by cases u; cases v; simp_all
section
variable (T : Sim)
theorem g_ne : T.g ≠ 0 := fun h => by have := T.gg; rw [h] at this; simp at this
theorem cross_P (p q : T3) (c d : Int) : crossV (mul3 (tP T p) c) (mul3 (tP T q) d) = mul3 (tL T (crossV p q)) (c * d) := by
  have hg := T.gg
  refine T3.ext' ?_ ?_ ?_ <;> simp only [crossV, mul3, tP, tL] <;> grind
theorem cross_L (p q : T3) (c d : Int) : crossV (mul3 (tL T p) c) (mul3 (tL T q) d) = mul3 (tP T (crossV p q)) (c * d * (T.g * ss T)) := by
  have hg := T.gg
  refine T3.ext' ?_ ?_ ?_ <;> simp only [crossV, mul3, tP, tL, ss] <;> grind
theorem mid_P (p q : T3) (c d : Int) : midV (mul3 (tP T p) c) (mul3 (tP T q) d) = mul3 (tP T (midV p q)) (c * d) := by
  refine T3.ext' ?_ ?_ ?_ <;> simp only [midV, mul3, tP] <;> grind
theorem par_PL (p l : T3) (c d : Int) : parV (mul3 (tP T p) c) (mul3 (tL T l) d) = mul3 (tL T (parV p l)) (c * d) := by
  have hg := T.gg
  refine T3.ext' ?_ ?_ ?_ <;> simp only [parV, mul3, tP, tL] <;> grind
theorem upr_PL (p l : T3) (c d : Int) : uprV (mul3 (tP T p) c) (mul3 (tL T l) d) = mul3 (tL T (uprV p l)) (c * d * T.g) := by
  have hg := T.gg
  refine T3.ext' ?_ ?_ ?_ <;> simp only [uprV, parV, mul3, tP, tL] <;> grind
theorem foot_PL (p l : T3) (c d : Int) : footV (mul3 (tP T p) c) (mul3 (tL T l) d) = mul3 (tP T (footV p l)) (c * d * T.g * d * (T.g * ss T)) := by
  unfold footV; rw [upr_PL, cross_L]
theorem mirF (p f : T3) (c e : Int) (hx : T3) (h : hx = mul3 (tP T f) e) : (⟨(hx.x + hx.x) * (mul3 (tP T p) c).w - (mul3 (tP T p) c).x * hx.w, (hx.y + hx.y) * (mul3 (tP T p) c).w - (mul3 (tP T p) c).y * hx.w, hx.w * (mul3 (tP T p) c).w⟩ : T3) = mul3 (tP T ⟨(f.x + f.x) * p.w - p.x * f.w, (f.y + f.y) * p.w - p.y * f.w, f.w * p.w⟩) (e * c) := by
  subst h
  refine T3.ext' ?_ ?_ ?_ <;> simp only [mul3, tP] <;> grind
theorem mir_PL (p l : T3) (c d : Int) : mirV (mul3 (tP T p) c) (mul3 (tL T l) d) = mul3 (tP T (mirV p l)) (c * d * T.g * d * (T.g * ss T) * c) :=
  mirF T p (footV p l) c _ _ (foot_PL T p l c d)
theorem hal_P (p q : T3) (c d : Int) : halV (mul3 (tP T p) c) (mul3 (tP T q) d) = mul3 (tL T (halV p q)) (c * d * (c * d) * T.g) := by
  unfold halV; rw [mid_P, cross_P, upr_PL]
theorem cen_P (p q r : T3) (c d e : Int) : cenV (mul3 (tP T p) c) (mul3 (tP T q) d) (mul3 (tP T r) e) = mul3 (tP T (cenV p q r)) (c * d * (c * d) * T.g * (c * e * (c * e) * T.g) * (T.g * ss T)) := by
  unfold cenV; rw [hal_P, hal_P, cross_L]
theorem dot_PL (p l : T3) (c d : Int) : dotV (mul3 (tP T p) c) (mul3 (tL T l) d) = dotV p l * (c * d * (T.g * ss T)) := by
  have hg := T.gg
  simp only [dotV, mul3, tP, tL, ss]; grind
theorem dot_LP (l p : T3) (c d : Int) : dotV (mul3 (tL T l) d) (mul3 (tP T p) c) = dotV l p * (c * d * (T.g * ss T)) := by
  have hg := T.gg
  simp only [dotV, mul3, tP, tL, ss]; grind
theorem vol_P (p q r : T3) (c d e : Int) : volV (mul3 (tP T p) c) (mul3 (tP T q) d) (mul3 (tP T r) e) = volV p q r * (e * (c * d) * (T.g * ss T)) := by
  unfold volV; rw [cross_P, dot_LP]
theorem vol_L (p q r : T3) (c d e : Int) : volV (mul3 (tL T p) c) (mul3 (tL T q) d) (mul3 (tL T r) e) = volV p q r * (c * d * (T.g * ss T) * e * (T.g * ss T)) := by
  unfold volV; rw [cross_L, dot_PL]
theorem way_x (p q : T3) (c d : Int) : (wayV (mul3 (tP T p) c) (mul3 (tP T q) d)).x = (T.a * (wayV p q).x - T.b * T.g * (wayV p q).y) * (c * d) := by simp only [wayV, mul3, tP]; grind
theorem way_y (p q : T3) (c d : Int) : (wayV (mul3 (tP T p) c) (mul3 (tP T q) d)).y = (T.b * (wayV p q).x + T.a * T.g * (wayV p q).y) * (c * d) := by simp only [wayV, mul3, tP]; grind
theorem way_w (p q : T3) (c d : Int) : (wayV (mul3 (tP T p) c) (mul3 (tP T q) d)).w = (wayV p q).w * (c * d) := by simp only [wayV, mul3, tP]; grind
theorem rot_dot (X Y U V : Int) : (T.a * X - T.b * T.g * Y) * (T.a * U - T.b * T.g * V) + (T.b * X + T.a * T.g * Y) * (T.b * U + T.a * T.g * V) = (X * U + Y * V) * ss T := by
  have hg := T.gg
  simp only [ss]; grind
theorem sam_P (p q : T3) (c d : Int) : samV (mul3 (tP T p) c) (mul3 (tP T q) d) = samV p q * (c * d * (c * d) * ss T) := by
  unfold samV; rw [way_x, way_y]
  have := rot_dot T (wayV p q).x (wayV p q).y (wayV p q).x (wayV p q).y
  grind
theorem dots_P (a b c' : T3) (c d e : Int) : (wayV (mul3 (tP T b) d) (mul3 (tP T a) c)).x * (wayV (mul3 (tP T b) d) (mul3 (tP T c') e)).x + (wayV (mul3 (tP T b) d) (mul3 (tP T a) c)).y * (wayV (mul3 (tP T b) d) (mul3 (tP T c') e)).y = ((wayV b a).x * (wayV b c').x + (wayV b a).y * (wayV b c').y) * (d * c * (d * e) * ss T) := by
  rw [way_x, way_y, way_x, way_y]
  have := rot_dot T (wayV b a).x (wayV b a).y (wayV b c').x (wayV b c').y
  grind
/-- Lifted, turned. -/
def tQ (v : T3) : T3 := ⟨T.a * v.x - T.b * T.g * v.y, T.b * v.x + T.a * T.g * v.y, ss T * v.w⟩
theorem lif_P (p q : T3) (c d : Int) : lifV (wayV (mul3 (tP T p) c) (mul3 (tP T q) d)) = mul3 (tQ T (lifV (wayV p q))) (c * d * (c * d)) := by
  have := rot_dot T (wayV p q).x (wayV p q).y (wayV p q).x (wayV p q).y
  refine T3.ext' ?_ ?_ ?_ <;> simp only [lifV, way_x, way_y, way_w] <;> simp only [mul3, tQ] <;> grind
theorem vol_Q (p q r : T3) (c d e : Int) : volV (mul3 (tQ T p) c) (mul3 (tQ T q) d) (mul3 (tQ T r) e) = volV p q r * (c * d * e * (T.g * ss T * ss T)) := by
  have hg := T.gg
  simp only [volV, dotV, crossV, mul3, tQ, ss]; grind
theorem rnd_P (p q r t : T3) (c d e f : Int) : rndV (mul3 (tP T p) c) (mul3 (tP T q) d) (mul3 (tP T r) e) (mul3 (tP T t) f) = rndV p q r t * (c * d * (c * d) * (c * e * (c * e)) * (c * f * (c * f)) * (T.g * ss T * ss T)) := by
  unfold rndV; rw [lif_P, lif_P, lif_P, vol_Q]
theorem pll_L (l m : T3) (c d : Int) : (mul3 (tL T l) c).x * (mul3 (tL T m) d).y - (mul3 (tL T l) c).y * (mul3 (tL T m) d).x = (l.x * m.y - l.y * m.x) * (c * d * (T.g * ss T)) := by
  simp only [mul3, tL, ss]; grind
theorem prp_L (l m : T3) (c d : Int) : (mul3 (tL T l) c).x * (mul3 (tL T m) d).x + (mul3 (tL T l) c).y * (mul3 (tL T m) d).y = (l.x * m.x + l.y * m.y) * (c * d * ss T) := by
  have hg := T.gg
  simp only [mul3, tL, ss]; grind
theorem sq_L (l : T3) (c : Int) : (mul3 (tL T l) c).x * (mul3 (tL T l) c).x + (mul3 (tL T l) c).y * (mul3 (tL T l) c).y = (l.x * l.x + l.y * l.y) * (c * c * ss T) := prp_L T l l c c
theorem keep_P (m : T3) (e : Int) (h : e ≠ 0) : mul3 (mul3 (tP T m) e) (sgn (mul3 (tP T m) e).w) = mul3 (tP T (mul3 m (sgn m.w))) (e * sgn e) := by
  have key : sgn (m.w * e) = sgn m.w * sgn e := by
    rcases sgn_cases m.w with h1 | h1 | h1 <;> rcases sgn_cases e with h2 | h2 | h2 <;> rw [h1.1, h2.1]
    · have := Int.mul_pos_of_neg_of_neg h1.2 h2.2
      rcases sgn_cases (m.w * e) with h | h | h <;> omega
    · exact absurd h2.2 h
    · have := Int.mul_neg_of_neg_of_pos h1.2 h2.2
      rcases sgn_cases (m.w * e) with h | h | h <;> omega
    · rw [h1.2]; simp [sgn]
    · rw [h1.2]; simp [sgn]
    · rw [h1.2]; simp [sgn]
    · have := Int.mul_neg_of_pos_of_neg h1.2 h2.2
      rcases sgn_cases (m.w * e) with h | h | h <;> omega
    · exact absurd h2.2 h
    · have := Int.mul_pos h1.2 h2.2
      rcases sgn_cases (m.w * e) with h | h | h <;> omega
  have kw : (mul3 (tP T m) e).w = m.w * e := rfl
  rw [kw, key]
  refine T3.ext' ?_ ?_ ?_ <;> simp only [mul3, tP] <;> grind
end
end Go.Proofs.YtmnfndpbblpjiabGreatDoor.Pu

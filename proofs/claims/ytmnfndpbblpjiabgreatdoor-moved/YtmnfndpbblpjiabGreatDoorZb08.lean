/- What a report tells stays the same under a likeness: each statement, and all. -/
import Derived.Test.YtmnfndpbblpjiabGreatDoorZb07
namespace Go.Proofs.YtmnfndpbblpjiabGreatDoor.Pu

section
variable (T : Sim)
structure Rel (C : List Cmd) (D D' : List T3) : Prop where
  l : D.length = C.length
  l' : D'.length = C.length
  p : ∀ j, isP C j → ∃ c : Int, 0 < c ∧ th D' j = mul3 (tP T (th D j)) c
  n : ∀ j, isLn C j → ∃ c : Int, c ≠ 0 ∧ th D' j = mul3 (tL T (th D j)) c
theorem isn_mul (v k : Int) (h : k ≠ 0) : isnV (v * k) = isnV v := by
  rcases isnV_cases v with h1 | h1
  · rcases isnV_cases (v * k) with h2 | h2
    · rw [h1.1, h2.1]
    · rcases Int.mul_eq_zero.1 h2.2 with h3 | h3
      · exact absurd h3 h1.2
      · exact absurd h3 h
  · rw [h1.2]; simp
theorem gs_ne : T.g * ss T ≠ 0 := fun h => by
  rcases Int.mul_eq_zero.1 h with h | h
  · exact g_ne T h
  · have := ss_pos T; omega
theorem gss_ne : T.g * ss T * ss T ≠ 0 := fun h => by
  rcases Int.mul_eq_zero.1 h with h | h
  · exact gs_ne T h
  · have := ss_pos T; omega
theorem ss_ne : ss T ≠ 0 := by have := ss_pos T; omega
theorem m_ne {a b : Int} (h : a ≠ 0) (k : b ≠ 0) : a * b ≠ 0 := fun e => by
  rcases Int.mul_eq_zero.1 e with e | e
  · exact h e
  · exact k e
theorem p_ne {a : Int} (h : 0 < a) : a ≠ 0 := by omega
variable {T} {C : List Cmd} {D D' : List T3}
theorem isP_snoc {c : Cmd} {j : Nat} (h : isP (C ++ [c]) j) : isP C j ∨ (j = C.length ∧ srt c = 80) := by
  obtain ⟨hj, hs⟩ := h
  by_cases hl : j < C.length
  · exact .inl ⟨hl, by rwa [List.getElem_append_left hl] at hs⟩
  · have : j = C.length := by simp at hj; omega
    subst this
    exact .inr ⟨rfl, by simpa using hs⟩
theorem isL_snoc {c : Cmd} {j : Nat} (h : isLn (C ++ [c]) j) : isLn C j ∨ (j = C.length ∧ srt c = 76) := by
  obtain ⟨hj, hs⟩ := h
  by_cases hl : j < C.length
  · exact .inl ⟨hl, by rwa [List.getElem_append_left hl] at hs⟩
  · have : j = C.length := by simp at hj; omega
    subst this
    exact .inr ⟨rfl, by simpa using hs⟩
theorem Rel.ask (h : Rel T C D D') {c : Cmd} (hc : srt c = 63) : Rel T (C ++ [c]) (D ++ [t0]) (D' ++ [t0]) := by
  refine ⟨by simp [h.l], by simp [h.l'], fun j hj => ?_, fun j hj => ?_⟩
  · rcases isP_snoc hj with hj | hj
    · rw [th_snoc (by rw [h.l']; exact hj.1), th_snoc (by rw [h.l]; exact hj.1)]; exact h.p j hj
    · omega
  · rcases isL_snoc hj with hj | hj
    · rw [th_snoc (by rw [h.l']; exact hj.1), th_snoc (by rw [h.l]; exact hj.1)]; exact h.n j hj
    · omega
theorem sgn_mul_pos {e : Int} (h : e ≠ 0) : 0 < e * sgn e := sgn_pos h
theorem Rel.madeP (h : Rel T C D D') {c : Cmd} {m m' : T3} {e : Int} (hc : srt c = 80) (he : e ≠ 0) (hm : m' = mul3 (tP T m) e) : Rel T (C ++ [c]) (D ++ [mul3 m (facC m c)]) (D' ++ [mul3 m' (facC m' c)]) := by
  have f1 : facC m c = sgn m.w := by simp [facC, hc]
  have f2 : facC m' c = sgn m'.w := by simp [facC, hc]
  rw [f1, f2]
  refine ⟨by simp [h.l], by simp [h.l'], fun j hj => ?_, fun j hj => ?_⟩
  · rcases isP_snoc hj with hj | ⟨rfl, -⟩
    · rw [th_snoc (by rw [h.l']; exact hj.1), th_snoc (by rw [h.l]; exact hj.1)]; exact h.p j hj
    · refine ⟨e * sgn e, sgn_pos he, ?_⟩
      have e1 : th (D ++ [mul3 m (sgn m.w)]) C.length = mul3 m (sgn m.w) := by rw [← h.l]; exact th_last _ _
      have e2 : th (D' ++ [mul3 m' (sgn m'.w)]) C.length = mul3 m' (sgn m'.w) := by rw [← h.l']; exact th_last _ _
      rw [e1, e2, hm]
      exact keep_P T m e he
  · rcases isL_snoc hj with hj | hj
    · rw [th_snoc (by rw [h.l']; exact hj.1), th_snoc (by rw [h.l]; exact hj.1)]; exact h.n j hj
    · omega
theorem Rel.madeL (h : Rel T C D D') {c : Cmd} {m m' : T3} {e : Int} (hc : srt c = 76) (he : e ≠ 0) (hm : m' = mul3 (tL T m) e) : Rel T (C ++ [c]) (D ++ [mul3 m (facC m c)]) (D' ++ [mul3 m' (facC m' c)]) := by
  have f0 : ∀ v : T3, mul3 v (facC v c) = v := fun v => by simp [facC, hc, mul3]
  rw [f0, f0]
  refine ⟨by simp [h.l], by simp [h.l'], fun j hj => ?_, fun j hj => ?_⟩
  · rcases isP_snoc hj with hj | hj
    · rw [th_snoc (by rw [h.l']; exact hj.1), th_snoc (by rw [h.l]; exact hj.1)]; exact h.p j hj
    · omega
  · rcases isL_snoc hj with hj | ⟨rfl, -⟩
    · rw [th_snoc (by rw [h.l']; exact hj.1), th_snoc (by rw [h.l]; exact hj.1)]; exact h.n j hj
    · refine ⟨e, he, ?_⟩
      have e1 : th (D ++ [m]) C.length = m := by rw [← h.l]; exact th_last _ _
      have e2 : th (D' ++ [m']) C.length = m' := by rw [← h.l']; exact th_last _ _
      rw [e1, e2, hm]
theorem pos_iff_mul {v k : Int} (h : 0 < k) : 0 < v * k ↔ 0 < v := by
  constructor
  · intro hv
    rcases Int.lt_or_le 0 v with h1 | h1
    · exact h1
    · have := Int.mul_nonpos_of_nonpos_of_nonneg h1 (Int.le_of_lt h); omega
  · intro hv; exact Int.mul_pos hv h
end
def noCcw (r : List Cmd) : Prop := ∀ c ∈ r, ∀ a b d, c ≠ .ccw a b d
theorem sem_sim (T : Sim) (ins ins' : List Int) (n : Nat) (hI : ∀ j, 2 * j + 1 < n → inp ins' (2 * j) = T.a * inp ins (2 * j) - T.b * T.g * inp ins (2 * j + 1) + T.dx ∧ inp ins' (2 * j + 1) = T.b * inp ins (2 * j) + T.a * T.g * inp ins (2 * j + 1) + T.dy) (r : List Cmd) :
    ∀ (C : List Cmd) (W : List Nat) (D D' : List T3) (m k : Nat) (s : ByteArray), Rel T C D D' → Wf C W r → 2 * m + cntI r ≤ n → (T.g = 1 ∨ noCcw r) → semC ins' r k (2 * m) D' s = semC ins r k (2 * m) D s := by
  induction r with
  | nil => intros; rfl
  | cons c r ih =>
    intro C W D D' m k s h hwf hn hg
    obtain ⟨hok, -, hwr⟩ := hwf
    have hg' : T.g = 1 ∨ noCcw r := hg.imp id (fun H c hc => H c (List.mem_cons_of_mem _ hc))
    have hn' : 2 * m + insC c + cntI r ≤ n := by simp [cntI] at *; omega
    have gs := gs_ne T
    have gss := gss_ne T
    have sp := ss_pos T
    have sn := ss_ne T
    have gn := g_ne T
    cases c using Cmd.el with
    | pt =>
      obtain ⟨h1, h2⟩ := hI m (by simp [insC] at hn'; omega)
      have hm : valC D' ins' (2 * m) .pt = mul3 (tP T (valC D ins (2 * m) .pt)) 1 := T3.ext' (by simp [valC, mul3, tP, h1]) (by simp [valC, mul3, tP, h2]) (by simp [valC, mul3, tP])
      rw [sem_made (by decide) (by simp [stopC]), sem_made (by decide) (by simp [stopC])]
      exact ih _ _ _ _ (m + 1) _ _ (h.madeP rfl (by decide) hm) hwr (by simp [insC] at hn'; omega) hg'

    | mid a b =>
      obtain ⟨c1, k1, e1⟩ := h.p _ hok.1
      have n1 : c1 ≠ 0 := p_ne k1
      obtain ⟨c2, k2, e2⟩ := h.p _ hok.2
      have n2 : c2 ≠ 0 := p_ne k2
      have hm := (show valC D' ins' (2 * m) (.mid a b) = midV (mul3 (tP T (th D a)) c1) (mul3 (tP T (th D b)) c2) by simp only [valC, e1, e2]).trans (mid_P T _ _ c1 c2)
      have hne := m_ne n1 n2
      rw [sem_made (by simp [srt]) (by simp [stopC]), sem_made (by simp [srt]) (by simp [stopC])]
      exact ih _ _ _ _ m _ _ (h.madeP rfl hne hm) hwr hn' hg'

    | line a b =>
      obtain ⟨c1, k1, e1⟩ := h.p _ hok.1
      have n1 : c1 ≠ 0 := p_ne k1
      obtain ⟨c2, k2, e2⟩ := h.p _ hok.2
      have n2 : c2 ≠ 0 := p_ne k2
      have hm := (show valC D' ins' (2 * m) (.line a b) = crossV (mul3 (tP T (th D a)) c1) (mul3 (tP T (th D b)) c2) by simp only [valC, e1, e2]).trans (cross_P T _ _ c1 c2)
      have hne := m_ne n1 n2
      have hst : stopC (valC D' ins' (2 * m) (.line a b)) (.line a b) = stopC (valC D ins (2 * m) (.line a b)) (.line a b) * (c1 * c2 * (c1 * c2) * ss T) := by
        rw [hm]; exact sq_L T _ _
      have hne2 := m_ne (m_ne hne hne) sn
      by_cases h0 : stopC (valC D ins (2 * m) (.line a b)) (.line a b) = 0
      · rw [sem_stop (by simp [srt]) (by rw [hst, h0, Int.zero_mul]), sem_stop (by simp [srt]) h0]
      · rw [sem_made (by simp [srt]) (by rw [hst]; exact m_ne h0 hne2), sem_made (by simp [srt]) h0]
        exact ih _ _ _ _ m _ _ (h.madeL rfl hne hm) hwr hn' hg'

    | par p l =>
      obtain ⟨c1, k1, e1⟩ := h.p _ hok.1
      have n1 : c1 ≠ 0 := p_ne k1
      obtain ⟨c2, k2, e2⟩ := h.n _ hok.2
      have n2 : c2 ≠ 0 := k2
      have hm := (show valC D' ins' (2 * m) (.par p l) = parV (mul3 (tP T (th D p)) c1) (mul3 (tL T (th D l)) c2) by simp only [valC, e1, e2]).trans (par_PL T _ _ c1 c2)
      have hne := m_ne n1 n2
      rw [sem_made (by simp [srt]) (by simp [stopC]), sem_made (by simp [srt]) (by simp [stopC])]
      exact ih _ _ _ _ m _ _ (h.madeL rfl hne hm) hwr hn' hg'

    | perp p l =>
      obtain ⟨c1, k1, e1⟩ := h.p _ hok.1
      have n1 : c1 ≠ 0 := p_ne k1
      obtain ⟨c2, k2, e2⟩ := h.n _ hok.2
      have n2 : c2 ≠ 0 := k2
      have hm := (show valC D' ins' (2 * m) (.perp p l) = uprV (mul3 (tP T (th D p)) c1) (mul3 (tL T (th D l)) c2) by simp only [valC, e1, e2]).trans (upr_PL T _ _ c1 c2)
      have hne := m_ne (m_ne n1 n2) gn
      rw [sem_made (by simp [srt]) (by simp [stopC]), sem_made (by simp [srt]) (by simp [stopC])]
      exact ih _ _ _ _ m _ _ (h.madeL rfl hne hm) hwr hn' hg'

    | meet l m' =>
      obtain ⟨c1, k1, e1⟩ := h.n _ hok.1
      have n1 : c1 ≠ 0 := k1
      obtain ⟨c2, k2, e2⟩ := h.n _ hok.2
      have n2 : c2 ≠ 0 := k2
      have hm := (show valC D' ins' (2 * m) (.meet l m') = crossV (mul3 (tL T (th D l)) c1) (mul3 (tL T (th D m')) c2) by simp only [valC, e1, e2]).trans (cross_L T _ _ c1 c2)
      have hne := m_ne (m_ne n1 n2) gs
      have hst := (show stopC (valC D' ins' (2 * m) (.meet l m')) (.meet l m') = (valC D' ins' (2 * m) (.meet l m')).w from rfl).trans (congrArg T3.w hm)
      have hst := hst.trans (show _ = stopC (valC D ins (2 * m) (.meet l m')) (.meet l m') * _ from rfl)
      have hne2 := hne
      by_cases h0 : stopC (valC D ins (2 * m) (.meet l m')) (.meet l m') = 0
      · rw [sem_stop (by simp [srt]) (by rw [hst, h0, Int.zero_mul]), sem_stop (by simp [srt]) h0]
      · rw [sem_made (by simp [srt]) (by rw [hst]; exact m_ne h0 hne2), sem_made (by simp [srt]) h0]
        exact ih _ _ _ _ m _ _ (h.madeP rfl hne hm) hwr hn' hg'

    | foot p l =>
      obtain ⟨c1, k1, e1⟩ := h.p _ hok.1
      have n1 : c1 ≠ 0 := p_ne k1
      obtain ⟨c2, k2, e2⟩ := h.n _ hok.2
      have n2 : c2 ≠ 0 := k2
      have hm := (show valC D' ins' (2 * m) (.foot p l) = footV (mul3 (tP T (th D p)) c1) (mul3 (tL T (th D l)) c2) by simp only [valC, e1, e2]).trans (foot_PL T _ _ c1 c2)
      have hne := m_ne (m_ne (m_ne (m_ne n1 n2) gn) n2) gs
      rw [sem_made (by simp [srt]) (by simp [stopC]), sem_made (by simp [srt]) (by simp [stopC])]
      exact ih _ _ _ _ m _ _ (h.madeP rfl hne hm) hwr hn' hg'

    | mirror p l =>
      obtain ⟨c1, k1, e1⟩ := h.p _ hok.1
      have n1 : c1 ≠ 0 := p_ne k1
      obtain ⟨c2, k2, e2⟩ := h.n _ hok.2
      have n2 : c2 ≠ 0 := k2
      have hm := (show valC D' ins' (2 * m) (.mirror p l) = mirV (mul3 (tP T (th D p)) c1) (mul3 (tL T (th D l)) c2) by simp only [valC, e1, e2]).trans (mir_PL T _ _ c1 c2)
      have hne := m_ne (m_ne (m_ne (m_ne (m_ne n1 n2) gn) n2) gs) n1
      rw [sem_made (by simp [srt]) (by simp [stopC]), sem_made (by simp [srt]) (by simp [stopC])]
      exact ih _ _ _ _ m _ _ (h.madeP rfl hne hm) hwr hn' hg'

    | centre a b c =>
      obtain ⟨c1, k1, e1⟩ := h.p _ hok.1
      have n1 : c1 ≠ 0 := p_ne k1
      obtain ⟨c2, k2, e2⟩ := h.p _ hok.2.1
      have n2 : c2 ≠ 0 := p_ne k2
      obtain ⟨c3, k3, e3⟩ := h.p _ hok.2.2
      have n3 : c3 ≠ 0 := p_ne k3
      have hm := (show valC D' ins' (2 * m) (.centre a b c) = cenV (mul3 (tP T (th D a)) c1) (mul3 (tP T (th D b)) c2) (mul3 (tP T (th D c)) c3) by simp only [valC, e1, e2, e3]).trans (cen_P T _ _ _ c1 c2 c3)
      have hne := m_ne (m_ne (m_ne (m_ne (m_ne n1 n2) (m_ne n1 n2)) gn) (m_ne (m_ne (m_ne n1 n3) (m_ne n1 n3)) gn)) gs
      have hst := (show stopC (valC D' ins' (2 * m) (.centre a b c)) (.centre a b c) = (valC D' ins' (2 * m) (.centre a b c)).w from rfl).trans (congrArg T3.w hm)
      have hst := hst.trans (show _ = stopC (valC D ins (2 * m) (.centre a b c)) (.centre a b c) * _ from rfl)
      have hne2 := hne
      by_cases h0 : stopC (valC D ins (2 * m) (.centre a b c)) (.centre a b c) = 0
      · rw [sem_stop (by simp [srt]) (by rw [hst, h0, Int.zero_mul]), sem_stop (by simp [srt]) h0]
      · rw [sem_made (by simp [srt]) (by rw [hst]; exact m_ne h0 hne2), sem_made (by simp [srt]) h0]
        exact ih _ _ _ _ m _ _ (h.madeP rfl hne hm) hwr hn' hg'

    | same a b =>
      obtain ⟨c1, k1, e1⟩ := h.p _ hok.1
      have n1 : c1 ≠ 0 := p_ne k1
      obtain ⟨c2, k2, e2⟩ := h.p _ hok.2
      have n2 : c2 ≠ 0 := p_ne k2
      have ha : askC D' (.same a b) = askC D (.same a b) := by
        show isnV (samV (th D' a) (th D' b)) = isnV (samV (th D a) (th D b))
        rw [e1, e2, sam_P, isn_mul _ _ (m_ne (m_ne (m_ne n1 n2) (m_ne n1 n2)) sn)]
      rw [sem_ask (by simp [srt]), sem_ask (by simp [srt]), ha]
      exact ih _ _ _ _ m _ _ (h.ask rfl) hwr hn' hg'

    | col a b c =>
      obtain ⟨c1, k1, e1⟩ := h.p _ hok.1
      have n1 : c1 ≠ 0 := p_ne k1
      obtain ⟨c2, k2, e2⟩ := h.p _ hok.2.1
      have n2 : c2 ≠ 0 := p_ne k2
      obtain ⟨c3, k3, e3⟩ := h.p _ hok.2.2
      have n3 : c3 ≠ 0 := p_ne k3
      have ha : askC D' (.col a b c) = askC D (.col a b c) := by
        show isnV (volV (th D' a) (th D' b) (th D' c)) = isnV (volV (th D a) (th D b) (th D c))
        rw [e1, e2, e3, vol_P, isn_mul _ _ (m_ne (m_ne n3 (m_ne n1 n2)) gs)]
      rw [sem_ask (by simp [srt]), sem_ask (by simp [srt]), ha]
      exact ih _ _ _ _ m _ _ (h.ask rfl) hwr hn' hg'

    | con a b c d =>
      obtain ⟨c1, k1, e1⟩ := h.p _ hok.1
      have n1 : c1 ≠ 0 := p_ne k1
      obtain ⟨c2, k2, e2⟩ := h.p _ hok.2.1
      have n2 : c2 ≠ 0 := p_ne k2
      obtain ⟨c3, k3, e3⟩ := h.p _ hok.2.2.1
      have n3 : c3 ≠ 0 := p_ne k3
      obtain ⟨c4, k4, e4⟩ := h.p _ hok.2.2.2
      have n4 : c4 ≠ 0 := p_ne k4
      have ha : askC D' (.con a b c d) = askC D (.con a b c d) := by
        show isnV (rndV (th D' a) (th D' b) (th D' c) (th D' d)) = isnV (rndV (th D a) (th D b) (th D c) (th D d))
        rw [e1, e2, e3, e4, rnd_P, isn_mul _ _ (m_ne (m_ne (m_ne (m_ne (m_ne n1 n2) (m_ne n1 n2)) (m_ne (m_ne n1 n3) (m_ne n1 n3))) (m_ne (m_ne n1 n4) (m_ne n1 n4))) gss)]
      rw [sem_ask (by simp [srt]), sem_ask (by simp [srt]), ha]
      exact ih _ _ _ _ m _ _ (h.ask rfl) hwr hn' hg'

    | on p l =>
      obtain ⟨c1, k1, e1⟩ := h.p _ hok.1
      have n1 : c1 ≠ 0 := p_ne k1
      obtain ⟨c2, k2, e2⟩ := h.n _ hok.2
      have n2 : c2 ≠ 0 := k2
      have ha : askC D' (.on p l) = askC D (.on p l) := by
        show isnV (dotV (th D' p) (th D' l)) = isnV (dotV (th D p) (th D l))
        rw [e1, e2, dot_PL, isn_mul _ _ (m_ne (m_ne n1 n2) gs)]
      rw [sem_ask (by simp [srt]), sem_ask (by simp [srt]), ha]
      exact ih _ _ _ _ m _ _ (h.ask rfl) hwr hn' hg'

    | pll l m' =>
      obtain ⟨c1, k1, e1⟩ := h.n _ hok.1
      have n1 : c1 ≠ 0 := k1
      obtain ⟨c2, k2, e2⟩ := h.n _ hok.2
      have n2 : c2 ≠ 0 := k2
      have ha : askC D' (.pll l m') = askC D (.pll l m') := by
        show isnV ((th D' l).x * (th D' m').y - (th D' l).y * (th D' m').x) = isnV ((th D l).x * (th D m').y - (th D l).y * (th D m').x)
        rw [e1, e2, pll_L, isn_mul _ _ (m_ne (m_ne n1 n2) gs)]
      rw [sem_ask (by simp [srt]), sem_ask (by simp [srt]), ha]
      exact ih _ _ _ _ m _ _ (h.ask rfl) hwr hn' hg'

    | prp l m' =>
      obtain ⟨c1, k1, e1⟩ := h.n _ hok.1
      have n1 : c1 ≠ 0 := k1
      obtain ⟨c2, k2, e2⟩ := h.n _ hok.2
      have n2 : c2 ≠ 0 := k2
      have ha : askC D' (.prp l m') = askC D (.prp l m') := by
        show isnV ((th D' l).x * (th D' m').x + (th D' l).y * (th D' m').y) = isnV ((th D l).x * (th D m').x + (th D l).y * (th D m').y)
        rw [e1, e2, prp_L, isn_mul _ _ (m_ne (m_ne n1 n2) sn)]
      rw [sem_ask (by simp [srt]), sem_ask (by simp [srt]), ha]
      exact ih _ _ _ _ m _ _ (h.ask rfl) hwr hn' hg'

    | cc l m' n' =>
      obtain ⟨c1, k1, e1⟩ := h.n _ hok.1
      have n1 : c1 ≠ 0 := k1
      obtain ⟨c2, k2, e2⟩ := h.n _ hok.2.1
      have n2 : c2 ≠ 0 := k2
      obtain ⟨c3, k3, e3⟩ := h.n _ hok.2.2
      have n3 : c3 ≠ 0 := k3
      have ha : askC D' (.cc l m' n') = askC D (.cc l m' n') := by
        show isnV (volV (th D' l) (th D' m') (th D' n')) = isnV (volV (th D l) (th D m') (th D n'))
        rw [e1, e2, e3, vol_L, isn_mul _ _ (m_ne (m_ne (m_ne (m_ne n1 n2) gs) n3) gs)]
      rw [sem_ask (by simp [srt]), sem_ask (by simp [srt]), ha]
      exact ih _ _ _ _ m _ _ (h.ask rfl) hwr hn' hg'

    | ccw a b c =>
      obtain ⟨c1, k1, e1⟩ := h.p _ hok.1
      have n1 : c1 ≠ 0 := p_ne k1
      obtain ⟨c2, k2, e2⟩ := h.p _ hok.2.1
      have n2 : c2 ≠ 0 := p_ne k2
      obtain ⟨c3, k3, e3⟩ := h.p _ hok.2.2
      have n3 : c3 ≠ 0 := p_ne k3
      have g1 : T.g = 1 := hg.resolve_right (fun H => H _ List.mem_cons_self a b c rfl)
      have hk : 0 < c3 * (c1 * c2) * (T.g * ss T) := by rw [g1, Int.one_mul]; exact Int.mul_pos (Int.mul_pos k3 (Int.mul_pos k1 k2)) sp
      have ha : askC D' (.ccw a b c) = askC D (.ccw a b c) * (c3 * (c1 * c2) * (T.g * ss T)) := by
        show volV (th D' a) (th D' b) (th D' c) = volV (th D a) (th D b) (th D c) * _
        rw [e1, e2, e3, vol_P]
      rw [sem_ask (by simp [srt]), sem_ask (by simp [srt]), ha]
      simp only [pos_iff_mul hk]
      exact ih _ _ _ _ m _ _ (h.ask rfl) hwr hn' hg'
    | btw a b c =>
      obtain ⟨c1, k1, e1⟩ := h.p _ hok.1
      have n1 : c1 ≠ 0 := p_ne k1
      obtain ⟨c2, k2, e2⟩ := h.p _ hok.2.1
      have n2 : c2 ≠ 0 := p_ne k2
      obtain ⟨c3, k3, e3⟩ := h.p _ hok.2.2
      have n3 : c3 ≠ 0 := p_ne k3
      have hk : 0 < c2 * c1 * (c2 * c3) * ss T := Int.mul_pos (Int.mul_pos (Int.mul_pos k2 k1) (Int.mul_pos k2 k3)) sp
      have ha : askC D' (.btw a b c) = askC D (.btw a b c) * (c2 * c1 * (c2 * c3) * ss T) := by
        show btwV (th D' a) (th D' b) (th D' c) = btwV (th D a) (th D b) (th D c) * _
        unfold btwV
        rw [e1, e2, e3, vol_P, isn_mul _ _ (m_ne (m_ne n3 (m_ne n1 n2)) gs), dots_P]
        grind
      rw [sem_ask (by simp [srt]), sem_ask (by simp [srt]), ha]
      simp only [pos_iff_mul hk]
      exact ih _ _ _ _ m _ _ (h.ask rfl) hwr hn' hg'

theorem rel_nil (T : Sim) : Rel T [] [] [] := ⟨rfl, rfl, fun j h => by have := h.1; simp at this, fun j h => by have := h.1; simp at this⟩
theorem report_sim (T : Sim) (ins ins' : List Int) (r : List Cmd) (hI : ∀ j, 2 * j + 1 < cntI r → inp ins' (2 * j) = T.a * inp ins (2 * j) - T.b * T.g * inp ins (2 * j + 1) + T.dx ∧ inp ins' (2 * j + 1) = T.b * inp ins (2 * j) + T.a * T.g * inp ins (2 * j + 1) + T.dy) (hw : Wf [] [] r) (hg : T.g = 1 ∨ noCcw r) :
    semC ins' r 0 0 [] ⟨#[]⟩ = semC ins r 0 0 [] ⟨#[]⟩ := sem_sim T ins ins' _ hI r [] [] [] [] 0 0 _ (rel_nil T) hw (by omega) hg
end Go.Proofs.YtmnfndpbblpjiabGreatDoor.Pu

/- What the four sources of the plane's theorems tell. -/
namespace Go.Proofs.YtmnfndpbblpjiabGreatDoor.Pu

def pV (x y : Int) : T3 := ⟨x, y, 1⟩
theorem keep_pos {m : T3} {c : Cmd} (hc : srt c = 80) (h : 0 < m.w) : mul3 m (facC m c) = m := by
  have : sgn m.w = 1 := by rcases sgn_cases m.w with k | k | k <;> omega
  rw [facC, if_pos hc, this]
  exact T3.ext' (by simp [mul3]) (by simp [mul3]) (by simp [mul3])
theorem keep_line {m : T3} {c : Cmd} (hc : srt c = 76) : mul3 m (facC m c) = m := by
  rw [facC, if_neg (by omega)]
  exact T3.ext' (by simp [mul3]) (by simp [mul3]) (by simp [mul3])
section
variable {ins : List Int} {r : List Cmd} {k i : Nat} {D : List T3} {s : ByteArray}
theorem sem_pt : semC ins (.pt :: r) k i D s = semC ins r (k + 1) (i + 2) (D ++ [pV (inp ins i) (inp ins (i + 1))]) s := by
  rw [sem_made (by decide) (by simp [stopC]), keep_pos (by rfl) (by simp [valC])]; rfl
theorem sem_mid {a b : Nat} (h : 0 < (midV (th D a) (th D b)).w) : semC ins (.mid a b :: r) k i D s = semC ins r (k + 1) i (D ++ [midV (th D a) (th D b)]) s :=
  (sem_made (c := .mid a b) (by simp [srt]) (by simp [stopC])).trans (show semC ins r (k + 1) i (D ++ [mul3 (midV (th D a) (th D b)) (facC (midV (th D a) (th D b)) (.mid a b))]) s = _ by rw [keep_pos rfl h])
theorem sem_line {a b : Nat} (h : (crossV (th D a) (th D b)).x * (crossV (th D a) (th D b)).x + (crossV (th D a) (th D b)).y * (crossV (th D a) (th D b)).y ≠ 0) : semC ins (.line a b :: r) k i D s = semC ins r (k + 1) i (D ++ [crossV (th D a) (th D b)]) s :=
  (sem_made (c := .line a b) (by simp [srt]) h).trans (show semC ins r (k + 1) i (D ++ [mul3 (crossV (th D a) (th D b)) (facC (crossV (th D a) (th D b)) (.line a b))]) s = _ by rw [keep_line rfl])
theorem sem_line0 {a b : Nat} (h : (crossV (th D a) (th D b)).x * (crossV (th D a) (th D b)).x + (crossV (th D a) (th D b)).y * (crossV (th D a) (th D b)).y = 0) : semC ins (.line a b :: r) k i D s = s ++ ⟨#[115]⟩ ++ dec (k : Int) :=
  sem_stop (c := .line a b) (by simp [srt]) h
theorem sem_perp {a b : Nat} : semC ins (.perp a b :: r) k i D s = semC ins r (k + 1) i (D ++ [uprV (th D a) (th D b)]) s :=
  (sem_made (c := .perp a b) (by simp [srt]) (by simp [stopC])).trans (show semC ins r (k + 1) i (D ++ [mul3 (uprV (th D a) (th D b)) (facC (uprV (th D a) (th D b)) (.perp a b))]) s = _ by rw [keep_line rfl])
theorem sem_meet {a b : Nat} (h : (crossV (th D a) (th D b)).w ≠ 0) : semC ins (.meet a b :: r) k i D s = semC ins r (k + 1) i (D ++ [mul3 (crossV (th D a) (th D b)) (sgn (crossV (th D a) (th D b)).w)]) s :=
  sem_made (c := .meet a b) (by simp [srt]) h
theorem sem_meet0 {a b : Nat} (h : (crossV (th D a) (th D b)).w = 0) : semC ins (.meet a b :: r) k i D s = s ++ ⟨#[112]⟩ ++ dec (k : Int) :=
  sem_stop (c := .meet a b) (by simp [srt]) h
theorem sem_foot {a b : Nat} : semC ins (.foot a b :: r) k i D s = semC ins r (k + 1) i (D ++ [mul3 (footV (th D a) (th D b)) (sgn (footV (th D a) (th D b)).w)]) s :=
  sem_made (c := .foot a b) (by simp [srt]) (by simp [stopC])
theorem sem_mirror {a b : Nat} : semC ins (.mirror a b :: r) k i D s = semC ins r (k + 1) i (D ++ [mul3 (mirV (th D a) (th D b)) (sgn (mirV (th D a) (th D b)).w)]) s :=
  sem_made (c := .mirror a b) (by simp [srt]) (by simp [stopC])
def bitN (v : Int) : UInt8 := if v = 0 then 49 else 48
theorem isn_bit (v : Int) : (if 0 < isnV v then (49 : UInt8) else 48) = bitN v := by
  unfold bitN; rcases isnV_cases v with h | h <;> rw [h.1] <;> simp [h.2]
theorem sem_on {a b : Nat} : semC ins (.on a b :: r) k i D s = semC ins r (k + 1) i (D ++ [t0]) (s ++ ⟨#[bitN (dotV (th D a) (th D b))]⟩) := by
  rw [← isn_bit]; exact sem_ask (c := .on a b) rfl
theorem sem_con {a b c d : Nat} : semC ins (.con a b c d :: r) k i D s = semC ins r (k + 1) i (D ++ [t0]) (s ++ ⟨#[bitN (rndV (th D a) (th D b) (th D c) (th D d))]⟩) := by
  rw [← isn_bit]; exact sem_ask (c := .con a b c d) rfl
theorem sem_same {a b : Nat} : semC ins (.same a b :: r) k i D s = semC ins r (k + 1) i (D ++ [t0]) (s ++ ⟨#[bitN (samV (th D a) (th D b))]⟩) := by
  rw [← isn_bit]; exact sem_ask (c := .same a b) rfl
theorem sem_col {a b c : Nat} : semC ins (.col a b c :: r) k i D s = semC ins r (k + 1) i (D ++ [t0]) (s ++ ⟨#[bitN (volV (th D a) (th D b) (th D c))]⟩) := by
  rw [← isn_bit]; exact sem_ask (c := .col a b c) rfl
theorem sem_cc {a b c : Nat} : semC ins (.cc a b c :: r) k i D s = semC ins r (k + 1) i (D ++ [t0]) (s ++ ⟨#[bitN (volV (th D a) (th D b) (th D c))]⟩) := by
  rw [← isn_bit]; exact sem_ask (c := .cc a b c) rfl
theorem sem_ccw {a b c : Nat} : semC ins (.ccw a b c :: r) k i D s = semC ins r (k + 1) i (D ++ [t0]) (s ++ ⟨#[if 0 < volV (th D a) (th D b) (th D c) then 49 else 48]⟩) := sem_ask (c := .ccw a b c) rfl
theorem sem_btw {a b c : Nat} : semC ins (.btw a b c :: r) k i D s = semC ins r (k + 1) i (D ++ [t0]) (s ++ ⟨#[if 0 < btwV (th D a) (th D b) (th D c) then 49 else 48]⟩) := sem_ask (c := .btw a b c) rfl
end
theorem sq_zero {x y : Int} : x * x + y * y = 0 ↔ x = 0 ∧ y = 0 := by
  constructor
  · intro h
    have h1 := sq_nn x
    have h2 := sq_nn y
    exact ⟨by rcases Int.mul_eq_zero.1 (show x * x = 0 by omega) with h | h <;> exact h, by rcases Int.mul_eq_zero.1 (show y * y = 0 by omega) with h | h <;> exact h⟩
  · rintro ⟨rfl, rfl⟩; rfl
def medC : List Cmd := [.pt, .pt, .pt, .mid 1 2, .mid 2 0, .mid 0 1, .line 0 3, .line 1 4, .line 2 5, .cc 6 7 8]
theorem med_sem (ax ay bx bY cx cy : Int) : semC [ax, ay, bx, bY, cx, cy] medC 0 0 [] ⟨#[]⟩ =
    if 2 * ax = bx + cx ∧ 2 * ay = bY + cy then ⟨#[115, 54]⟩ else if 2 * bx = cx + ax ∧ 2 * bY = cy + ay then ⟨#[115, 55]⟩ else if 2 * cx = ax + bx ∧ 2 * cy = ay + bY then ⟨#[115, 56]⟩ else ⟨#[49]⟩ := by
  unfold medC
  rw [sem_pt, sem_pt, sem_pt, sem_mid (by simp [th, midV, pV]), sem_mid (by simp [th, midV, pV]), sem_mid (by simp [th, midV, pV])]
  simp only [List.nil_append, List.cons_append, inp, Nat.zero_add]
  have key : ∀ x y u v p q : Int, ((crossV (pV x y) (midV (pV u v) (pV p q))).x * (crossV (pV x y) (midV (pV u v) (pV p q))).x + (crossV (pV x y) (midV (pV u v) (pV p q))).y * (crossV (pV x y) (midV (pV u v) (pV p q))).y = 0) ↔ (2 * x = u + p ∧ 2 * y = v + q) := fun x y u v p q => by
    rw [sq_zero]; simp only [crossV, midV, pV]; omega
  by_cases h6 : 2 * ax = bx + cx ∧ 2 * ay = bY + cy
  · rw [if_pos h6]; refine (sem_line0 ?_).trans rfl; exact (key ax ay bx bY cx cy).2 h6
  rw [if_neg h6]
  refine (sem_line ?_).trans ?_
  · exact fun e => h6 ((key ax ay bx bY cx cy).1 e)
  by_cases h7 : 2 * bx = cx + ax ∧ 2 * bY = cy + ay
  · rw [if_pos h7]; refine (sem_line0 ?_).trans rfl; exact (key bx bY cx cy ax ay).2 h7
  rw [if_neg h7]
  refine (sem_line ?_).trans ?_
  · exact fun e => h7 ((key bx bY cx cy ax ay).1 e)
  by_cases h8 : 2 * cx = ax + bx ∧ 2 * cy = ay + bY
  · rw [if_pos h8]; refine (sem_line0 ?_).trans rfl; exact (key cx cy ax ay bx bY).2 h8
  rw [if_neg h8]
  refine (sem_line ?_).trans ?_
  · exact fun e => h8 ((key cx cy ax ay bx bY).1 e)
  refine sem_cc.trans ?_
  have hv : volV (crossV (pV ax ay) (midV (pV bx bY) (pV cx cy))) (crossV (pV bx bY) (midV (pV cx cy) (pV ax ay))) (crossV (pV cx cy) (midV (pV ax ay) (pV bx bY))) = 0 := by
    simp only [volV, dotV, crossV, midV, pV]; grind
  show ByteArray.empty ++ ⟨#[bitN (volV (crossV (pV ax ay) (midV (pV bx bY) (pV cx cy))) (crossV (pV bx bY) (midV (pV cx cy) (pV ax ay))) (crossV (pV cx cy) (midV (pV ax ay) (pV bx bY))))]⟩ = _
  rw [hv]; rfl
end Go.Proofs.YtmnfndpbblpjiabGreatDoor.Pu

/- What the sources of Heights, Chord, Nine and Sides tell. -/
namespace Go.Proofs.YtmnfndpbblpjiabGreatDoor.Pu

theorem line_key (x y u v : Int) : ((crossV (pV x y) (pV u v)).x * (crossV (pV x y) (pV u v)).x + (crossV (pV x y) (pV u v)).y * (crossV (pV x y) (pV u v)).y = 0) ↔ (x = u ∧ y = v) := by
  rw [sq_zero]; simp only [crossV, pV]; omega
def hgtC : List Cmd := [.pt, .pt, .pt, .line 1 2, .line 2 0, .line 0 1, .perp 0 3, .perp 1 4, .perp 2 5, .cc 6 7 8, .meet 6 7, .on 10 8]
theorem hgt_sem (ax ay bx bY cx cy : Int) : semC [ax, ay, bx, bY, cx, cy] hgtC 0 0 [] ⟨#[]⟩ =
    if bx = cx ∧ bY = cy then ⟨#[115, 51]⟩ else if cx = ax ∧ cy = ay then ⟨#[115, 52]⟩ else if ax = bx ∧ ay = bY then ⟨#[115, 53]⟩ else if (bx - ax) * (cy - ay) = (bY - ay) * (cx - ax) then ⟨#[49, 112, 49, 48]⟩ else ⟨#[49, 49]⟩ := by
  unfold hgtC
  rw [sem_pt, sem_pt, sem_pt]
  simp only [List.nil_append, List.cons_append, inp, Nat.zero_add]
  by_cases h3 : bx = cx ∧ bY = cy
  · rw [if_pos h3]; refine (sem_line0 ?_).trans rfl; exact (line_key bx bY cx cy).2 h3
  rw [if_neg h3]
  refine (sem_line ?_).trans ?_
  · exact fun e => h3 ((line_key bx bY cx cy).1 e)
  by_cases h4 : cx = ax ∧ cy = ay
  · rw [if_pos h4]; refine (sem_line0 ?_).trans rfl; exact (line_key cx cy ax ay).2 h4
  rw [if_neg h4]
  refine (sem_line ?_).trans ?_
  · exact fun e => h4 ((line_key cx cy ax ay).1 e)
  by_cases h5 : ax = bx ∧ ay = bY
  · rw [if_pos h5]; refine (sem_line0 ?_).trans rfl; exact (line_key ax ay bx bY).2 h5
  rw [if_neg h5]
  refine (sem_line ?_).trans ?_
  · exact fun e => h5 ((line_key ax ay bx bY).1 e)
  refine sem_perp.trans (sem_perp.trans (sem_perp.trans (sem_cc.trans ?_)))
  let u := uprV (pV ax ay) (crossV (pV bx bY) (pV cx cy))
  let v := uprV (pV bx bY) (crossV (pV cx cy) (pV ax ay))
  let w := uprV (pV cx cy) (crossV (pV ax ay) (pV bx bY))
  have hv : volV u v w = 0 := by
    simp only [u, v, w, volV, dotV, uprV, parV, crossV, pV]; grind
  have hw : (crossV u v).w = (bx - ax) * (cy - ay) - (bY - ay) * (cx - ax) := by
    simp only [u, v, uprV, parV, crossV, pV]; grind
  by_cases hf : (bx - ax) * (cy - ay) = (bY - ay) * (cx - ax)
  · rw [if_pos hf]
    refine (sem_meet0 ?_).trans ?_
    · exact hw.trans (by omega)
    show ByteArray.empty ++ ⟨#[bitN (volV u v w)]⟩ ++ ⟨#[112]⟩ ++ dec 10 = _
    rw [hv]; rfl
  · rw [if_neg hf]
    refine (sem_meet ?_).trans (sem_on.trans ?_)
    · exact fun e => hf (by have : (crossV u v).w = 0 := e; omega)
    have hd : dotV (mul3 (crossV u v) (sgn (crossV u v).w)) w = 0 := by
      have e : dotV (mul3 (crossV u v) (sgn (crossV u v).w)) w = volV u v w * sgn (crossV u v).w := by
        simp only [volV, dotV, mul3]; grind
      rw [e, hv, Int.zero_mul]
    show ByteArray.empty ++ ⟨#[bitN (volV u v w)]⟩ ++ ⟨#[bitN (dotV (mul3 (crossV u v) (sgn (crossV u v).w)) w)]⟩ = _
    rw [hv, hd]; rfl
theorem rnd_scale (a b c d : T3) (f : Int) : rndV a b c (mul3 d f) = rndV a b c d * (f * f) := by
  simp only [rndV, volV, dotV, crossV, lifV, wayV, mul3]; grind
theorem sam_scale (a d : T3) (f : Int) : samV a (mul3 d f) = samV a d * (f * f) := by
  simp only [samV, wayV, mul3]; grind
theorem sgn_sq {x : Int} (h : x ≠ 0) : sgn x * sgn x = 1 := by rcases sgn_cases x with k | k | k <;> rw [k.1] <;> omega
def chdC : List Cmd := [.pt, .pt, .pt, .mid 0 1, .line 0 1, .perp 3 4, .mirror 2 5, .con 0 1 2 6, .same 2 6]
theorem chd_sem (ax ay bx bY cx cy : Int) : semC [ax, ay, bx, bY, cx, cy] chdC 0 0 [] ⟨#[]⟩ =
    if ax = bx ∧ ay = bY then ⟨#[115, 52]⟩ else if (cx - ax) * (cx - ax) + (cy - ay) * (cy - ay) = (cx - bx) * (cx - bx) + (cy - bY) * (cy - bY) then ⟨#[49, 49]⟩ else ⟨#[49, 48]⟩ := by
  unfold chdC
  rw [sem_pt, sem_pt, sem_pt, sem_mid (by simp [th, midV, pV])]
  simp only [List.nil_append, List.cons_append, inp, Nat.zero_add]
  by_cases h4 : ax = bx ∧ ay = bY
  · rw [if_pos h4]; refine (sem_line0 ?_).trans rfl; exact (line_key ax ay bx bY).2 h4
  rw [if_neg h4]
  refine (sem_line ?_).trans ?_
  · exact fun e => h4 ((line_key ax ay bx bY).1 e)
  refine sem_perp.trans (sem_mirror.trans (sem_con.trans (sem_same.trans ?_)))
  let d := mirV (pV cx cy) (uprV (midV (pV ax ay) (pV bx bY)) (crossV (pV ax ay) (pV bx bY)))
  obtain ⟨X, hX⟩ : ∃ X, X = bx - ax := ⟨_, rfl⟩
  obtain ⟨Y, hY⟩ : ∃ Y, Y = bY - ay := ⟨_, rfl⟩
  obtain ⟨U, hU⟩ : ∃ U, U = cx - ax := ⟨_, rfl⟩
  obtain ⟨V, hV⟩ : ∃ V, V = cy - ay := ⟨_, rfl⟩
  obtain ⟨n, hn⟩ : ∃ n, n = X * X + Y * Y := ⟨_, rfl⟩
  obtain ⟨t, ht⟩ : ∃ t, t = U * X + V * Y := ⟨_, rfl⟩
  have e1 : (wayV (pV ax ay) d).x = 4 * (n * U + (n - 2 * t) * X) := by
    subst hn ht hX hY hU hV; simp only [d, wayV, mirV, footV, uprV, parV, crossV, midV, pV]; grind
  have e2 : (wayV (pV ax ay) d).y = 4 * (n * V + (n - 2 * t) * Y) := by
    subst hn ht hX hY hU hV; simp only [d, wayV, mirV, footV, uprV, parV, crossV, midV, pV]; grind
  have e3 : (wayV (pV ax ay) d).w = 4 * n := by
    subst hn ht hX hY hU hV; simp only [d, wayV, mirV, footV, uprV, parV, crossV, midV, pV]; grind
  have e4 : (wayV (pV cx cy) d).x = 4 * ((n - 2 * t) * X) := by
    subst hn ht hX hY hU hV; simp only [d, wayV, mirV, footV, uprV, parV, crossV, midV, pV]; grind
  have e5 : (wayV (pV cx cy) d).y = 4 * ((n - 2 * t) * Y) := by
    subst hn ht hX hY hU hV; simp only [d, wayV, mirV, footV, uprV, parV, crossV, midV, pV]; grind
  have ew : d.w = 4 * n := by
    subst hn ht hX hY hU hV; simp only [d, mirV, footV, uprV, parV, crossV, midV, pV]; grind
  have hXY : ¬ (X = 0 ∧ Y = 0) := fun ⟨p, q⟩ => h4 (by omega)
  have hn0 : n ≠ 0 := fun e => hXY (sq_zero.1 (by rw [← hn]; exact e))
  have hs := sgn_sq (x := d.w) (by rw [ew]; omega)
  have hr : rndV (pV ax ay) (pV bx bY) (pV cx cy) (mul3 d (sgn d.w)) = 0 := by
    have h0 : rndV (pV ax ay) (pV bx bY) (pV cx cy) d = 0 := by
      have hb : lifV (wayV (pV ax ay) (pV bx bY)) = ⟨X, Y, X * X + Y * Y⟩ := T3.ext' (by subst hX; simp [lifV, wayV, pV]) (by subst hY; simp [lifV, wayV, pV]) (by subst hX hY; simp [lifV, wayV, pV])
      have hc : lifV (wayV (pV ax ay) (pV cx cy)) = ⟨U, V, U * U + V * V⟩ := T3.ext' (by subst hU; simp [lifV, wayV, pV]) (by subst hV; simp [lifV, wayV, pV]) (by subst hU hV; simp [lifV, wayV, pV])
      unfold rndV
      rw [hb, hc]
      simp only [volV, dotV, crossV, lifV]
      rw [e1, e2, e3, hn, ht]
      grind
    rw [rnd_scale, h0, Int.zero_mul]
  have hm : samV (pV cx cy) (mul3 d (sgn d.w)) = 16 * ((n - 2 * t) * (n - 2 * t) * n) := by
    rw [sam_scale, hs]; unfold samV; rw [e4, e5, hn]; grind
  show ByteArray.empty ++ ⟨#[bitN (rndV (pV ax ay) (pV bx bY) (pV cx cy) (mul3 d (sgn d.w)))]⟩ ++ ⟨#[bitN (samV (pV cx cy) (mul3 d (sgn d.w)))]⟩ = _
  rw [hr, hm]
  have hpq : (cx - ax) * (cx - ax) + (cy - ay) * (cy - ay) - ((cx - bx) * (cx - bx) + (cy - bY) * (cy - bY)) = 2 * t - n := by
    subst hn ht hX hY hU hV; grind
  by_cases hq : (cx - ax) * (cx - ax) + (cy - ay) * (cy - ay) = (cx - bx) * (cx - bx) + (cy - bY) * (cy - bY)
  · rw [if_pos hq, show n - 2 * t = 0 by omega, Int.zero_mul, Int.zero_mul, Int.mul_zero]; rfl
  · have hne : 16 * ((n - 2 * t) * (n - 2 * t) * n) ≠ 0 := m_ne (by decide) (m_ne (m_ne (by omega) (by omega)) hn0)
    rw [if_neg hq, show bitN (16 * ((n - 2 * t) * (n - 2 * t) * n)) = 48 from if_neg hne]; rfl
def ninC : List Cmd := [.pt, .pt, .pt, .mid 1 2, .mid 2 0, .mid 0 1, .line 1 2, .foot 0 6, .con 3 4 5 7]
theorem nin_sem (ax ay bx bY cx cy : Int) : semC [ax, ay, bx, bY, cx, cy] ninC 0 0 [] ⟨#[]⟩ = if bx = cx ∧ bY = cy then ⟨#[115, 54]⟩ else ⟨#[49]⟩ := by
  unfold ninC
  rw [sem_pt, sem_pt, sem_pt, sem_mid (by simp [th, midV, pV]), sem_mid (by simp [th, midV, pV]), sem_mid (by simp [th, midV, pV])]
  simp only [List.nil_append, List.cons_append, inp, Nat.zero_add]
  by_cases h6 : bx = cx ∧ bY = cy
  · rw [if_pos h6]; refine (sem_line0 ?_).trans rfl; exact (line_key bx bY cx cy).2 h6
  rw [if_neg h6]
  refine (sem_line ?_).trans ?_
  · exact fun e => h6 ((line_key bx bY cx cy).1 e)
  refine sem_foot.trans (sem_con.trans ?_)
  let d := midV (pV bx bY) (pV cx cy)
  let f := footV (pV ax ay) (crossV (pV bx bY) (pV cx cy))
  obtain ⟨X, hX⟩ : ∃ X, X = cx - bx := ⟨_, rfl⟩
  obtain ⟨Y, hY⟩ : ∃ Y, Y = cy - bY := ⟨_, rfl⟩
  obtain ⟨U, hU⟩ : ∃ U, U = ax - bx := ⟨_, rfl⟩
  obtain ⟨V, hV⟩ : ∃ V, V = ay - bY := ⟨_, rfl⟩
  have e1 : (wayV d f).x = (2 * (U * X + V * Y) - (X * X + Y * Y)) * X := by
    subst hX hY hU hV; simp only [d, f, wayV, footV, uprV, parV, crossV, midV, pV]; grind
  have e2 : (wayV d f).y = (2 * (U * X + V * Y) - (X * X + Y * Y)) * Y := by
    subst hX hY hU hV; simp only [d, f, wayV, footV, uprV, parV, crossV, midV, pV]; grind
  have e3 : (wayV d f).w = 2 * (X * X + Y * Y) := by
    subst hX hY hU hV; simp only [d, f, wayV, footV, uprV, parV, crossV, midV, pV]; grind
  have hb : lifV (wayV d (midV (pV cx cy) (pV ax ay))) = ⟨8 * U, 8 * V, 4 * (U * U + V * V)⟩ := by
    refine T3.ext' ?_ ?_ ?_ <;> (subst hX hY hU hV; simp only [d, lifV, wayV, midV, pV]; grind)
  have hc : lifV (wayV d (midV (pV ax ay) (pV bx bY))) = ⟨8 * (U - X), 8 * (V - Y), 4 * ((U - X) * (U - X) + (V - Y) * (V - Y))⟩ := by
    refine T3.ext' ?_ ?_ ?_ <;> (subst hX hY hU hV; simp only [d, lifV, wayV, midV, pV]; grind)
  have hr : rndV d (midV (pV cx cy) (pV ax ay)) (midV (pV ax ay) (pV bx bY)) (mul3 f (sgn f.w)) = 0 := by
    have h0 : rndV d (midV (pV cx cy) (pV ax ay)) (midV (pV ax ay) (pV bx bY)) f = 0 := by
      unfold rndV
      rw [hb, hc]
      simp only [volV, dotV, crossV, lifV]
      rw [e1, e2, e3]
      grind
    rw [rnd_scale, h0, Int.zero_mul]
  show ByteArray.empty ++ ⟨#[bitN (rndV d (midV (pV cx cy) (pV ax ay)) (midV (pV ax ay) (pV bx bY)) (mul3 f (sgn f.w)))]⟩ = _
  rw [hr]; rfl
def sidC : List Cmd := [.pt, .pt, .pt, .col 0 1 2, .ccw 0 1 2, .ccw 2 1 0, .btw 0 1 2]
def bitP (b : Bool) : UInt8 := if b then 49 else 48
theorem sid_sem (ax ay bx bY cx cy : Int) : semC [ax, ay, bx, bY, cx, cy] sidC 0 0 [] ⟨#[]⟩ =
    ⟨#[bitP (decide ((bx - ax) * (cy - ay) - (bY - ay) * (cx - ax) = 0)), bitP (decide ((bx - ax) * (cy - ay) - (bY - ay) * (cx - ax) > 0)), bitP (decide ((bx - ax) * (cy - ay) - (bY - ay) * (cx - ax) < 0)), bitP (decide ((bx - ax) * (cy - ay) - (bY - ay) * (cx - ax) = 0) && decide ((ax - bx) * (cx - bx) + (ay - bY) * (cy - bY) < 0))]⟩ := by
  unfold sidC
  rw [sem_pt, sem_pt, sem_pt]
  simp only [List.nil_append, List.cons_append, inp, Nat.zero_add]
  refine sem_col.trans (sem_ccw.trans (sem_ccw.trans (sem_btw.trans ?_)))
  obtain ⟨t, ht⟩ : ∃ t, t = (bx - ax) * (cy - ay) - (bY - ay) * (cx - ax) := ⟨_, rfl⟩
  obtain ⟨d, hd⟩ : ∃ d, d = (ax - bx) * (cx - bx) + (ay - bY) * (cy - bY) := ⟨_, rfl⟩
  have e1 : volV (pV ax ay) (pV bx bY) (pV cx cy) = t := by subst ht; simp only [volV, dotV, crossV, pV]; grind
  have e2 : volV (pV cx cy) (pV bx bY) (pV ax ay) = -t := by subst ht; simp only [volV, dotV, crossV, pV]; grind
  have e3 : btwV (pV ax ay) (pV bx bY) (pV cx cy) = isnV t * (0 - d) := by
    unfold btwV; rw [e1]; subst hd; simp only [wayV, pV]; grind
  show ByteArray.empty ++ ⟨#[bitN (volV (pV ax ay) (pV bx bY) (pV cx cy))]⟩ ++ ⟨#[if 0 < volV (pV ax ay) (pV bx bY) (pV cx cy) then 49 else 48]⟩ ++ ⟨#[if 0 < volV (pV cx cy) (pV bx bY) (pV ax ay) then 49 else 48]⟩ ++ ⟨#[if 0 < btwV (pV ax ay) (pV bx bY) (pV cx cy) then 49 else 48]⟩ = _
  rw [e1, e2, e3, ← ht, ← hd]
  have b1 : bitN t = bitP (decide (t = 0)) := by by_cases h : t = 0 <;> simp [bitN, bitP, h]
  have b2 : (if 0 < t then (49 : UInt8) else 48) = bitP (decide (t > 0)) := by by_cases h : 0 < t <;> simp [bitP, h]
  have b3 : (if 0 < -t then (49 : UInt8) else 48) = bitP (decide (t < 0)) := by
    by_cases h : t < 0
    · rw [if_pos (by omega)]; simp [bitP, h]
    · rw [if_neg (by omega)]; simp [bitP, h]
  have b4 : (if 0 < isnV t * (0 - d) then (49 : UInt8) else 48) = bitP (decide (t = 0) && decide (d < 0)) := by
    rcases isnV_cases t with h | h
    · rw [h.1]; simp [bitP, h.2]
    · rw [h.1, Int.one_mul]
      by_cases k : d < 0
      · rw [if_pos (by omega)]; simp [bitP, h.2, k]
      · rw [if_neg (by omega)]; simp [bitP, k]
  rw [b1, b2, b3, b4]
  rfl
end Go.Proofs.YtmnfndpbblpjiabGreatDoor.Pu

/- Weights and faults: plain functions over the statements ahead and their weights. -/
import Derived.Test.YtmnfndpbblpjiabGreatDoorZb05
namespace Go.Proofs.YtmnfndpbblpjiabGreatDoor.Pu

def sts (p : List (St × Nat)) : List St := p.map Prod.fst
theorem sts_len (p : List (St × Nat)) : (sts p).length = p.length := by simp [sts]
def who (p : List (St × Nat)) (nm : Nat) : Option (St × Nat) := p.find? (fun y => y.1.name == nm)
def argW (p : List (St × Nat)) (nm : Nat) : Nat := ((who p nm).map Prod.snd).getD 0
def argWord (p : List (St × Nat)) (nm : Nat) : List UInt8 := ((who p nm).map (fun y => y.1.word)).getD []

theorem who_of {p : List (St × Nat)} {nm k : Nat} (hk : k < p.length) (h : gvI (sts p) nm = (k : Int)) : who p nm = some p[k] := by
  rcases gvI_cases (sts p) nm with ⟨h1, _⟩ | ⟨k', hk', h1, h2, h3⟩
  · omega
  · have : k' = k := by omega
    subst this
    unfold who
    rw [List.find?_eq_some_iff_getElem]
    refine ⟨by simpa [sts] using h2, k', hk, rfl, fun j hj => ?_⟩
    simpa [sts] using h3 j hj
theorem given_lt {p : List (St × Nat)} {nm : Nat} (h : gvI (sts p) nm ≠ -1) : ∃ k, ∃ hk : k < p.length, gvI (sts p) nm = (k : Int) ∧ p[k].1.name = nm := by
  rcases gvI_cases (sts p) nm with ⟨h1, _⟩ | ⟨k', hk', h1, h2, h3⟩
  · exact absurd h1 h
  · exact ⟨k', by simpa [sts] using hk', h1, by simpa [sts] using h2⟩

def sumW (p : List (St × Nat)) (ag : List UInt8) : Nat := (ag.map fun a => argW p a.toNat).sum
def lastW (p : List (St × Nat)) (ag : List UInt8) : Nat := (ag.getLast?.map fun a => argW p a.toNat).getD 0
theorem sumW_snoc (p : List (St × Nat)) (ag : List UInt8) (a : UInt8) : sumW p (ag ++ [a]) = sumW p ag + argW p a.toNat := by simp [sumW]
theorem lastW_snoc (p : List (St × Nat)) (ag : List UInt8) (a : UInt8) : lastW p (ag ++ [a]) = argW p a.toNat := by simp [lastW]
def wgh (p : List (St × Nat)) (x : St) : Nat := if x.name = 0 then 0 else wG x.word (sumW p x.args) (lastW p x.args)

/-- The arguments are names that are given; the name isn't. -/
def namesOk (l : List St) (x : St) : Bool := x.args.all (fun a => gvI l a.toNat != -1) && (x.name == 0 || gvI l x.name == -1)
/-- The sorts, by what the document's table says of the givers' words. -/
def sortsOk (p : List (St × Nat)) (ag so : List UInt8) : Bool := (ag.zip so).all fun y => (fm (argWord p y.1.toNat)).2 == y.2.toNat
def sortsOkG (p : List (St × Nat)) (ag so : List UInt8) : Bool := (ag.zip so).all fun y => sG (argWord p y.1.toNat) == y.2.toNat
def known (x : St) : Bool := (fm x.word).2 != 0 && (decide ((fm x.word).2 = 63) == decide (x.name = 0))

def err (p : List (St × Nat)) (x : St) : Nat :=
  if known x = false then 3
  else if x.args.length ≠ (fm x.word).1.length then 4
  else if namesOk (sts p) x = false then 5
  else if sortsOk p x.args (fm x.word).1 = false then 6
  else if 64 < wgh p x then 7
  else 0

/-- All are right, and bear their weights. -/
def Ok (p : List (St × Nat)) : Prop := ∀ j (hj : j < p.length), err (p.take j) p[j].1 = 0 ∧ p[j].2 = wgh (p.take j) p[j].1
theorem Ok.nil : Ok [] := fun j hj => by simp at hj
theorem Ok.snoc {p : List (St × Nat)} {x : St} (h : Ok p) (he : err p x = 0) : Ok (p ++ [(x, wgh p x)]) := by
  intro j hj
  by_cases hl : j < p.length
  · have := h j hl
    rw [List.take_append_of_le_length (by omega), List.getElem_append_left hl]
    exact this
  · have : j = p.length := by simp at hj; omega
    subst this
    simp [he]

theorem err_zero {p : List (St × Nat)} {x : St} (h : err p x = 0) : known x = true ∧ x.args.length = (fm x.word).1.length ∧ namesOk (sts p) x = true ∧ sortsOk p x.args (fm x.word).1 = true ∧ wgh p x ≤ 64 := by
  unfold err at h
  by_cases h1 : known x = false
  · simp [h1] at h
  · by_cases h2 : x.args.length ≠ (fm x.word).1.length
    · simp [h1, h2] at h
    · by_cases h3 : namesOk (sts p) x = false
      · simp [h1, h2, h3] at h
      · by_cases h4 : sortsOk p x.args (fm x.word).1 = false
        · simp [h1, h2, h3, h4] at h
        · by_cases h5 : 64 < wgh p x
          · simp [h1, h2, h3, h4, h5] at h
          · exact ⟨by simpa using h1, by simpa using h2, by simpa using h3, by simpa using h4, by omega⟩

theorem Ok.weight {p : List (St × Nat)} (h : Ok p) {j : Nat} (hj : j < p.length) : p[j].2 ≤ 64 := by
  obtain ⟨h1, h2⟩ := h j hj
  rw [h2]; exact (err_zero h1).2.2.2.2
theorem Ok.argW {p : List (St × Nat)} (h : Ok p) (nm : Nat) : argW p nm ≤ 64 := by
  unfold Pu.argW who
  cases hf : p.find? (fun y => y.1.name == nm) with
  | none => simp
  | some y =>
    obtain ⟨j, hj, rfl⟩ := List.getElem_of_mem (List.mem_of_find?_eq_some hf)
    simpa using h.weight hj
theorem Ok.sumW {p : List (St × Nat)} (h : Ok p) (ag : List UInt8) : sumW p ag ≤ 64 * ag.length := by
  induction ag with
  | nil => simp [Pu.sumW]
  | cons a ag ih =>
    have := h.argW a.toNat
    simp only [Pu.sumW, List.map_cons, List.sum_cons, List.length_cons] at *
    omega
theorem Ok.lastW {p : List (St × Nat)} (h : Ok p) (ag : List UInt8) : lastW p ag ≤ 64 := by
  unfold Pu.lastW
  cases ag.getLast? with
  | none => simp
  | some a => simpa using h.argW a.toNat

theorem fm_len (w : List UInt8) : (fm w).1.length ≤ 4 := by
  have key : ∀ (b : Bool) (x y : List UInt8 × Nat), x.1.length ≤ 4 → y.1.length ≤ 4 → (if b then x else y).1.length ≤ 4 := fun b x y hx hy => by cases b <;> simp [hx, hy]
  unfold fm
  repeat' (refine key _ _ _ ?_ ?_)
  all_goals decide

/-- Where names are letters both tables of sorts say the same. -/
theorem sorts_same {p : List (St × Nat)} (h : Ok p) {ag so : List UInt8} (hg : ∀ a ∈ ag, gvI (sts p) a.toNat ≠ -1) (hz : ∀ a ∈ ag, a.toNat ≠ 0) : sortsOkG p ag so = sortsOk p ag so := by
  unfold sortsOkG sortsOk
  rw [Bool.eq_iff_iff, List.all_eq_true, List.all_eq_true]
  have key : ∀ y ∈ ag.zip so, sG (argWord p y.1.toNat) = (fm (argWord p y.1.toNat)).2 := by
    intro y hy
    have ha : y.1 ∈ ag := (List.of_mem_zip hy).1
    obtain ⟨k, hk, h1, h2⟩ := given_lt (hg _ ha)
    have hw := who_of hk h1
    have hword : argWord p y.1.toNat = p[k].1.word := by simp [argWord, hw]
    have hkn := (err_zero (h k hk).1).1
    unfold known at hkn
    have hn0 : p[k].1.name ≠ 0 := by rw [h2]; exact hz _ ha
    simp [hn0] at hkn
    rw [hword]
    exact sG_fm _ hkn.2 hkn.1
  constructor
  · intro H y hy; rw [← key y hy]; exact H y hy
  · intro H y hy; rw [key y hy]; exact H y hy

end Go.Proofs.YtmnfndpbblpjiabGreatDoor.Pu

/- Codes, plainly: what is left by Shrink is right, is left as it is, and tells the same. -/
namespace Go.Proofs.YtmnfndpbblpjiabGreatDoor.Pu

/-- The needed steps, and what is wanted ahead of them. -/
def sh : List Stp → List Stp × (Nat → Bool)
  | [] => ([], fun _ => false)
  | t :: l => if pN t (sh l).2 then (t :: (sh l).1, wAhead t (sh l).2) else sh l
theorem sh_yes {t : Stp} {l : List Stp} (h : pN t (sh l).2 = true) : sh (t :: l) = (t :: (sh l).1, wAhead t (sh l).2) := by simp [sh, h]
theorem sh_no {t : Stp} {l : List Stp} (h : pN t (sh l).2 = false) : sh (t :: l) = sh l := by simp [sh, h]
theorem ninv_sh (l : List Stp) : ∀ d, d ≤ l.length → ∃ nd, NInv l (l.length - d) nd (sh (l.drop (l.length - d))).2 := by
  intro d
  induction d with
  | zero => intro _; exact ⟨_, by simpa [sh] using NInv.start l⟩
  | succ d ih =>
    intro hd
    obtain ⟨nd, h⟩ := ih (by omega)
    have hk : l.length - (d + 1) < l.length := by omega
    have e1 : l.length - d = l.length - (d + 1) + 1 := by omega
    rw [e1] at h
    rw [List.drop_eq_getElem_cons hk]
    cases hp : pN l[l.length - (d + 1)] (sh (l.drop (l.length - (d + 1) + 1))).2 with
    | true => exact ⟨_, by rw [sh_yes hp]; exact h.yes hk hp⟩
    | false => exact ⟨_, by rw [sh_no hp]; exact h.no hk hp⟩
theorem need_sh {l : List Stp} {k : Nat} (hk : k < l.length) : (neededL l)[k]? = some (pN l[k] (sh (l.drop (k + 1))).2) := by
  obtain ⟨nd, h⟩ := ninv_sh l (l.length - (k + 1)) (by omega)
  rw [show l.length - (l.length - (k + 1)) = k + 1 by omega] at h
  exact h.val hk
theorem keep_sh (l : List Stp) : ∀ d, d ≤ l.length → keepTo l (neededL l) (l.length - d) ++ (sh (l.drop (l.length - d))).1 = keepTo l (neededL l) l.length := by
  intro d
  induction d with
  | zero => intro _; simp [sh]
  | succ d ih =>
    intro hd
    rw [← ih (by omega)]
    have hk : l.length - (d + 1) < l.length := by omega
    have hn := need_sh hk
    have e1 : l.length - d = l.length - (d + 1) + 1 := by omega
    rw [List.drop_eq_getElem_cons hk, e1]
    simp only [keepTo, hn, Option.getD_some]
    cases hp : pN l[l.length - (d + 1)] (sh (l.drop (l.length - (d + 1) + 1))).2 with
    | true => rw [sh_yes hp]; simp [hk]
    | false => rw [sh_no hp]; simp
theorem kept_sh (l : List Stp) : keepTo l (neededL l) l.length = (sh l).1 := by
  have := keep_sh l l.length (Nat.le_refl _)
  simpa [keepTo] using this.symm
theorem sh_idem (l : List Stp) : sh (sh l).1 = sh l := by
  induction l with
  | nil => rfl
  | cons t l ih =>
    cases hp : pN t (sh l).2 with
    | true =>
      rw [sh_yes hp]
      show sh (t :: (sh l).1) = _
      rw [sh_yes (by rw [ih]; exact hp), ih]
    | false => rw [sh_no hp]; exact ih
theorem sh_mem {l : List Stp} : ∀ t ∈ (sh l).1, t ∈ l := by
  induction l with
  | nil => intro t h; cases h
  | cons u l ih =>
    intro t h
    cases hp : pN u (sh l).2 with
    | true =>
      rw [sh_yes hp] at h
      rcases List.mem_cons.1 h with h | h
      · subst h; simp
      · simp [ih t h]
    | false => rw [sh_no hp] at h; simp [ih t h]
theorem sh_len (l : List Stp) : (sh l).1.length ≤ l.length := by
  induction l with
  | nil => exact Nat.le_refl _
  | cons u l ih =>
    cases hp : pN u (sh l).2 with
    | true => rw [sh_yes hp]; simpa using ih
    | false => rw [sh_no hp]; simp; omega

theorem reg_set {R : List Int} {x r : Nat} {v : Int} : reg (R.set x v) r = if r = x ∧ x < R.length then v else reg R r := by
  unfold reg
  rw [List.getElem?_set]
  by_cases h : x = r
  · subst h
    by_cases h2 : x < R.length
    · simp [h2]
    · simp [h2]
  · rw [if_neg h, if_neg (fun e => h e.1.symm)]
theorem val_same {t : Stp} {R R' ins : List Int} (h : ∀ r ∈ readsOf t, reg R r = reg R' r) (hop : t.op < 6) : valOf t R' ins = valOf t R ins := by
  obtain ⟨op, x, y, z⟩ := t
  simp only at hop
  have : op = 0 ∨ op = 1 ∨ op = 2 ∨ op = 3 ∨ op = 4 ∨ op = 5 := by omega
  rcases this with rfl | rfl | rfl | rfl | rfl | rfl <;> simp [valOf, readsOf] at h ⊢
  · rw [h.1, h.2]
  · rw [h.1, h.2]
  · rw [h.1, h.2]
  · rw [h]
theorem play_sh {B : Nat} {ins : List Int} (l : List Stp) : ∀ (R R' : List Int) (s : ByteArray), R.length = R'.length → (∀ r, (sh l).2 r = true → reg R r = reg R' r) → (play B ins l R s).2 ≠ 10 → play B ins (sh l).1 R' s = play B ins l R s := by
  induction l with
  | nil => intro R R' s _ _ _; rfl
  | cons t l ih =>
    intro R R' s hl hr hp
    by_cases h6 : t.op < 6
    · by_cases hb : B ≤ (valOf t R ins).natAbs
      · rw [play_big h6 hb] at hp; exact absurd rfl hp
      · rw [play_set h6 hb] at hp ⊢
        cases hn : pN t (sh l).2 with
        | true =>
          rw [sh_yes hn] at hr ⊢
          have hv : valOf t R' ins = valOf t R ins := val_same (fun r h => hr r ((wAhead_iff _ _ _).2 (.inl h))) h6
          rw [play_set h6 (by rw [hv]; exact hb), hv]
          refine ih _ _ s (by simpa using hl) (fun r h => ?_) hp
          rw [reg_set, reg_set, ← hl]
          by_cases e : r = t.x
          · by_cases e2 : t.x < R.length
            · simp [e, e2]
            · have : ¬ t.x < R'.length := by omega
              simp [e, reg, List.getElem?_eq_none (Nat.le_of_not_lt e2), List.getElem?_eq_none (Nat.le_of_not_lt this)]
          · simp only [e, false_and, if_false]
            exact hr r ((wAhead_iff _ _ _).2 (.inr ⟨h, fun h => e h.2⟩))
        | false =>
          rw [sh_no hn] at hr ⊢
          refine ih _ _ s (by simpa using hl) (fun r h => ?_) hp
          rw [reg_set]
          have hx : r ≠ t.x := fun e => by
            simp [pN] at hn; rw [← e] at hn; rw [h] at hn; simp at hn
          simp only [hx, false_and, if_false]
          exact hr r h
    · have hn : pN t (sh l).2 = true := by simp [pN]; omega
      rw [sh_yes hn] at hr ⊢
      have hx : reg R t.x = reg R' t.x := hr _ ((wAhead_iff _ _ _).2 (.inl (by simp [readsOf, show 6 ≤ t.op by omega])))
      have hr' : ∀ r, (sh l).2 r = true → reg R r = reg R' r := fun r h => hr r ((wAhead_iff _ _ _).2 (.inr ⟨h, fun h => by omega⟩))
      by_cases e6 : t.op = 6
      · rw [play_out e6] at hp ⊢
        rw [play_out e6, ← hx]
        exact ih _ _ _ hl hr' hp
      · by_cases h0 : reg R t.x = 0
        · rw [play_end (by omega) h0, play_end (by omega) (by rw [← hx]; exact h0)]
        · rw [play_on (by omega) h0] at hp ⊢
          rw [play_on (by omega) (by rw [← hx]; exact h0)]
          exact ih _ _ _ hl hr' hp

/-- Right steps behind those that have set M. -/
def okL (regs ins : Nat) : (Nat → Bool) → List Stp → Prop
  | _, [] => True
  | M, t :: l => properB t regs ins = true ∧ (∀ r ∈ readsOf t, r < regs ∧ M r = true) ∧ okL regs ins (if t.op ≤ 5 then upd t.x true M else M) l
theorem right_iff (l : List Stp) (k : Nat) (t : Stp) (regs ins : Nat) : rightB l k t regs ins = true ↔ properB t regs ins = true ∧ ∀ r ∈ readsOf t, r < regs ∧ Set l k r = true := by
  unfold rightB Set
  simp [List.all_eq_true]
theorem set_next {l : List Stp} {k : Nat} (hk : k < l.length) : Set l (k + 1) = if l[k].op ≤ 5 then upd l[k].x true (Set l k) else Set l k := by
  by_cases h : l[k].op ≤ 5
  · rw [if_pos h, Set_yes hk h]; rfl
  · rw [if_neg h, Set_no hk h]
theorem okL_from (l : List Stp) (regs ins : Nat) : ∀ d, d ≤ l.length → ((∀ j (h : j < l.length), l.length - d ≤ j → rightB l j l[j] regs ins = true) ↔ okL regs ins (Set l (l.length - d)) (l.drop (l.length - d))) := by
  intro d
  induction d with
  | zero => intro _; simp [okL]; intro j h1 h2; omega
  | succ d ih =>
    intro hd
    have hk : l.length - (d + 1) < l.length := by omega
    have e1 : l.length - d = l.length - (d + 1) + 1 := by omega
    have ih := ih (by omega)
    rw [e1] at ih
    rw [List.drop_eq_getElem_cons hk]
    unfold okL
    rw [← set_next hk, ← ih, ← and_assoc, ← right_iff]
    constructor
    · intro h; exact ⟨h _ hk (Nat.le_refl _), fun j h1 h2 => h j h1 (by omega)⟩
    · rintro ⟨h1, h2⟩ j hj hd2
      by_cases e : j = l.length - (d + 1)
      · subst e; exact h1
      · exact h2 j hj (by omega)
theorem okL_iff (l : List Stp) (regs ins : Nat) : (∀ j (h : j < l.length), rightB l j l[j] regs ins = true) ↔ okL regs ins (fun _ => false) l := by
  have := okL_from l regs ins l.length (Nat.le_refl _)
  simp only [Nat.sub_self, Nat.zero_le, forall_const, List.drop_zero, Set_zero] at this
  exact this
theorem okL_want {regs ins : Nat} (l : List Stp) : ∀ M, okL regs ins M l → ∀ r, (sh l).2 r = true → M r = true := by
  induction l with
  | nil => intro M _ r h; cases h
  | cons t l ih =>
    rintro M ⟨hp, hr, hl⟩ r h
    have hk := ih _ hl r
    have key : (sh l).2 r = true → ¬ (t.op ≤ 5 ∧ r = t.x) → M r = true := fun h1 h2 => by
      have := hk h1
      by_cases h5 : t.op ≤ 5
      · rw [if_pos h5] at this
        unfold upd at this
        rwa [if_neg (fun e => h2 ⟨h5, e⟩)] at this
      · rwa [if_neg h5] at this
    cases hn : pN t (sh l).2 with
    | true =>
      rw [sh_yes hn] at h
      rcases (wAhead_iff _ _ _).1 h with h | h
      · exact (hr r h).2
      · exact key h.1 h.2
    | false =>
      rw [sh_no hn] at h
      refine key h (fun e => ?_)
      simp [pN] at hn
      rw [← e.2, h] at hn
      simp at hn
theorem okL_sh {regs ins : Nat} (l : List Stp) : ∀ M M', okL regs ins M l → (∀ r, (sh l).2 r = true → M' r = true) → okL regs ins M' (sh l).1 := by
  induction l with
  | nil => intro M M' _ _; trivial
  | cons t l ih =>
    rintro M M' ⟨hp, hr, hl⟩ h
    cases hn : pN t (sh l).2 with
    | true =>
      rw [sh_yes hn] at h ⊢
      refine ⟨hp, fun r hm => ⟨(hr r hm).1, h r ((wAhead_iff _ _ _).2 (.inl hm))⟩, ih _ _ hl (fun r hw => ?_)⟩
      by_cases h5 : t.op ≤ 5
      · rw [if_pos h5]
        unfold upd
        by_cases e : r = t.x
        · rw [if_pos e]
        · rw [if_neg e]; exact h r ((wAhead_iff _ _ _).2 (.inr ⟨hw, fun h => e h.2⟩))
      · rw [if_neg h5]; exact h r ((wAhead_iff _ _ _).2 (.inr ⟨hw, fun h => h5 h.1⟩))
    | false =>
      rw [sh_no hn] at h ⊢
      exact ih _ _ hl h

/-- A list's bytes as a text. -/
theorem g_list (l : List UInt8) (i : Nat) : g ⟨l.toArray⟩ i = (l[i]?.getD 0).toNat := by
  unfold g bt
  have hs : (⟨l.toArray⟩ : ByteArray).size = l.length := by simp [ByteArray.size]
  by_cases h : i < l.length
  · rw [dif_pos (by rw [hs]; exact h)]
    rw [List.getElem?_eq_getElem h]
    rfl
  · rw [dif_neg (by rw [hs]; exact h), List.getElem?_eq_none (by omega)]
    rfl
theorem flat_len (q : List Stp) : (q.flatMap stB).length = 4 * q.length := by
  induction q with
  | nil => rfl
  | cons t q ih => simp [ih, stB]; omega
theorem flat_at (q : List Stp) : ∀ k (h : k < q.length) j, j < 4 → (q.flatMap stB)[4 * k + j]? = (stB q[k])[j]? := by
  induction q with
  | nil => intro k h; simp at h
  | cons t q ih =>
    intro k h j hj
    rw [List.flatMap_cons]
    have hl : (stB t).length = 4 := rfl
    cases k with
    | zero => rw [List.getElem?_append_left (by rw [hl]; omega)]; simp
    | succ k =>
      rw [List.getElem?_append_right (by rw [hl]; omega), hl, show 4 * (k + 1) + j - 4 = 4 * k + j by omega]
      rw [ih k (by simpa using h) j hj]
      rfl
theorem u8n {n : Nat} (h : n < 256) : (UInt8.ofNat n).toNat = n := UInt8.toNat_ofNat_of_lt' (by simpa using h)
section
variable {r i : Nat} {q : List Stp}
theorem join_size : (⟨(joined r i q).toArray⟩ : ByteArray).size = 6 + 4 * q.length := by
  show ((joined r i q).toArray).size = _
  simp only [joined, List.size_toArray, List.length_append, flat_len, List.length_cons, List.length_nil]
theorem join_nst : nst ⟨(joined r i q).toArray⟩ = q.length := by unfold nst; rw [join_size]; omega
theorem join_step (hs : ∀ t ∈ q, Small t) {k : Nat} (hk : k < q.length) : stepAt ⟨(joined r i q).toArray⟩ k = q[k] := by
  have h0 := hs _ (List.getElem_mem hk)
  have key : ∀ j, j < 4 → g ⟨(joined r i q).toArray⟩ (6 + 4 * k + j) = ((stB q[k])[j]?.getD 0).toNat := fun j hj => by
    rw [g_list]
    unfold joined
    rw [List.getElem?_append_right (by simp; omega), show 6 + 4 * k + j - List.length [82, 85, UInt8.ofNat r, UInt8.ofNat i, UInt8.ofNat (q.length % 256), UInt8.ofNat (q.length / 256)] = 4 * k + j by simp; omega, flat_at q k hk j hj]
  have k0 := key 0 (by omega)
  have k1 := key 1 (by omega)
  have k2 := key 2 (by omega)
  have k3 := key 3 (by omega)
  rw [Nat.add_zero] at k0
  unfold stepAt
  rw [k0, k1, k2, k3]
  obtain ⟨a, b, c, d⟩ := h0
  cases hq : q[k] with
  | mk op x y z =>
    rw [hq] at a b c d
    simp [stB]
    exact ⟨a, b, c, d⟩
theorem join_steps (hs : ∀ t ∈ q, Small t) : steps ⟨(joined r i q).toArray⟩ = q := by
  apply List.ext_getElem
  · rw [steps, stepsTo_len, join_nst]
  · intro k h1 h2
    rw [steps_at]
    exact join_step hs h2
theorem join_g (j : Nat) (hj : j < 6) : g ⟨(joined r i q).toArray⟩ j = (([82, 85, UInt8.ofNat r, UInt8.ofNat i, UInt8.ofNat (q.length % 256), UInt8.ofNat (q.length / 256)] : List UInt8)[j]?.getD 0).toNat := by
  rw [g_list]; unfold joined; rw [List.getElem?_append_left (by simpa using hj)]
theorem join_r (hr : r < 256) : g ⟨(joined r i q).toArray⟩ 2 = r := by rw [join_g 2 (by omega)]; exact u8n hr
theorem join_i (hi : i < 256) : g ⟨(joined r i q).toArray⟩ 3 = i := by rw [join_g 3 (by omega)]; exact u8n hi
theorem join_begun (h1 : 1 ≤ r) (h2 : r ≤ 128) (h3 : i ≤ 32) (hq : q.length ≤ 2000) : begunB ⟨(joined r i q).toArray⟩ = true := by
  have e0 : g ⟨(joined r i q).toArray⟩ 0 = 82 := by rw [join_g 0 (by omega)]; rfl
  have e1 : g ⟨(joined r i q).toArray⟩ 1 = 85 := by rw [join_g 1 (by omega)]; rfl
  have e4 : g ⟨(joined r i q).toArray⟩ 4 = q.length % 256 := by rw [join_g 4 (by omega)]; exact u8n (by omega)
  have e5 : g ⟨(joined r i q).toArray⟩ 5 = q.length / 256 := by rw [join_g 5 (by omega)]; exact u8n (by omega)
  unfold begunB
  rw [e0, e1, e4, e5, join_r (by omega), join_i (by omega), join_size]
  simp only [Bool.and_eq_true, decide_eq_true_eq]
  exact ⟨⟨⟨⟨⟨⟨by omega, trivial, trivial⟩, h1⟩, h2⟩, h3⟩, by omega⟩, by omega⟩
theorem join_vfy (h1 : 1 ≤ r) (h2 : r ≤ 128) (h3 : i ≤ 32) (hq : q.length ≤ 2000) (hs : ∀ t ∈ q, Small t) (ho : okL r i (fun _ => false) q) : vfy ⟨(joined r i q).toArray⟩ = (0, 0) := by
  have hr := (okL_iff q r i).2 ho
  refine vfy_ok (join_begun h1 h2 h3 hq) (fun j hj => ?_)
  rw [join_nst] at hj
  rw [join_steps hs, join_step hs hj, join_r (by omega), join_i (by omega)]
  exact hr j hj
end
theorem vfy_okL {s : ByteArray} (hv : vfy s = (0, 0)) (hb : begunB s = true) : okL (g s 2) (g s 3) (fun _ => false) (steps s) := by
  rw [← okL_iff]
  intro j hj
  have hj' : j < nst s := by rw [steps, stepsTo_len] at hj; exact hj
  cases h : rightB (steps s) j (steps s)[j] (g s 2) (g s 3) with
  | true => rfl
  | false =>
    exfalso
    have h2 : (List.range (nst s)).find? (fun k => !rightB (steps s) k (stepAt s k) (g s 2) (g s 3)) ≠ none := by
      rw [Ne, List.find?_eq_none]
      intro H
      have := H j (by simpa using hj')
      rw [steps_at] at h
      simp [h] at this
    unfold vfy at hv
    rw [hb] at hv
    simp only [Bool.true_eq_false, if_false] at hv
    split at hv
    · cases hv
    · rename_i he; exact h2 he
/-- What is left of a right code. -/
structure Left (s : ByteArray) : Prop where
  size : (shr s).size ≤ s.size
  head : (shr s).extract 0 4 = s.extract 0 4
  vfy : vfy (shr s) = (0, 0)
  again : shr (shr s) = shr s
  same : ∀ (B : Nat) (inp : ByteArray), (exe B s inp).2 ≠ 10 → exe B (shr s) inp = exe B s inp
theorem left_any {s : ByteArray} (hv : vfy s = (0, 0)) (hb : begunB s = true) : Left s := by
  have hj := shr_joined hb
  have hn : (steps s).length = nst s := stepsTo_len s _
  rw [← hn, kept_sh] at hj
  obtain ⟨h6, -, h2000, hsz, hr1, hr2, hi⟩ := nst_of hb
  have hlen : (sh (steps s)).1.length ≤ nst s := by rw [← hn]; exact sh_len _
  have hsm : ∀ t ∈ (sh (steps s)).1, Small t := fun t ht => steps_small s t (sh_mem t ht)
  have hok := vfy_okL hv hb
  have hok2 : okL (g s 2) (g s 3) (fun _ => false) (sh (steps s)).1 := okL_sh _ _ _ hok (okL_want _ _ hok)
  have hv2 : Pu.vfy (shr s) = (0, 0) := by rw [hj]; exact join_vfy hr1 hr2 hi (by omega) hsm hok2
  have hst : steps (shr s) = (sh (steps s)).1 := by rw [hj]; exact join_steps hsm
  have hg2 : g (shr s) 2 = g s 2 := by rw [hj]; exact join_r (by omega)
  have hg3 : g (shr s) 3 = g s 3 := by rw [hj]; exact join_i (by omega)
  have hb2 : begunB (shr s) = true := by rw [hj]; exact join_begun hr1 hr2 hi (by omega)
  refine ⟨?_, ?_, hv2, ?_, fun B inp h => ?_⟩
  · rw [hj, join_size]; omega
  · have e : (shr s).extract 0 4 = (s.extract 0 4 ++ (⟨#[UInt8.ofNat (cntTo (neededL (steps s)) (nst s) % 256), UInt8.ofNat (cntTo (neededL (steps s)) (nst s) / 256)]⟩ ++ bodyTo s (neededL (steps s)) (nst s))).extract 0 4 := by
      unfold shr; rw [ByteArray.append_assoc]
    rw [e]
    have h4 : (s.extract 0 4).size = 4 := by rw [ByteArray.size_extract]; omega
    rw [ByteArray.extract_append_eq_left h4.symm]
  · have hj2 := shr_joined hb2
    have hn2 : (steps (shr s)).length = nst (shr s) := stepsTo_len _ _
    rw [← hn2, kept_sh, hst, sh_idem, hg2, hg3, ← hj] at hj2
    exact hj2
  · unfold exe at *
    rw [hv] at h ⊢
    rw [hv2, hst, hg3]
    simp only [ne_eq, not_true_eq_false, if_false] at h ⊢
    cases hin : inps inp with
    | none => rfl
    | some ins =>
      rw [hin] at h
      simp only at h ⊢
      by_cases hl : ins.length = g s 3
      · simp only [hl, not_true_eq_false, if_false] at h ⊢
        exact play_sh _ _ _ _ rfl (fun _ _ => rfl) h
      · simp [hl]
end Go.Proofs.YtmnfndpbblpjiabGreatDoor.Pu

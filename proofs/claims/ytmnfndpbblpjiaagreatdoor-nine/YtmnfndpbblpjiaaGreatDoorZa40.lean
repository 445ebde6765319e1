/- Codes, plainly: what is left by Shrink is right, is left as it is, and tells the same. -/
import Derived.Test.YtmnfndpbblpjiaaGreatDoorZa12
import Derived.Test.YtmnfndpbblpjiaaGreatDoorZa38
import Derived.Test.YtmnfndpbblpjiaaGreatDoorZa01
namespace Go.Proofs.YtmnfndpbblpjiaaGreatDoor.Pu
/-- The needed steps, and what is wanted ahead of them. -/
def sh : List Stp → List Stp × (Nat → Bool)
  | [] => ([], fun _ => false)
  | t :: l => if pN t (sh l).2 then (t :: (sh l).1, wAhead t (sh l).2) else sh l
theorem sh_yes {t : Stp} {l : List Stp} (h : pN t (sh l).2 = true) : sh (t :: l) = (t :: (sh l).1, wAhead t (sh l).2) := by simp [sh, h]
theorem sh_no {t : Stp} {l : List Stp} (h : pN t (sh l).2 = false) : sh (t :: l) = sh l := by simp [sh, h]
theorem ninv_sh (l : List Stp) : ∀ d, d ≤ l.length → ∃ nd, NInv l (l.length - d) nd (sh (l.drop (l.length - d))).2 := by
  intro d
  induction d with
  | zero => intro _; exact ⟨_, by simpa [sh] using NInv.start l⟩
  | succ d ih =>
    intro hd
    obtain ⟨nd, h⟩ := ih (by omega)
    have hk : l.length - (d + 1) < l.length := by omega
    have e1 : l.length - d = l.length - (d + 1) + 1 := by omega
    rw [e1] at h
    rw [List.drop_eq_getElem_cons hk]
    cases hp : pN l[l.length - (d + 1)] (sh (l.drop (l.length - (d + 1) + 1))).2 with
    | true => exact ⟨_, by rw [sh_yes hp]; exact h.yes hk hp⟩
    | false => exact ⟨_, by rw [sh_no hp]; exact h.no hk hp⟩
theorem need_sh {l : List Stp} {k : Nat} (hk : k < l.length) : (neededL l)[k]? = some (pN l[k] (sh (l.drop (k + 1))).2) := by
  obtain ⟨nd, h⟩ := ninv_sh l (l.length - (k + 1)) (by omega)
  rw [show l.length - (l.length - (k + 1)) = k + 1 by omega] at h
  exact h.val hk
theorem keep_sh (l : List Stp) : ∀ d, d ≤ l.length → keepTo l (neededL l) (l.length - d) ++ (sh (l.drop (l.length - d))).1 = keepTo l (neededL l) l.length := by
  intro d
  induction d with
  | zero => intro _; simp [sh]
  | succ d ih =>
    intro hd
    rw [← ih (by omega)]
    have hk : l.length - (d + 1) < l.length := by omega
    have hn := need_sh hk
    have e1 : l.length - d = l.length - (d + 1) + 1 := by omega
    rw [List.drop_eq_getElem_cons hk, e1]
    simp only [keepTo, hn, Option.getD_some]
    cases hp : pN l[l.length - (d + 1)] (sh (l.drop (l.length - (d + 1) + 1))).2 with
    | true => rw [sh_yes hp]; simp [hk]
    | false => rw [sh_no hp]; simp
theorem kept_sh (l : List Stp) : keepTo l (neededL l) l.length = (sh l).1 := by
  have := keep_sh l l.length (Nat.le_refl _)
  simpa [keepTo] using this.symm
theorem sh_idem (l : List Stp) : sh (sh l).1 = sh l := by
  induction l with
  | nil => rfl
  | cons t l ih =>
    cases hp : pN t (sh l).2 with
    | true =>
      rw [sh_yes hp]
      show sh (t :: (sh l).1) = _
      rw [sh_yes (by rw [ih]; exact hp), ih]
    | false => rw [sh_no hp]; exact ih
theorem sh_mem {l : List Stp} : ∀ t ∈ (sh l).1, t ∈ l := by
  induction l with
  | nil => intro t h; cases h
  | cons u l ih =>
    intro t h
    cases hp : pN u (sh l).2 with
    | true =>
      rw [sh_yes hp] at h
      rcases List.mem_cons.1 h with h | h
      · subst h; simp
      · simp [ih t h]
    | false => rw [sh_no hp] at h; simp [ih t h]
theorem sh_len (l : List Stp) : (sh l).1.length ≤ l.length := by
  induction l with
  | nil => exact Nat.le_refl _
  | cons u l ih =>
    cases hp : pN u (sh l).2 with
    | true => rw [sh_yes hp]; simpa using ih
    | false => rw [sh_no hp]; simp; omega
theorem reg_set {R : List Int} {x r : Nat} {v : Int} : reg (R.set x v) r = if r = x ∧ x < R.length then v else reg R r := by
  unfold reg
  rw [List.getElem?_set]
  by_cases h : x = r
  · subst h
    by_cases h2 : x < R.length
    · simp [h2]
    · simp [h2]
  · rw [if_neg h, if_neg (fun e => h e.1.symm)]
theorem val_same {t : Stp} {R R' ins : List Int} (h : ∀ r ∈ readsOf t, reg R r = reg R' r) (hop : t.op < 6) : valOf t R' ins = valOf t R ins := by
  obtain ⟨op, x, y, z⟩ := t
  simp only at hop
  have : op = 0 ∨ op = 1 ∨ op = 2 ∨ op = 3 ∨ op = 4 ∨ op = 5 := by omega
  rcases this with rfl | rfl | rfl | rfl | rfl | rfl <;> simp [valOf, readsOf] at h ⊢
  · rw [h.1, h.2]
  · rw [h.1, h.2]
  · rw [h.1, h.2]
  · rw [h]
theorem play_sh {B : Nat} {ins : List Int} (l : List Stp) : ∀ (R R' : List Int) (s : ByteArray), R.length = R'.length → (∀ r, (sh l).2 r = true → reg R r = reg R' r) → (play B ins l R s).2 ≠ 10 → play B ins (sh l).1 R' s = play B ins l R s := by
  induction l with
  | nil => intro R R' s _ _ _; rfl
  | cons t l ih =>
    intro R R' s hl hr hp
    by_cases h6 : t.op < 6
    · by_cases hb : B ≤ (valOf t R ins).natAbs
      · rw [play_big h6 hb] at hp; exact absurd rfl hp
      · rw [play_set h6 hb] at hp ⊢
        cases hn : pN t (sh l).2 with
        | true =>
          rw [sh_yes hn] at hr ⊢
          have hv : valOf t R' ins = valOf t R ins := val_same (fun r h => hr r ((wAhead_iff _ _ _).2 (.inl h))) h6
          rw [play_set h6 (by rw [hv]; exact hb), hv]
          refine ih _ _ s (by simpa using hl) (fun r h => ?_) hp
          rw [reg_set, reg_set, ← hl]
          by_cases e : r = t.x
          · by_cases e2 : t.x < R.length
            · simp [e, e2]
            · have : ¬ t.x < R'.length := by omega
              simp [e, reg, List.getElem?_eq_none (Nat.le_of_not_lt e2), List.getElem?_eq_none (Nat.le_of_not_lt this)]
          · simp only [e, false_and, if_false]
            exact hr r ((wAhead_iff _ _ _).2 (.inr ⟨h, fun h => e h.2⟩))
        | false =>
          rw [sh_no hn] at hr ⊢
          refine ih _ _ s (by simpa using hl) (fun r h => ?_) hp
          rw [reg_set]
          have hx : r ≠ t.x := fun e => by
            simp [pN] at hn; rw [← e] at hn; rw [h] at hn; simp at hn
          simp only [hx, false_and, if_false]
          exact hr r h
    · have hn : pN t (sh l).2 = true := by simp [pN]; omega
      rw [sh_yes hn] at hr ⊢
      have hx : reg R t.x = reg R' t.x := hr _ ((wAhead_iff _ _ _).2 (.inl (by simp [readsOf, show 6 ≤ t.op by omega])))
      have hr' : ∀ r, (sh l).2 r = true → reg R r = reg R' r := fun r h => hr r ((wAhead_iff _ _ _).2 (.inr ⟨h, fun h => by omega⟩))
      by_cases e6 : t.op = 6
      · rw [play_out e6] at hp ⊢
        rw [play_out e6, ← hx]
        exact ih _ _ _ hl hr' hp
      · by_cases h0 : reg R t.x = 0
        · rw [play_end (by omega) h0, play_end (by omega) (by rw [← hx]; exact h0)]
        · rw [play_on (by omega) h0] at hp ⊢
          rw [play_on (by omega) (by rw [← hx]; exact h0)]
          exact ih _ _ _ hl hr' hp
/-- Right steps behind those that have set M. -/
def okL (regs ins : Nat) : (Nat → Bool) → List Stp → Prop
  | _, [] => True
  | M, t :: l => properB t regs ins = true ∧ (∀ r ∈ readsOf t, r < regs ∧ M r = true) ∧ okL regs ins (if t.op ≤ 5 then upd t.x true M else M) l
theorem right_iff (l : List Stp) (k : Nat) (t : Stp) (regs ins : Nat) : rightB l k t regs ins = true ↔ properB t regs ins = true ∧ ∀ r ∈ readsOf t, r < regs ∧ Set l k r = true := by
  unfold rightB Set
  simp [List.all_eq_true]
theorem set_next {l : List Stp} {k : Nat} (hk : k < l.length) : Set l (k + 1) = if l[k].op ≤ 5 then upd l[k].x true (Set l k) else Set l k := by
  by_cases h : l[k].op ≤ 5
  · rw [if_pos h, Set_yes hk h]; rfl
  · rw [if_neg h, Set_no hk h]
theorem okL_from (l : List Stp) (regs ins : Nat) : ∀ d, d ≤ l.length → ((∀ j (h : j < l.length), l.length - d ≤ j → rightB l j l[j] regs ins = true) ↔ okL regs ins (Set l (l.length - d)) (l.drop (l.length - d))) := by
  intro d
  induction d with
  | zero => intro _; simp [okL]; intro j h1 h2; omega
  | succ d ih =>
    intro hd
    have hk : l.length - (d + 1) < l.length := by omega
    have e1 : l.length - d = l.length - (d + 1) + 1 := by omega
    have ih := ih (by omega)
    rw [e1] at ih
    rw [List.drop_eq_getElem_cons hk]
    unfold okL
    rw [← set_next hk, ← ih, ← and_assoc, ← right_iff]
    constructor
    · intro h; exact ⟨h _ hk (Nat.le_refl _), fun j h1 h2 => h j h1 (by omega)⟩
    · rintro ⟨h1, h2⟩ j hj hd2
      by_cases e : j = l.length - (d + 1)
      · subst e; exact h1
      · exact h2 j hj (by omega)
theorem okL_iff (l : List Stp) (regs ins : Nat) : (∀ j (h : j < l.length), rightB l j l[j] regs ins = true) ↔ okL regs ins (fun _ => false) l := by
  have := okL_from l regs ins l.length (Nat.le_refl _)
  simp only [Nat.sub_self, Nat.zero_le, forall_const, List.drop_zero, Set_zero] at this
  exact this
theorem okL_want {regs ins : Nat} (l : List Stp) : ∀ M, okL regs ins M l → ∀ r, (sh l).2 r = true → M r = true := by
  induction l with
  | nil => intro M _ r h; cases h
  | cons t l ih =>
    rintro M ⟨hp, hr, hl⟩ r h
    have hk := ih _ hl r
    have key : (sh l).2 r = true → ¬ (t.op ≤ 5 ∧ r = t.x) → M r = true := fun h1 h2 => by
      have := hk h1
      by_cases h5 : t.op ≤ 5
      · rw [if_pos h5] at this
        unfold upd at this
        rwa [if_neg (fun e => h2 ⟨h5, e⟩)] at this
      · rwa [if_neg h5] at this
    cases hn : pN t (sh l).2 with
    | true =>
      rw [sh_yes hn] at h
      rcases (wAhead_iff _ _ _).1 h with h | h
      · exact (hr r h).2
      · exact key h.1 h.2
    | false =>
      rw [sh_no hn] at h
      refine key h (fun e => ?_)
      simp [pN] at hn
      rw [← e.2, h] at hn
      simp at hn
theorem okL_sh {regs ins : Nat} (l : List Stp) : ∀ M M', okL regs ins M l → (∀ r, (sh l).2 r = true → M' r = true) → okL regs ins M' (sh l).1 := by
  induction l with
  | nil => intro M M' _ _; trivial
  | cons t l ih =>
    rintro M M' ⟨hp, hr, hl⟩ h
    cases hn : pN t (sh l).2 with
    | true =>
      rw [sh_yes hn] at h ⊢
      refine ⟨hp, fun r hm => ⟨(hr r hm).1, h r ((wAhead_iff _ _ _).2 (.inl hm))⟩, ih _ _ hl (fun r hw => ?_)⟩
      by_cases h5 : t.op ≤ 5
      · rw [if_pos h5]
        unfold upd
        by_cases e : r = t.x
        · rw [if_pos e]
        · rw [if_neg e]; exact h r ((wAhead_iff _ _ _).2 (.inr ⟨hw, fun h => e h.2⟩))
      · rw [if_neg h5]; exact h r ((wAhead_iff _ _ _).2 (.inr ⟨hw, fun h => h5 h.1⟩))
    | false =>
      rw [sh_no hn] at h ⊢
      exact ih _ _ hl h
/-- A list's bytes as a text. -/
theorem g_list (l : List UInt8) (i : Nat) : g ⟨l.toArray⟩ i = (l[i]?.getD 0).toNat := by
  unfold g bt
  have hs : (⟨l.toArray⟩ : ByteArray).size = l.length := by simp [ByteArray.size]
  by_cases h : i < l.length
  · rw [dif_pos (by rw [hs]; exact h)]
    rw [List.getElem?_eq_getElem h]
    rfl
  · rw [dif_neg (by rw [hs]; exact h), List.getElem?_eq_none (by omega)]
    rfl
theorem flat_len (q : List Stp) : (q.flatMap stB).length = 4 * q.length := by
  induction q with
  | nil => rfl
  | cons t q ih => simp [ih, stB]; omega
theorem flat_at (q : List Stp) : ∀ k (h : k < q.length) j, j < 4 → (q.flatMap stB)[4 * k + j]? = (stB q[k])[j]? := by
  induction q with
  | nil => intro k h; simp at h
  | cons t q ih =>
    intro k h j hj
    rw [List.flatMap_cons]
    have hl : (stB t).length = 4 := rfl
    cases k with
    | zero => rw [List.getElem?_append_left (by rw [hl]; omega)]; simp
    | succ k =>
      rw [List.getElem?_append_right (by rw [hl]; omega), hl, show 4 * (k + 1) + j - 4 = 4 * k + j by omega]
      rw [ih k (by simpa using h) j hj]
      rfl
theorem u8n {n : Nat} (h : n < 256) : (UInt8.ofNat n).toNat = n := UInt8.toNat_ofNat_of_lt' (by simpa using h)
section
variable {r i : Nat} {q : List Stp}
theorem join_size : (⟨(joined r i q).toArray⟩ : ByteArray).size = 6 + 4 * q.length := by
  show ((joined r i q).toArray).size = _
  simp only [joined, List.size_toArray, List.length_append, flat_len, List.length_cons, List.length_nil]
theorem join_nst : nst ⟨(joined r i q).toArray⟩ = q.length := by unfold nst; rw [join_size]; omega
theorem join_step (hs : ∀ t ∈ q, Small t) {k : Nat} (hk : k < q.length) : stepAt ⟨(joined r i q).toArray⟩ k = q[k] := by
  have h0 := hs _ (List.getElem_mem hk)
  have key : ∀ j, j < 4 → g ⟨(joined r i q).toArray⟩ (6 + 4 * k + j) = ((stB q[k])[j]?.getD 0).toNat := fun j hj => by
    rw [g_list]
    unfold joined
    rw [List.getElem?_append_right (by simp; omega), show 6 + 4 * k + j - List.length [82, 85, UInt8.ofNat r, UInt8.ofNat i, UInt8.ofNat (q.length % 256), UInt8.ofNat (q.length / 256)] = 4 * k + j by simp; omega, flat_at q k hk j hj]
  have k0 := key 0 (by omega)
  have k1 := key 1 (by omega)
  have k2 := key 2 (by omega)
  have k3 := key 3 (by omega)
  rw [Nat.add_zero] at k0
  unfold stepAt
  rw [k0, k1, k2, k3]
  obtain ⟨a, b, c, d⟩ := h0
  cases hq : q[k] with
  | mk op x y z =>
    rw [hq] at a b c d
    simp [stB]
    exact ⟨a, b, c, d⟩
theorem join_steps (hs : ∀ t ∈ q, Small t) : steps ⟨(joined r i q).toArray⟩ = q := by
  apply List.ext_getElem
  · rw [steps, stepsTo_len, join_nst]
  · intro k h1 h2
    rw [steps_at]
    exact join_step hs h2
theorem join_g (j : Nat) (hj : j < 6) : g ⟨(joined r i q).toArray⟩ j = (([82, 85, UInt8.ofNat r, UInt8.ofNat i, UInt8.ofNat (q.length % 256), UInt8.ofNat (q.length / 256)] : List UInt8)[j]?.getD 0).toNat := by
  rw [g_list]; unfold joined; rw [List.getElem?_append_left (by simpa using hj)]
theorem join_r (hr : r < 256) : g ⟨(joined r i q).toArray⟩ 2 = r := by rw [join_g 2 (by omega)]; exact u8n hr
theorem join_i (hi : i < 256) : g ⟨(joined r i q).toArray⟩ 3 = i := by rw [join_g 3 (by omega)]; exact u8n hi
theorem join_begun (h1 : 1 ≤ r) (h2 : r ≤ 128) (h3 : i ≤ 32) (hq : q.length ≤ 2000) : begunB ⟨(joined r i q).toArray⟩ = true := by
  have e0 : g ⟨(joined r i q).toArray⟩ 0 = 82 := by rw [join_g 0 (by omega)]; rfl
  have e1 : g ⟨(joined r i q).toArray⟩ 1 = 85 := by rw [join_g 1 (by omega)]; rfl
  have e4 : g ⟨(joined r i q).toArray⟩ 4 = q.length % 256 := by rw [join_g 4 (by omega)]; exact u8n (by omega)
  have e5 : g ⟨(joined r i q).toArray⟩ 5 = q.length / 256 := by rw [join_g 5 (by omega)]; exact u8n (by omega)
  unfold begunB
  rw [e0, e1, e4, e5, join_r (by omega), join_i (by omega), join_size]
  simp only [Bool.and_eq_true, decide_eq_true_eq]
  exact ⟨⟨⟨⟨⟨⟨by omega, trivial, trivial⟩, h1⟩, h2⟩, h3⟩, by omega⟩, by omega⟩
theorem join_vfy (h1 : 1 ≤ r) (h2 : r ≤ 128) (h3 : i ≤ 32) (hq : q.length ≤ 2000) (hs : ∀ t ∈ q, Small t) (ho : okL r i (fun _ => false) q) : vfy ⟨(joined r i q).toArray⟩ = (0, 0) := by
  have hr := (okL_iff q r i).2 ho
  refine vfy_ok (join_begun h1 h2 h3 hq) (fun j hj => ?_)
  rw [join_nst] at hj
  rw [join_steps hs, join_step hs hj, join_r (by omega), join_i (by omega)]
  exact hr j hj
end
theorem vfy_okL {s : ByteArray} (hv : vfy s = (0, 0)) (hb : begunB s = true) : okL (g s 2) (g s 3) (fun _ => false) (steps s) := by
  rw [← okL_iff]
  intro j hj
  have hj' : j < nst s := by rw [steps, stepsTo_len] at hj; exact hj
  cases h : rightB (steps s) j (steps s)[j] (g s 2) (g s 3) with
  | true => rfl
  | false =>
    exfalso
    have h2 : (List.range (nst s)).find? (fun k => !rightB (steps s) k (stepAt s k) (g s 2) (g s 3)) ≠ none := by
      rw [Ne, List.find?_eq_none]
      intro H
      have := H j (by simpa using hj')
      rw [steps_at] at h
      simp [h] at this
    unfold vfy at hv
    rw [hb] at hv
    simp only [Bool.true_eq_false, if_false] at hv
    split at hv
    · cases hv
    · rename_i he; exact h2 he
/-- What is left of a right code. -/
structure Left (s : ByteArray) : Prop where
  size : (shr s).size ≤ s.size
  head : (shr s).extract 0 4 = s.extract 0 4
  vfy : vfy (shr s) = (0, 0)
  again : shr (shr s) = shr s
  same : ∀ (B : Nat) (inp : ByteArray), (exe B s inp).2 ≠ 10 → exe B (shr s) inp = exe B s inp
theorem left_any {s : ByteArray} (hv : vfy s = (0, 0)) (hb : begunB s = true) : Left s := by
  have hj := shr_joined hb
  have hn : (steps s).length = nst s := stepsTo_len s _
  rw [← hn, kept_sh] at hj
  obtain ⟨h6, -, h2000, hsz, hr1, hr2, hi⟩ := nst_of hb
  have hlen : (sh (steps s)).1.length ≤ nst s := by rw [← hn]; exact sh_len _
  have hsm : ∀ t ∈ (sh (steps s)).1, Small t := fun t ht => steps_small s t (sh_mem t ht)
  have hok := vfy_okL hv hb
  have hok2 : okL (g s 2) (g s 3) (fun _ => false) (sh (steps s)).1 := okL_sh _ _ _ hok (okL_want _ _ hok)
  have hv2 : Pu.vfy (shr s) = (0, 0) := by rw [hj]; exact join_vfy hr1 hr2 hi (by omega) hsm hok2
  have hst : steps (shr s) = (sh (steps s)).1 := by rw [hj]; exact join_steps hsm
  have hg2 : g (shr s) 2 = g s 2 := by rw [hj]; exact join_r (by omega)
  have hg3 : g (shr s) 3 = g s 3 := by rw [hj]; exact join_i (by omega)
  have hb2 : begunB (shr s) = true := by rw [hj]; exact join_begun hr1 hr2 hi (by omega)
  refine ⟨?_, ?_, hv2, ?_, fun B inp h => ?_⟩
  · rw [hj, join_size]; omega
  · have e : (shr s).extract 0 4 = (s.extract 0 4 ++ (⟨#[UInt8.ofNat (cntTo (neededL (steps s)) (nst s) % 256), UInt8.ofNat (cntTo (neededL (steps s)) (nst s) / 256)]⟩ ++ bodyTo s (neededL (steps s)) (nst s))).extract 0 4 := by
      unfold shr; rw [ByteArray.append_assoc]
    rw [e]
    have h4 : (s.extract 0 4).size = 4 := by rw [ByteArray.size_extract]; omega
    rw [ByteArray.extract_append_eq_left h4.symm]
  · have hj2 := shr_joined hb2
    have hn2 : (steps (shr s)).length = nst (shr s) := stepsTo_len _ _
    rw [← hn2, kept_sh, hst, sh_idem, hg2, hg3, ← hj] at hj2
    exact hj2
  · unfold exe at *
    rw [hv] at h ⊢
    rw [hv2, hst, hg3]
    simp only [ne_eq, not_true_eq_false, if_false] at h ⊢
    cases hin : inps inp with
    | none => rfl
    | some ins =>
      rw [hin] at h
      simp only at h ⊢
      by_cases hl : ins.length = g s 3
      · simp only [hl, not_true_eq_false, if_false] at h ⊢
        exact play_sh _ _ _ _ rfl (fun _ _ => rfl) h
      · simp [hl]
end Go.Proofs.YtmnfndpbblpjiaaGreatDoor.Pu

/- Statements of a right source, as commands; what is made of them. -/
namespace Go.Proofs.YtmnfndpbblpjiaaGreatDoor.Pu
theorem len2 {α : Type} {l : List α} (h : l.length = 2) : ∃ a b, l = [a, b] := by
  match l, h with
  | [a, b], _ => exact ⟨a, b, rfl⟩
theorem len3 {α : Type} {l : List α} (h : l.length = 3) : ∃ a b c, l = [a, b, c] := by
  match l, h with
  | [a, b, c], _ => exact ⟨a, b, c, rfl⟩
def ag (x : St) (j : Nat) : Nat := (x.args[j]?.getD 0).toNat
def ix (l : List St) (x : St) (j : Nat) : Nat := (gvI l (ag x j)).toNat
def cmdOf (l : List St) (x : St) : Cmd :=
  if x.word == [112, 116] then .pt else
  if x.word == [109, 105, 100] then .mid (ix l x 0) (ix l x 1) else
  if x.word == [108, 105, 110, 101] then .line (ix l x 0) (ix l x 1) else
  if x.word == [112, 97, 114] then .par (ix l x 0) (ix l x 1) else
  if x.word == [112, 101, 114, 112] then .perp (ix l x 0) (ix l x 1) else
  if x.word == [109, 101, 101, 116] then .meet (ix l x 0) (ix l x 1) else
  if x.word == [102, 111, 111, 116] then .foot (ix l x 0) (ix l x 1) else
  if x.word == [109, 105, 114, 114, 111, 114] then .mirror (ix l x 0) (ix l x 1) else
  if x.word == [99, 101, 110, 116, 114, 101] then .centre (ix l x 0) (ix l x 1) (ix l x 2) else
  if x.word == [115, 97, 109, 101] then .same (ix l x 0) (ix l x 1) else
  if x.word == [99, 111, 108] then .col (ix l x 0) (ix l x 1) (ix l x 2) else
  if x.word == [99, 99, 119] then .ccw (ix l x 0) (ix l x 1) (ix l x 2) else
  if x.word == [98, 116, 119] then .btw (ix l x 0) (ix l x 1) (ix l x 2) else
  if x.word == [99, 111, 110] then .con (ix l x 0) (ix l x 1) (ix l x 2) (ix l x 3) else
  if x.word == [111, 110] then .on (ix l x 0) (ix l x 1) else
  if x.word == [112, 108, 108] then .pll (ix l x 0) (ix l x 1) else
  if x.word == [112, 114, 112] then .prp (ix l x 0) (ix l x 1) else
  .cc (ix l x 0) (ix l x 1) (ix l x 2)
def cmds (l : List St) : List Cmd := l.map (cmdOf l)
theorem word_cases {w : List UInt8} (h : (fm w).2 ≠ 0) : w = [112, 116] ∨ w = [109, 105, 100] ∨ w = [108, 105, 110, 101] ∨ w = [112, 97, 114] ∨ w = [112, 101, 114, 112] ∨ w = [109, 101, 101, 116] ∨ w = [102, 111, 111, 116] ∨ w = [109, 105, 114, 114, 111, 114] ∨ w = [99, 101, 110, 116, 114, 101] ∨ w = [115, 97, 109, 101] ∨ w = [99, 111, 108] ∨ w = [99, 99, 119] ∨ w = [98, 116, 119] ∨ w = [99, 111, 110] ∨ w = [111, 110] ∨ w = [112, 108, 108] ∨ w = [112, 114, 112] ∨ w = [99, 99] := by
  by_cases h0 : w = [112, 116]
  · simp [h0]
  by_cases h1 : w = [109, 105, 100]
  · simp [h1]
  by_cases h2 : w = [108, 105, 110, 101]
  · simp [h2]
  by_cases h3 : w = [112, 97, 114]
  · simp [h3]
  by_cases h4 : w = [112, 101, 114, 112]
  · simp [h4]
  by_cases h5 : w = [109, 101, 101, 116]
  · simp [h5]
  by_cases h6 : w = [102, 111, 111, 116]
  · simp [h6]
  by_cases h7 : w = [109, 105, 114, 114, 111, 114]
  · simp [h7]
  by_cases h8 : w = [99, 101, 110, 116, 114, 101]
  · simp [h8]
  by_cases h9 : w = [115, 97, 109, 101]
  · simp [h9]
  by_cases h10 : w = [99, 111, 108]
  · simp [h10]
  by_cases h11 : w = [99, 99, 119]
  · simp [h11]
  by_cases h12 : w = [98, 116, 119]
  · simp [h12]
  by_cases h13 : w = [99, 111, 110]
  · simp [h13]
  by_cases h14 : w = [111, 110]
  · simp [h14]
  by_cases h15 : w = [112, 108, 108]
  · simp [h15]
  by_cases h16 : w = [112, 114, 112]
  · simp [h16]
  by_cases h17 : w = [99, 99]
  · simp [h17]
  exfalso
  apply h
  simp [fm, show (w == [112, 116]) = false from beq_eq_false_iff_ne.2 h0, show (w == [109, 105, 100]) = false from beq_eq_false_iff_ne.2 h1, show (w == [108, 105, 110, 101]) = false from beq_eq_false_iff_ne.2 h2, show (w == [112, 97, 114]) = false from beq_eq_false_iff_ne.2 h3, show (w == [112, 101, 114, 112]) = false from beq_eq_false_iff_ne.2 h4, show (w == [109, 101, 101, 116]) = false from beq_eq_false_iff_ne.2 h5, show (w == [102, 111, 111, 116]) = false from beq_eq_false_iff_ne.2 h6, show (w == [109, 105, 114, 114, 111, 114]) = false from beq_eq_false_iff_ne.2 h7, show (w == [99, 101, 110, 116, 114, 101]) = false from beq_eq_false_iff_ne.2 h8, show (w == [115, 97, 109, 101]) = false from beq_eq_false_iff_ne.2 h9, show (w == [99, 111, 108]) = false from beq_eq_false_iff_ne.2 h10, show (w == [99, 99, 119]) = false from beq_eq_false_iff_ne.2 h11, show (w == [98, 116, 119]) = false from beq_eq_false_iff_ne.2 h12, show (w == [99, 111, 110]) = false from beq_eq_false_iff_ne.2 h13, show (w == [111, 110]) = false from beq_eq_false_iff_ne.2 h14, show (w == [112, 108, 108]) = false from beq_eq_false_iff_ne.2 h15, show (w == [112, 114, 112]) = false from beq_eq_false_iff_ne.2 h16, show (w == [99, 99]) = false from beq_eq_false_iff_ne.2 h17]
/-- The registers of a statement's arguments. -/
def thJ (l : List St) (x : St) (j : Nat) : Tr := if j < x.args.length then hm (ix l x j) else ⟨0, 0, 0⟩
def thO (l : List St) (x : St) : Th := ⟨thJ l x 0, thJ l x 1, thJ l x 2, thJ l x 3⟩
def grdN (wd : List UInt8) : Nat := if wd == [108, 105, 110, 101] then 3 else 0
/-- What is made of a statement. -/
def qsL (wd : List UInt8) (t : Th) : List Stp := (askL wd 48 t).1 ++ [⟨6, 48 + (askL wd 48 t).2, 0, 0⟩]
def csL (wd : List UInt8) (i k : Nat) (t : Th) : List Stp := (conL wd 48 i t).1 ++ (grdL wd (48 + (conL wd 48 i t).1.length) (conL wd 48 i t).2.1 k ++ keepL wd (48 + (conL wd 48 i t).1.length + grdN wd) (conL wd 48 i t).2.1 k)
def stL (l : List St) (k i : Nat) (x : St) : List Stp := if x.name = 0 then qsL x.word (thO l x) else csL x.word i k (thO l x)
section
variable {p : List (St × Nat)}
theorem gv_more {l m : List St} {nm : Nat} (h : gvI l nm ≠ -1) : gvI (l ++ m) nm = gvI l nm := by
  rcases gvI_cases l nm with ⟨h1, _⟩ | ⟨k, hk, h1, h2, h3⟩
  · exact absurd h1 h
  · rw [h1]
    exact gvI_some (by simp; omega) (by rw [List.getElem_append_left hk]; exact h2) (fun j hj => by rw [List.getElem_append_left (by omega)]; exact h3 j hj)
theorem gv_take {p : List (St × Nat)} {j nm : Nat} (h : gvI (sts (p.take j)) nm ≠ -1) : gvI (sts p) nm = gvI (sts (p.take j)) nm := by
  have : sts p = sts (p.take j) ++ sts (p.drop j) := by rw [sts, sts, sts, ← List.map_append, List.take_append_drop]
  rw [this, gv_more h]
/-- What is so of a right statement's arguments. -/
theorem arg_at (h : Ok p) {j : Nat} (hj : j < p.length) {i : Nat} (hi : i < p[j].1.args.length) :
    ∃ k, ∃ hk : k < j, ix (sts p) p[j].1 i = k ∧ gvI (sts p) (ag p[j].1 i) = (k : Int) ∧ argW (p.take j) (ag p[j].1 i) = (p[k]'(by omega)).2 ∧ ((fm p[j].1.word).1[i]?.getD 0).toNat = (fm (p[k]'(by omega)).1.word).2 := by
  obtain ⟨he, -⟩ := h j hj
  obtain ⟨-, hl, hn, hs, -⟩ := err_zero he
  have hag : ag p[j].1 i = p[j].1.args[i].toNat := by simp [ag, hi]
  unfold namesOk at hn
  rw [Bool.and_eq_true, List.all_eq_true] at hn
  have hg : gvI (sts (p.take j)) (ag p[j].1 i) ≠ -1 := by
    have := hn.1 p[j].1.args[i] (List.getElem_mem hi)
    rw [hag]; simpa using this
  obtain ⟨k, hk, h1, h2⟩ := given_lt hg
  have hkj : k < j := by simp at hk; omega
  have hw := who_of hk h1
  have hpk : (p.take j)[k] = p[k]'(by omega) := by simp
  have hgp := gv_take hg
  rw [h1] at hgp
  refine ⟨k, hkj, by rw [ix, hgp]; rfl, hgp, by rw [argW, hw]; simp, ?_⟩
  unfold sortsOk at hs
  rw [List.all_eq_true] at hs
  have hi2 : i < (fm p[j].1.word).1.length := by omega
  have hz := hs (p[j].1.args[i], (fm p[j].1.word).1[i]) (by
    rw [List.mem_iff_getElem]
    exact ⟨i, by simp; omega, by simp⟩)
  have haw : argWord (p.take j) p[j].1.args[i].toNat = (p[k]'(by omega)).1.word := by
    rw [← hag, argWord, hw]; simp
  simp only [haw] at hz
  rw [List.getElem?_eq_getElem hi2]
  simp at hz ⊢
  exact hz.symm
theorem srt_cmd {l : List St} {x : St} (h : (fm x.word).2 ≠ 0) : srt (cmdOf l x) = (fm x.word).2 := by
  rcases word_cases h with e | e | e | e | e | e | e | e | e | e | e | e | e | e | e | e | e | e <;> rw [cmdOf, e] <;> rfl
theorem sts_at {j : Nat} (hj : j < p.length) : (sts p)[j]'(by rw [sts_len]; exact hj) = p[j].1 := by simp [sts]
theorem cmds_at {j : Nat} (hj : j < p.length) : (cmds (sts p))[j]'(by simp [cmds, sts_len]; exact hj) = cmdOf (sts p) p[j].1 := by simp [cmds, sts]
theorem cmds_len : (cmds (sts p)).length = p.length := by simp [cmds, sts_len]
theorem arg_P (h : Ok p) {j : Nat} (hj : j < p.length) {i : Nat} (hi : i < p[j].1.args.length) (hs : ((fm p[j].1.word).1[i]?.getD 0).toNat = 80) : isP ((cmds (sts p)).take j) (ix (sts p) p[j].1 i) := by
  obtain ⟨k, hk, e1, -, -, e2⟩ := arg_at h hj hi
  rw [e1]
  refine ⟨by rw [List.length_take, cmds_len]; omega, ?_⟩
  rw [List.getElem_take, cmds_at (by omega), srt_cmd (by rw [← e2, hs]; omega), ← e2, hs]
theorem arg_L (h : Ok p) {j : Nat} (hj : j < p.length) {i : Nat} (hi : i < p[j].1.args.length) (hs : ((fm p[j].1.word).1[i]?.getD 0).toNat = 76) : isLn ((cmds (sts p)).take j) (ix (sts p) p[j].1 i) := by
  obtain ⟨k, hk, e1, -, -, e2⟩ := arg_at h hj hi
  rw [e1]
  refine ⟨by rw [List.length_take, cmds_len]; omega, ?_⟩
  rw [List.getElem_take, cmds_at (by omega), srt_cmd (by rw [← e2, hs]; omega), ← e2, hs]
def wts (p : List (St × Nat)) : List Nat := p.map Prod.snd
theorem arg_W (h : Ok p) {j : Nat} (hj : j < p.length) {i : Nat} (hi : i < p[j].1.args.length) : wt ((wts p).take j) (ix (sts p) p[j].1 i) = argW (p.take j) (p[j].1.args[i].toNat) := by
  obtain ⟨k, hk, e1, -, e2, -⟩ := arg_at h hj hi
  have hag : ag p[j].1 i = p[j].1.args[i].toNat := by simp [ag, hi]
  rw [← hag, e1, e2, wt, wts]
  simp [hk, show k < p.length by omega]
theorem ok_cmd (h : Ok p) {j : Nat} (hj : j < p.length) : okC ((cmds (sts p)).take j) (cmdOf (sts p) p[j].1) ∧ wtC ((wts p).take j) (cmdOf (sts p) p[j].1) = p[j].2 := by
  obtain ⟨he, hw⟩ := h j hj
  obtain ⟨hk, hl, -, -, -⟩ := err_zero he
  have P := fun i hi => arg_P h hj (i := i) hi
  have L := fun i hi => arg_L h hj (i := i) hi
  have V := fun i hi => arg_W h hj (i := i) hi
  rw [hw]
  unfold known at hk
  rw [Bool.and_eq_true] at hk
  have h0 : (fm p[j].1.word).2 ≠ 0 := by simpa using hk.1
  have hq := hk.2
  unfold wgh
  generalize p[j].1 = x at *
  obtain ⟨nm, wd, ar⟩ := x
  simp only at *
  rcases word_cases h0 with e | e | e | e | e | e | e | e | e | e | e | e | e | e | e | e | e | e
  · subst e
    have hl2 : ar.length = 0 := hl
    have hn : nm ≠ 0 := by simpa [fm] using hq
    exact ⟨trivial, by rw [if_neg hn]; rfl⟩
  · subst e
    have hl2 : ar.length = 2 := hl
    have hn : nm ≠ 0 := by simpa [fm] using hq
    refine ⟨⟨P 0 (by omega) rfl, P 1 (by omega) rfl⟩, ?_⟩
    rw [if_neg hn]
    obtain ⟨a, b, rfl⟩ := len2 hl2
    have v0 := V 0 (by omega)
    have v1 := V 1 (by omega)
    simp only [List.getElem_cons_zero, List.getElem_cons_succ] at v0 v1
    show wt _ _ + wt _ _ = _
    rw [v0, v1]
    simp [wG, sumW]
  · subst e
    have hl2 : ar.length = 2 := hl
    have hn : nm ≠ 0 := by simpa [fm] using hq
    refine ⟨⟨P 0 (by omega) rfl, P 1 (by omega) rfl⟩, ?_⟩
    rw [if_neg hn]
    obtain ⟨a, b, rfl⟩ := len2 hl2
    have v0 := V 0 (by omega)
    have v1 := V 1 (by omega)
    simp only [List.getElem_cons_zero, List.getElem_cons_succ] at v0 v1
    show wt _ _ + wt _ _ = _
    rw [v0, v1]
    simp [wG, sumW]
  · subst e
    have hl2 : ar.length = 2 := hl
    have hn : nm ≠ 0 := by simpa [fm] using hq
    refine ⟨⟨P 0 (by omega) rfl, L 1 (by omega) rfl⟩, ?_⟩
    rw [if_neg hn]
    obtain ⟨a, b, rfl⟩ := len2 hl2
    have v0 := V 0 (by omega)
    have v1 := V 1 (by omega)
    simp only [List.getElem_cons_zero, List.getElem_cons_succ] at v0 v1
    show wt _ _ + wt _ _ = _
    rw [v0, v1]
    simp [wG, sumW]
  · subst e
    have hl2 : ar.length = 2 := hl
    have hn : nm ≠ 0 := by simpa [fm] using hq
    refine ⟨⟨P 0 (by omega) rfl, L 1 (by omega) rfl⟩, ?_⟩
    rw [if_neg hn]
    obtain ⟨a, b, rfl⟩ := len2 hl2
    have v0 := V 0 (by omega)
    have v1 := V 1 (by omega)
    simp only [List.getElem_cons_zero, List.getElem_cons_succ] at v0 v1
    show wt _ _ + wt _ _ = _
    rw [v0, v1]
    simp [wG, sumW]
  · subst e
    have hl2 : ar.length = 2 := hl
    have hn : nm ≠ 0 := by simpa [fm] using hq
    refine ⟨⟨L 0 (by omega) rfl, L 1 (by omega) rfl⟩, ?_⟩
    rw [if_neg hn]
    obtain ⟨a, b, rfl⟩ := len2 hl2
    have v0 := V 0 (by omega)
    have v1 := V 1 (by omega)
    simp only [List.getElem_cons_zero, List.getElem_cons_succ] at v0 v1
    show wt _ _ + wt _ _ = _
    rw [v0, v1]
    simp [wG, sumW]
  · subst e
    have hl2 : ar.length = 2 := hl
    have hn : nm ≠ 0 := by simpa [fm] using hq
    refine ⟨⟨P 0 (by omega) rfl, L 1 (by omega) rfl⟩, ?_⟩
    rw [if_neg hn]
    obtain ⟨a, b, rfl⟩ := len2 hl2
    have v0 := V 0 (by omega)
    have v1 := V 1 (by omega)
    simp only [List.getElem_cons_zero, List.getElem_cons_succ] at v0 v1
    show wt _ _ + wt _ _ + wt _ _ = _
    rw [v0, v1]
    simp [wG, sumW, lastW]
  · subst e
    have hl2 : ar.length = 2 := hl
    have hn : nm ≠ 0 := by simpa [fm] using hq
    refine ⟨⟨P 0 (by omega) rfl, L 1 (by omega) rfl⟩, ?_⟩
    rw [if_neg hn]
    obtain ⟨a, b, rfl⟩ := len2 hl2
    have v0 := V 0 (by omega)
    have v1 := V 1 (by omega)
    simp only [List.getElem_cons_zero, List.getElem_cons_succ] at v0 v1
    show 2 * (wt _ _ + wt _ _) = _
    rw [v0, v1]
    simp [wG, sumW]
  · subst e
    have hl2 : ar.length = 3 := hl
    have hn : nm ≠ 0 := by simpa [fm] using hq
    refine ⟨⟨P 0 (by omega) rfl, P 1 (by omega) rfl, P 2 (by omega) rfl⟩, ?_⟩
    rw [if_neg hn]
    obtain ⟨a, b, c, rfl⟩ := len3 hl2
    have v0 := V 0 (by omega)
    have v1 := V 1 (by omega)
    have v2 := V 2 (by omega)
    simp only [List.getElem_cons_zero, List.getElem_cons_succ] at v0 v1 v2
    show 4 * (wt _ _ + wt _ _ + wt _ _) = _
    rw [v0, v1, v2]
    simp [wG, sumW]; omega
  · subst e
    have hl2 : ar.length = 2 := hl
    have hn : nm = 0 := by simpa [fm] using hq
    exact ⟨⟨P 0 (by omega) rfl, P 1 (by omega) rfl⟩, by rw [if_pos hn]; rfl⟩
  · subst e
    have hl2 : ar.length = 3 := hl
    have hn : nm = 0 := by simpa [fm] using hq
    exact ⟨⟨P 0 (by omega) rfl, P 1 (by omega) rfl, P 2 (by omega) rfl⟩, by rw [if_pos hn]; rfl⟩
  · subst e
    have hl2 : ar.length = 3 := hl
    have hn : nm = 0 := by simpa [fm] using hq
    exact ⟨⟨P 0 (by omega) rfl, P 1 (by omega) rfl, P 2 (by omega) rfl⟩, by rw [if_pos hn]; rfl⟩
  · subst e
    have hl2 : ar.length = 3 := hl
    have hn : nm = 0 := by simpa [fm] using hq
    exact ⟨⟨P 0 (by omega) rfl, P 1 (by omega) rfl, P 2 (by omega) rfl⟩, by rw [if_pos hn]; rfl⟩
  · subst e
    have hl2 : ar.length = 4 := hl
    have hn : nm = 0 := by simpa [fm] using hq
    exact ⟨⟨P 0 (by omega) rfl, P 1 (by omega) rfl, P 2 (by omega) rfl, P 3 (by omega) rfl⟩, by rw [if_pos hn]; rfl⟩
  · subst e
    have hl2 : ar.length = 2 := hl
    have hn : nm = 0 := by simpa [fm] using hq
    exact ⟨⟨P 0 (by omega) rfl, L 1 (by omega) rfl⟩, by rw [if_pos hn]; rfl⟩
  · subst e
    have hl2 : ar.length = 2 := hl
    have hn : nm = 0 := by simpa [fm] using hq
    exact ⟨⟨L 0 (by omega) rfl, L 1 (by omega) rfl⟩, by rw [if_pos hn]; rfl⟩
  · subst e
    have hl2 : ar.length = 2 := hl
    have hn : nm = 0 := by simpa [fm] using hq
    exact ⟨⟨L 0 (by omega) rfl, L 1 (by omega) rfl⟩, by rw [if_pos hn]; rfl⟩
  · subst e
    have hl2 : ar.length = 3 := hl
    have hn : nm = 0 := by simpa [fm] using hq
    exact ⟨⟨L 0 (by omega) rfl, L 1 (by omega) rfl, L 2 (by omega) rfl⟩, by rw [if_pos hn]; rfl⟩
theorem wf_from (h : Ok p) : ∀ d, d ≤ p.length → Wf ((cmds (sts p)).take (p.length - d)) ((wts p).take (p.length - d)) ((cmds (sts p)).drop (p.length - d)) := by
  intro d
  induction d with
  | zero => intro _; rw [Nat.sub_zero, List.drop_of_length_le (by rw [cmds_len]; omega)]; trivial
  | succ d ih =>
    intro hd
    have hj : p.length - (d + 1) < p.length := by omega
    have hj2 : p.length - (d + 1) < (cmds (sts p)).length := by rw [cmds_len]; exact hj
    have ih := ih (by omega)
    rw [show p.length - d = p.length - (d + 1) + 1 by omega] at ih
    rw [List.drop_eq_getElem_cons hj2]
    obtain ⟨h1, h2⟩ := ok_cmd h hj
    rw [List.take_succ_eq_append_getElem hj2, List.take_succ_eq_append_getElem (by simpa [wts] using hj), cmds_at hj] at ih
    rw [cmds_at hj]
    refine ⟨h1, by rw [h2]; exact h.weight hj, ?_⟩
    rw [h2]
    simpa [wts] using ih
theorem wf_cmds (h : Ok p) : Wf [] [] (cmds (sts p)) := by
  have := wf_from h p.length (Nat.le_refl _)
  simpa using this
theorem st_cmd (h : Ok p) {j : Nat} (hj : j < p.length) (k i : Nat) : stL (sts p) k i p[j].1 = cmdL k i (cmdOf (sts p) p[j].1) := by
  obtain ⟨he, -⟩ := h j hj
  obtain ⟨hk, hl, -, -, -⟩ := err_zero he
  unfold known at hk
  rw [Bool.and_eq_true] at hk
  have h0 : (fm p[j].1.word).2 ≠ 0 := by simpa using hk.1
  have hq := hk.2
  generalize p[j].1 = x at *
  obtain ⟨nm, wd, ar⟩ := x
  simp only at *
  have tj : ∀ i, i < ar.length → thJ (sts p) ⟨nm, wd, ar⟩ i = hm (ix (sts p) ⟨nm, wd, ar⟩ i) := fun i hi => by unfold thJ; rw [if_pos hi]
  rcases word_cases h0 with e | e | e | e | e | e | e | e | e | e | e | e | e | e | e | e | e | e
  · subst e
    have hl2 : ar.length = 0 := hl
    have hn : nm ≠ 0 := by simpa [fm] using hq
    rw [stL, if_neg hn]
    unfold csL thO
    rfl
  · subst e
    have hl2 : ar.length = 2 := hl
    have hn : nm ≠ 0 := by simpa [fm] using hq
    rw [stL, if_neg hn]
    unfold csL thO
    rw [tj 0 (by omega), tj 1 (by omega)]
    rfl
  · subst e
    have hl2 : ar.length = 2 := hl
    have hn : nm ≠ 0 := by simpa [fm] using hq
    rw [stL, if_neg hn]
    unfold csL thO
    rw [tj 0 (by omega), tj 1 (by omega)]
    rfl
  · subst e
    have hl2 : ar.length = 2 := hl
    have hn : nm ≠ 0 := by simpa [fm] using hq
    rw [stL, if_neg hn]
    unfold csL thO
    rw [tj 0 (by omega), tj 1 (by omega)]
    rfl
  · subst e
    have hl2 : ar.length = 2 := hl
    have hn : nm ≠ 0 := by simpa [fm] using hq
    rw [stL, if_neg hn]
    unfold csL thO
    rw [tj 0 (by omega), tj 1 (by omega)]
    rfl
  · subst e
    have hl2 : ar.length = 2 := hl
    have hn : nm ≠ 0 := by simpa [fm] using hq
    rw [stL, if_neg hn]
    unfold csL thO
    rw [tj 0 (by omega), tj 1 (by omega)]
    rfl
  · subst e
    have hl2 : ar.length = 2 := hl
    have hn : nm ≠ 0 := by simpa [fm] using hq
    rw [stL, if_neg hn]
    unfold csL thO
    rw [tj 0 (by omega), tj 1 (by omega)]
    rfl
  · subst e
    have hl2 : ar.length = 2 := hl
    have hn : nm ≠ 0 := by simpa [fm] using hq
    rw [stL, if_neg hn]
    unfold csL thO
    rw [tj 0 (by omega), tj 1 (by omega)]
    rfl
  · subst e
    have hl2 : ar.length = 3 := hl
    have hn : nm ≠ 0 := by simpa [fm] using hq
    rw [stL, if_neg hn]
    unfold csL thO
    rw [tj 0 (by omega), tj 1 (by omega), tj 2 (by omega)]
    rfl
  · subst e
    have hl2 : ar.length = 2 := hl
    have hn : nm = 0 := by simpa [fm] using hq
    rw [stL, if_pos hn]
    unfold qsL thO
    rw [tj 0 (by omega), tj 1 (by omega)]
    rfl
  · subst e
    have hl2 : ar.length = 3 := hl
    have hn : nm = 0 := by simpa [fm] using hq
    rw [stL, if_pos hn]
    unfold qsL thO
    rw [tj 0 (by omega), tj 1 (by omega), tj 2 (by omega)]
    rfl
  · subst e
    have hl2 : ar.length = 3 := hl
    have hn : nm = 0 := by simpa [fm] using hq
    rw [stL, if_pos hn]
    unfold qsL thO
    rw [tj 0 (by omega), tj 1 (by omega), tj 2 (by omega)]
    rfl
  · subst e
    have hl2 : ar.length = 3 := hl
    have hn : nm = 0 := by simpa [fm] using hq
    rw [stL, if_pos hn]
    unfold qsL thO
    rw [tj 0 (by omega), tj 1 (by omega), tj 2 (by omega)]
    rfl
  · subst e
    have hl2 : ar.length = 4 := hl
    have hn : nm = 0 := by simpa [fm] using hq
    rw [stL, if_pos hn]
    unfold qsL thO
    rw [tj 0 (by omega), tj 1 (by omega), tj 2 (by omega), tj 3 (by omega)]
    rfl
  · subst e
    have hl2 : ar.length = 2 := hl
    have hn : nm = 0 := by simpa [fm] using hq
    rw [stL, if_pos hn]
    unfold qsL thO
    rw [tj 0 (by omega), tj 1 (by omega)]
    rfl
  · subst e
    have hl2 : ar.length = 2 := hl
    have hn : nm = 0 := by simpa [fm] using hq
    rw [stL, if_pos hn]
    unfold qsL thO
    rw [tj 0 (by omega), tj 1 (by omega)]
    rfl
  · subst e
    have hl2 : ar.length = 2 := hl
    have hn : nm = 0 := by simpa [fm] using hq
    rw [stL, if_pos hn]
    unfold qsL thO
    rw [tj 0 (by omega), tj 1 (by omega)]
    rfl
  · subst e
    have hl2 : ar.length = 3 := hl
    have hn : nm = 0 := by simpa [fm] using hq
    rw [stL, if_pos hn]
    unfold qsL thO
    rw [tj 0 (by omega), tj 1 (by omega), tj 2 (by omega)]
    rfl
theorem ins_cmd (h : Ok p) {j : Nat} (hj : j < p.length) : insC (cmdOf (sts p) p[j].1) = if (p[j].1.word == [112, 116]) = true then 2 else 0 := by
  obtain ⟨he, -⟩ := h j hj
  obtain ⟨hk, -, -, -, -⟩ := err_zero he
  unfold known at hk
  rw [Bool.and_eq_true] at hk
  have h0 : (fm p[j].1.word).2 ≠ 0 := by simpa using hk.1
  rcases word_cases h0 with e | e | e | e | e | e | e | e | e | e | e | e | e | e | e | e | e | e <;> rw [cmdOf, e] <;> rfl
end
end Go.Proofs.YtmnfndpbblpjiaaGreatDoor.Pu

/- Codes, plainly: what is left by Shrink is right, is left as it is, and tells the same. -/
import Derived.Shelf.Strconv.Itoa3
import Derived.Lib.LaidTab
import Derived.Test.YtmnfndpbblpjiaaDoorRows
import Derived.Test.YtmnfndpbblpjiaaDoorZd11
import Derived.Test.YtmnfndpbblpjiaaDoorZd07
import Derived.Test.YtmnfndpbblpjiaaDoorZd15
import Derived.Test.YtmnfndpbblpjiaaDoorZd01
import Derived.Test.YtmnfndpbblpjiaaDoorZd14
import Derived.Test.YtmnfndpbblpjiaaDoorZd08
namespace Go.Proofs.YtmnfndpbblpjiaaDoor.Pu

/-- The needed steps, and what is wanted ahead of them. -/
def sh : List Stp → List Stp × (Nat → Bool)
  | [] => ([], fun _ => false)
  | t :: l => if pN t (sh l).2 then (t :: (sh l).1, wAhead t (sh l).2) else sh l
theorem sh_yes {t : Stp} {l : List Stp} (h : pN t (sh l).2 = true) : sh (t :: l) = (t :: (sh l).1, wAhead t (sh l).2) := by simp [sh, h]
theorem sh_no {t : Stp} {l : List Stp} (h : pN t (sh l).2 = false) : sh (t :: l) = sh l := by simp [sh, h]
theorem ninv_sh (l : List Stp) : ∀ d, d ≤ l.length → ∃ nd, NInv l (l.length - d) nd (sh (l.drop (l.length - d))).2 := by
  intro d
  induction d with
  | zero => intro _; exact ⟨_, by simpa [sh] using NInv.start l⟩
  | succ d ih =>
    intro hd
    obtain ⟨nd, h⟩ := ih (by omega)
    have hk : l.length - (d + 1) < l.length := by omega
    have e1 : l.length - d = l.length - (d + 1) + 1 := by omega
    rw [e1] at h
    rw [List.drop_eq_getElem_cons hk]
    cases hp : pN l[l.length - (d + 1)] (sh (l.drop (l.length - (d + 1) + 1))).2 with
    | true => exact ⟨_, by rw [sh_yes hp]; exact h.yes hk hp⟩
    | false => exact ⟨_, by rw [sh_no hp]; exact h.no hk hp⟩
theorem need_sh {l : List Stp} {k : Nat} (hk : k < l.length) : (neededL l)[k]? = some (pN l[k] (sh (l.drop (k + 1))).2) := by
  obtain ⟨nd, h⟩ := ninv_sh l (l.length - (k + 1)) (by omega)
  rw [show l.length - (l.length - (k + 1)) = k + 1 by omega] at h
  exact h.val hk
theorem keep_sh (l : List Stp) : ∀ d, d ≤ l.length → keepTo l (neededL l) (l.length - d) ++ (sh (l.drop (l.length - d))).1 = keepTo l (neededL l) l.length := by
  intro d
  induction d with
  | zero => intro _; simp [sh]
  | succ d ih =>
    intro hd
    rw [← ih (by omega)]
    have hk : l.length - (d + 1) < l.length := by omega
    have hn := need_sh hk
    have e1 : l.length - d = l.length - (d + 1) + 1 := by omega
    rw [List.drop_eq_getElem_cons hk, e1]
    simp only [keepTo, hn, Option.getD_some]
    cases hp : pN l[l.length - (d + 1)] (sh (l.drop (l.length - (d + 1) + 1))).2 with
    | true => rw [sh_yes hp]; simp [hk]
    | false => rw [sh_no hp]; simp
theorem kept_sh (l : List Stp) : keepTo l (neededL l) l.length = (sh l).1 := by
  have := keep_sh l l.length (Nat.le_refl _)
  simpa [keepTo] using this.symm
theorem sh_idem (l : List Stp) : sh (sh l).1 = sh l := by
  induction l with
  | nil => rfl
  | cons t l ih =>
    cases hp : pN t (sh l).2 with
    | true =>
      rw [sh_yes hp]
      show sh (t :: (sh l).1) = _
      rw [sh_yes (by rw [ih]; exact hp), ih]
    | false => rw [sh_no hp]; exact ih
theorem sh_mem {l : List Stp} : ∀ t ∈ (sh l).1, t ∈ l := by
  induction l with
  | nil => intro t h; cases h
  | cons u l ih =>
    intro t h
    cases hp : pN u (sh l).2 with
    | true =>
      rw [sh_yes hp] at h
      rcases List.mem_cons.1 h with h | h
      · subst h; simp
      · simp [ih t h]
    | false => rw [sh_no hp] at h; simp [ih t h]
theorem sh_len (l : List Stp) : (sh l).1.length ≤ l.length := by
  induction l with
  | nil => exact Nat.le_refl _
  | cons u l ih =>
    cases hp : pN u (sh l).2 with
    | true => rw [sh_yes hp]; simpa using ih
    | false => rw [sh_no hp]; simp; omega

theorem reg_set {R : List Int} {x r : Nat} {v : Int} : reg (R.set x v) r = if r = x ∧ x < R.length then v else reg R r := by
  unfold reg
  rw [List.getElem?_set]
  by_cases h : x = r
  · subst h
    by_cases h2 : x < R.length
    · simp [h2]
    · simp [h2]
  · rw [if_neg h, if_neg (fun e => h e.1.symm)]
theorem val_same {t : Stp} {R R' ins : List Int} (h : ∀ r ∈ readsOf t, reg R r = reg R' r) (hop : t.op < 6) : valOf t R' ins = valOf t R ins := by
  obtain ⟨op, x, y, z⟩ := t
  simp only at hop
  have : op = 0 ∨ op = 1 ∨ op = 2 ∨ op = 3 ∨ op = 4 ∨ op = 5 := by omega
  rcases this with rfl | rfl | rfl | rfl | rfl | rfl <;> simp [valOf, readsOf] at h ⊢
  · rw [h.1, h.2]
  · rw [h.1, h.2]
  · rw [h.1, h.2]
  · rw [h]
theorem play_sh {B : Nat} {ins : List Int} (l : List Stp) : ∀ (R R' : List Int) (s : ByteArray), R.length = R'.length → (∀ r, (sh l).2 r = true → reg R r = reg R' r) → (play B ins l R s).2 ≠ 10 → play B ins (sh l).1 R' s = play B ins l R s := by
  induction l with
  | nil => intro R R' s _ _ _; rfl
  | cons t l ih =>
    intro R R' s hl hr hp
    by_cases h6 : t.op < 6
    · by_cases hb : B ≤ (valOf t R ins).natAbs
      · rw [play_big h6 hb] at hp; exact absurd rfl hp
      · rw [play_set h6 hb] at hp ⊢
        cases hn : pN t (sh l).2 with
        | true =>
          rw [sh_yes hn] at hr ⊢
          have hv : valOf t R' ins = valOf t R ins := val_same (fun r h => hr r ((wAhead_iff _ _ _).2 (.inl h))) h6
          rw [play_set h6 (by rw [hv]; exact hb), hv]
          refine ih _ _ s (by simpa using hl) (fun r h => ?_) hp
          rw [reg_set, reg_set, ← hl]
          by_cases e : r = t.x
          · by_cases e2 : t.x < R.length
            · simp [e, e2]
            · have : ¬ t.x < R'.length := by omega
              simp [e, reg, List.getElem?_eq_none (Nat.le_of_not_lt e2), List.getElem?_eq_none (Nat.le_of_not_lt this)]
          · simp only [e, false_and, if_false]
            exact hr r ((wAhead_iff _ _ _).2 (.inr ⟨h, fun h => e h.2⟩))
        | false =>
          rw [sh_no hn] at hr ⊢
          refine ih _ _ s (by simpa using hl) (fun r h => ?_) hp
          rw [reg_set]
          have hx : r ≠ t.x := fun e => by
            simp [pN] at hn; rw [← e] at hn; rw [h] at hn; simp at hn
          simp only [hx, false_and, if_false]
          exact hr r h
    · have hn : pN t (sh l).2 = true := by simp [pN]; omega
      rw [sh_yes hn] at hr ⊢
      have hx : reg R t.x = reg R' t.x := hr _ ((wAhead_iff _ _ _).2 (.inl (by simp [readsOf, show 6 ≤ t.op by omega])))
      have hr' : ∀ r, (sh l).2 r = true → reg R r = reg R' r := fun r h => hr r ((wAhead_iff _ _ _).2 (.inr ⟨h, fun h => by omega⟩))
      by_cases e6 : t.op = 6
      · rw [play_out e6] at hp ⊢
        rw [play_out e6, ← hx]
        exact ih _ _ _ hl hr' hp
      · by_cases h0 : reg R t.x = 0
        · rw [play_end (by omega) h0, play_end (by omega) (by rw [← hx]; exact h0)]
        · rw [play_on (by omega) h0] at hp ⊢
          rw [play_on (by omega) (by rw [← hx]; exact h0)]
          exact ih _ _ _ hl hr' hp

/-- Right steps behind those that have set M. -/
def okL (regs ins : Nat) : (Nat → Bool) → List Stp → Prop
  | _, [] => True
  | M, t :: l => properB t regs ins = true ∧ (∀ r ∈ readsOf t, r < regs ∧ M r = true) ∧ okL regs ins (if t.op ≤ 5 then upd t.x true M else M) l
theorem right_iff (l : List Stp) (k : Nat) (t : Stp) (regs ins : Nat) : rightB l k t regs ins = true ↔ properB t regs ins = true ∧ ∀ r ∈ readsOf t, r < regs ∧ Set l k r = true := by
  unfold rightB Set
  simp [List.all_eq_true]
theorem set_next {l : List Stp} {k : Nat} (hk : k < l.length) : Set l (k + 1) = if l[k].op ≤ 5 then upd l[k].x true (Set l k) else Set l k := by
  by_cases h : l[k].op ≤ 5
  · rw [if_pos h, Set_yes hk h]; rfl
  · rw [if_neg h, Set_no hk h]
theorem okL_from (l : List Stp) (regs ins : Nat) : ∀ d, d ≤ l.length → ((∀ j (h : j < l.length), l.length - d ≤ j → rightB l j l[j] regs ins = true) ↔ okL regs ins (Set l (l.length - d)) (l.drop (l.length - d))) := by
  intro d
  induction d with
  | zero => intro _; simp [okL]; intro j h1 h2; omega
  | succ d ih =>
    intro hd
    have hk : l.length - (d + 1) < l.length := by omega
    have e1 : l.length - d = l.length - (d + 1) + 1 := by omega
    have ih := ih (by omega)
    rw [e1] at ih
    rw [List.drop_eq_getElem_cons hk]
    unfold okL
    rw [← set_next hk, ← ih, ← and_assoc, ← right_iff]
    constructor
    · intro h; exact ⟨h _ hk (Nat.le_refl _), fun j h1 h2 => h j h1 (by omega)⟩
    · rintro ⟨h1, h2⟩ j hj hd2
      by_cases e : j = l.length - (d + 1)
      · subst e; exact h1
      · exact h2 j hj (by omega)
theorem okL_iff (l : List Stp) (regs ins : Nat) : (∀ j (h : j < l.length), rightB l j l[j] regs ins = true) ↔ okL regs ins (fun _ => false) l := by
  have := okL_from l regs ins l.length (Nat.le_refl _)
  simp only [Nat.sub_self, Nat.zero_le, forall_const, List.drop_zero, Set_zero] at this
  exact this
theorem okL_want {regs ins : Nat} (l : List Stp) : ∀ M, okL regs ins M l → ∀ r, (sh l).2 r = true → M r = true := by
  induction l with
  | nil => intro M _ r h; cases h
  | cons t l ih =>
    rintro M ⟨hp, hr, hl⟩ r h
    have hk := ih _ hl r
    have key : (sh l).2 r = true → ¬ (t.op ≤ 5 ∧ r = t.x) → M r = true := fun h1 h2 => by
      have := hk h1
      by_cases h5 : t.op ≤ 5
      · rw [if_pos h5] at this
        unfold upd at this
        rwa [if_neg (fun e => h2 ⟨h5, e⟩)] at this
      · rwa [if_neg h5] at this
    cases hn : pN t (sh l).2 with
    | true =>
      rw [sh_yes hn] at h
      rcases (wAhead_iff _ _ _).1 h with h | h
      · exact (hr r h).2
      · exact key h.1 h.2
    | false =>
      rw [sh_no hn] at h
      refine key h (fun e => ?_)
      simp [pN] at hn
      rw [← e.2, h] at hn
      simp at hn
theorem okL_sh {regs ins : Nat} (l : List Stp) : ∀ M M', okL regs ins M l → (∀ r, (sh l).2 r = true → M' r = true) → okL regs ins M' (sh l).1 := by
  induction l with
  | nil => intro M M' _ _; trivial
  | cons t l ih =>
    rintro M M' ⟨hp, hr, hl⟩ h
    cases hn : pN t (sh l).2 with
    | true =>
      rw [sh_yes hn] at h ⊢
      refine ⟨hp, fun r hm => ⟨(hr r hm).1, h r ((wAhead_iff _ _ _).2 (.inl hm))⟩, ih _ _ hl (fun r hw => ?_)⟩
      by_cases h5 : t.op ≤ 5
      · rw [if_pos h5]
        unfold upd
        by_cases e : r = t.x
        · rw [if_pos e]
        · rw [if_neg e]; exact h r ((wAhead_iff _ _ _).2 (.inr ⟨hw, fun h => e h.2⟩))
      · rw [if_neg h5]; exact h r ((wAhead_iff _ _ _).2 (.inr ⟨hw, fun h => h5 h.1⟩))
    | false =>
      rw [sh_no hn] at h ⊢
      exact ih _ _ hl h

/-- A list's bytes as a text. -/
theorem g_list (l : List UInt8) (i : Nat) : g ⟨l.toArray⟩ i = (l[i]?.getD 0).toNat := by
  unfold g bt
  have hs : (⟨l.toArray⟩ : ByteArray).size = l.length := by simp [ByteArray.size]
  by_cases h : i < l.length
  · rw [dif_pos (by rw [hs]; exact h)]
    rw [List.getElem?_eq_getElem h]
    rfl
  · rw [dif_neg (by rw [hs]; exact h), List.getElem?_eq_none (by omega)]
    rfl
theorem flat_len (q : List Stp) : (q.flatMap stB).length = 4 * q.length := by
  induction q with
  | nil => rfl
  | cons t q ih => simp [ih, stB]; omega
theorem flat_at (q : List Stp) : ∀ k (h : k < q.length) j, j < 4 → (q.flatMap stB)[4 * k + j]? = (stB q[k])[j]? := by
  induction q with
  | nil => intro k h; simp at h
  | cons t q ih =>
    intro k h j hj
    rw [List.flatMap_cons]
    have hl : (stB t).length = 4 := rfl
    cases k with
    | zero => rw [List.getElem?_append_left (by rw [hl]; omega)]; simp
    | succ k =>
      rw [List.getElem?_append_right (by rw [hl]; omega), hl, show 4 * (k + 1) + j - 4 = 4 * k + j by omega]
      rw [ih k (by simpa using h) j hj]
      rfl
theorem u8n {n : Nat} (h : n < 256) : (UInt8.ofNat n).toNat = n := UInt8.toNat_ofNat_of_lt' (by simpa using h)
section
variable {r i : Nat} {q : List Stp}
theorem join_size : (⟨(joined r i q).toArray⟩ : ByteArray).size = 6 + 4 * q.length := by
  show ((joined r i q).toArray).size = _
  simp only [joined, List.size_toArray, List.length_append, flat_len, List.length_cons, List.length_nil]
theorem join_nst : nst ⟨(joined r i q).toArray⟩ = q.length := by unfold nst; rw [join_size]; omega
theorem join_step (hs : ∀ t ∈ q, Small t) {k : Nat} (hk : k < q.length) : stepAt ⟨(joined r i q).toArray⟩ k = q[k] := by
  have h0 := hs _ (List.getElem_mem hk)
  have key : ∀ j, j < 4 → g ⟨(joined r i q).toArray⟩ (6 + 4 * k + j) = ((stB q[k])[j]?.getD 0).toNat := fun j hj => by
    rw [g_list]
    unfold joined
    rw [List.getElem?_append_right (by simp; omega), show 6 + 4 * k + j - List.length [82, 85, UInt8.ofNat r, UInt8.ofNat i, UInt8.ofNat (q.length % 256), UInt8.ofNat (q.length / 256)] = 4 * k + j by simp; omega, flat_at q k hk j hj]
  have k0 := key 0 (by omega)
  have k1 := key 1 (by omega)
  have k2 := key 2 (by omega)
  have k3 := key 3 (by omega)
  rw [Nat.add_zero] at k0
  unfold stepAt
  rw [k0, k1, k2, k3]
  obtain ⟨a, b, c, d⟩ := h0
  cases hq : q[k] with
  | mk op x y z =>
    rw [hq] at a b c d
    simp [stB]
    exact ⟨a, b, c, d⟩
theorem join_steps (hs : ∀ t ∈ q, Small t) : steps ⟨(joined r i q).toArray⟩ = q := by
  apply List.ext_getElem
  · rw [steps, stepsTo_len, join_nst]
  · intro k h1 h2
    rw [steps_at]
    exact join_step hs h2
theorem join_g (j : Nat) (hj : j < 6) : g ⟨(joined r i q).toArray⟩ j = (([82, 85, UInt8.ofNat r, UInt8.ofNat i, UInt8.ofNat (q.length % 256), UInt8.ofNat (q.length / 256)] : List UInt8)[j]?.getD 0).toNat := by
  rw [g_list]; unfold joined; rw [List.getElem?_append_left (by simpa using hj)]
theorem join_r (hr : r < 256) : g ⟨(joined r i q).toArray⟩ 2 = r := by rw [join_g 2 (by omega)]; exact u8n hr
theorem join_i (hi : i < 256) : g ⟨(joined r i q).toArray⟩ 3 = i := by rw [join_g 3 (by omega)]; exact u8n hi
theorem join_begun (h1 : 1 ≤ r) (h2 : r ≤ 128) (h3 : i ≤ 32) (hq : q.length ≤ 2000) : begunB ⟨(joined r i q).toArray⟩ = true := by
  have e0 : g ⟨(joined r i q).toArray⟩ 0 = 82 := by rw [join_g 0 (by omega)]; rfl
  have e1 : g ⟨(joined r i q).toArray⟩ 1 = 85 := by rw [join_g 1 (by omega)]; rfl
  have e4 : g ⟨(joined r i q).toArray⟩ 4 = q.length % 256 := by rw [join_g 4 (by omega)]; exact u8n (by omega)
  have e5 : g ⟨(joined r i q).toArray⟩ 5 = q.length / 256 := by rw [join_g 5 (by omega)]; exact u8n (by omega)
  unfold begunB
  rw [e0, e1, e4, e5, join_r (by omega), join_i (by omega), join_size]
  simp only [Bool.and_eq_true, decide_eq_true_eq]
  exact ⟨⟨⟨⟨⟨⟨by omega, trivial, trivial⟩, h1⟩, h2⟩, h3⟩, by omega⟩, by omega⟩
theorem join_vfy (h1 : 1 ≤ r) (h2 : r ≤ 128) (h3 : i ≤ 32) (hq : q.length ≤ 2000) (hs : ∀ t ∈ q, Small t) (ho : okL r i (fun _ => false) q) : vfy ⟨(joined r i q).toArray⟩ = (0, 0) := by
  have hr := (okL_iff q r i).2 ho
  refine vfy_ok (join_begun h1 h2 h3 hq) (fun j hj => ?_)
  rw [join_nst] at hj
  rw [join_steps hs, join_step hs hj, join_r (by omega), join_i (by omega)]
  exact hr j hj
end
theorem vfy_okL {s : ByteArray} (hv : vfy s = (0, 0)) (hb : begunB s = true) : okL (g s 2) (g s 3) (fun _ => false) (steps s) := by
  rw [← okL_iff]
  intro j hj
  have hj' : j < nst s := by rw [steps, stepsTo_len] at hj; exact hj
  cases h : rightB (steps s) j (steps s)[j] (g s 2) (g s 3) with
  | true => rfl
  | false =>
    exfalso
    have h2 : (List.range (nst s)).find? (fun k => !rightB (steps s) k (stepAt s k) (g s 2) (g s 3)) ≠ none := by
      rw [Ne, List.find?_eq_none]
      intro H
      have := H j (by simpa using hj')
      rw [steps_at] at h
      simp [h] at this
    unfold vfy at hv
    rw [hb] at hv
    simp only [Bool.true_eq_false, if_false] at hv
    split at hv
    · cases hv
    · rename_i he; exact h2 he
/-- What is left of a right code. -/
structure Left (s : ByteArray) : Prop where
  size : (shr s).size ≤ s.size
  head : (shr s).extract 0 4 = s.extract 0 4
  vfy : vfy (shr s) = (0, 0)
  again : shr (shr s) = shr s
  same : ∀ (B : Nat) (inp : ByteArray), (exe B s inp).2 ≠ 10 → exe B (shr s) inp = exe B s inp
theorem left_any {s : ByteArray} (hv : vfy s = (0, 0)) (hb : begunB s = true) : Left s := by
  have hj := shr_joined hb
  have hn : (steps s).length = nst s := stepsTo_len s _
  rw [← hn, kept_sh] at hj
  obtain ⟨h6, -, h2000, hsz, hr1, hr2, hi⟩ := nst_of hb
  have hlen : (sh (steps s)).1.length ≤ nst s := by rw [← hn]; exact sh_len _
  have hsm : ∀ t ∈ (sh (steps s)).1, Small t := fun t ht => steps_small s t (sh_mem t ht)
  have hok := vfy_okL hv hb
  have hok2 : okL (g s 2) (g s 3) (fun _ => false) (sh (steps s)).1 := okL_sh _ _ _ hok (okL_want _ _ hok)
  have hv2 : Pu.vfy (shr s) = (0, 0) := by rw [hj]; exact join_vfy hr1 hr2 hi (by omega) hsm hok2
  have hst : steps (shr s) = (sh (steps s)).1 := by rw [hj]; exact join_steps hsm
  have hg2 : g (shr s) 2 = g s 2 := by rw [hj]; exact join_r (by omega)
  have hg3 : g (shr s) 3 = g s 3 := by rw [hj]; exact join_i (by omega)
  have hb2 : begunB (shr s) = true := by rw [hj]; exact join_begun hr1 hr2 hi (by omega)
  refine ⟨?_, ?_, hv2, ?_, fun B inp h => ?_⟩
  · rw [hj, join_size]; omega
  · have e : (shr s).extract 0 4 = (s.extract 0 4 ++ (⟨#[UInt8.ofNat (cntTo (neededL (steps s)) (nst s) % 256), UInt8.ofNat (cntTo (neededL (steps s)) (nst s) / 256)]⟩ ++ bodyTo s (neededL (steps s)) (nst s))).extract 0 4 := by
      unfold shr; rw [ByteArray.append_assoc]
    rw [e]
    have h4 : (s.extract 0 4).size = 4 := by rw [ByteArray.size_extract]; omega
    rw [ByteArray.extract_append_eq_left h4.symm]
  · have hj2 := shr_joined hb2
    have hn2 : (steps (shr s)).length = nst (shr s) := stepsTo_len _ _
    rw [← hn2, kept_sh, hst, sh_idem, hg2, hg3, ← hj] at hj2
    exact hj2
  · unfold exe at *
    rw [hv] at h ⊢
    rw [hv2, hst, hg3]
    simp only [ne_eq, not_true_eq_false, if_false] at h ⊢
    cases hin : inps inp with
    | none => rfl
    | some ins =>
      rw [hin] at h
      simp only at h ⊢
      by_cases hl : ins.length = g s 3
      · simp only [hl, not_true_eq_false, if_false] at h ⊢
        exact play_sh _ _ _ _ rfl (fun _ _ => rfl) h
      · simp [hl]
end Go.Proofs.YtmnfndpbblpjiaaDoor.Pu

/- rulerkeep's Shrunk. -/
namespace Go.Proofs.YtmnfndpbblpjiaaDoor
open Go.RowKit Pu

def shA : ByteArray := ⟨[82, 85, 1, 0, 3, 0, 1, 0, 5, 0, 1, 0, 7, 0, 6, 0, 0, 0].toArray⟩
def shB : ByteArray := ⟨[82, 85, 1, 0, 2, 0, 1, 0, 7, 0, 6, 0, 0, 0].toArray⟩
theorem shA_vfy : vfy shA = (0, 0) := by kernel_rfl
theorem shA_shr : shr shA = shB := by kernel_rfl
set_option maxHeartbeats 400000 in
theorem short_any (w : World) : Calls Tryd.prog 13 #[] w fun e w' => e = .returned (.bool true) ∧ Mod (fun _ => False) w w' := by
  have h := shrink_any shA w (by decide) shA_vfy
  rw [shA_shr] at h
  unfold shA shB at h
  go_enter Tryd.func13, Tryd.ntmps13
  go_wp2_with fail
  refine h.mono ?_
  rintro e w1 ⟨rfl, hm1⟩
  clear h
  go_wp2_with fail
  go_ret
  exact ⟨rfl, hm1⟩
set_option maxHeartbeats 1600000 in
set_option maxRecDepth 4000 in
theorem shrunk_walk (s inp : ByteArray) (w : World) (hs : s.size ≤ maxLen) (hi : inp.size ≤ maxLen) : Calls Tryd.prog 4 #[.string s, .string inp] w fun e w' => e = .returned (.bool true) ∧ Mod (fun _ => False) w w' := by
  have hsh := short_any w
  by_cases hl : s.size ≤ 8006
  · rcases vfy_or s with hv | ⟨hv, hbg⟩
    · have h1 := fun w => verify_any s w hl
      rw [hv] at h1
      have h2 := fun w => shrink_bad s w hl hv
      generalize (vfy s).2 = v2 at *
      clear hv hl
      go_enter Tryd.func4, Tryd.ntmps4
      go_wp2_with fail
      refine hsh.mono ?_
      rintro e w1 ⟨rfl, k1⟩
      go_wp2_with fail
      refine (h1 _).mono ?_
      rintro e w2 ⟨rfl, k2⟩
      go_wp2_with fail
      refine (h2 _).mono ?_
      rintro e w3 ⟨rfl, k3⟩
      have hm := k1.trans (k2.trans k3)
      clear k1 k2 k3 h1 h2 hsh
      go_wp2_with fail
      go_ret
      exact ⟨rfl, hm⟩
    · have hL := left_any hv hbg
      have h6 := (nst_of hbg).1
      have hsz := hL.size
      have h1 := fun w => verify_any s w hl
      rw [hv] at h1
      have h2 := fun w => shrink_any s w hl hv
      have h3 := fun w => verify_any (shr s) w (by omega)
      rw [hL.vfy] at h3
      have h4 := fun w => shrink_any (shr s) w (by omega) hL.vfy
      rw [hL.again] at h4
      have hh4 : 4 ≤ (shr s).size := by
        have h := congrArg ByteArray.size hL.head
        rw [ByteArray.size_extract, ByteArray.size_extract] at h
        omega
      have HHd : Hid ((shr s).extract 0 4 = s.extract 0 4) := hL.head
      have HS : Hid _ := hL.same
      have i1 : ¬ ((s.size : Int) < ((shr s).size : Int)) := by omega
      have i4 : (4 : Int) ≤ ((shr s).size : Int) := by omega
      have i5 : (4 : Int) ≤ (s.size : Int) := by omega
      generalize hc : shr s = c at *
      clear hc hL hv
      go_enter Tryd.func4, Tryd.ntmps4
      go_wp2_with fail
      refine hsh.mono ?_
      rintro e w1 ⟨rfl, k1⟩
      go_wp2_with fail
      refine (h1 _).mono ?_
      rintro e w2 ⟨rfl, k2⟩
      go_wp2_with fail
      refine (h2 _).mono ?_
      rintro e w3 ⟨rfl, k3⟩
      go_wp2_with fail
      refine (h3 _).mono ?_
      rintro e w4 ⟨rfl, k4⟩
      go_wp2_with fail
      refine (h4 _).mono ?_
      rintro e w5 ⟨rfl, k5⟩
      have hm5 := k1.trans (k2.trans (k3.trans (k4.trans k5)))
      clear k1 k2 k3 k4 k5 h1 h2 h3 h4 hsh
      have hE := HHd.out
      go_wp2_with fail
      go_quiet (fail)
      have hm6 := hm5.drewN nq
      clear hE hm5
      by_cases hi2 : inp.size ≤ 140
      · obtain ⟨nn, hnn⟩ : ∃ nn : Nat, nn = 8000 := ⟨8000, rfl⟩
        obtain ⟨B, hB⟩ : ∃ B : Nat, B = 10 ^ nn := ⟨_, rfl⟩
        have h5 := fun w => exec_any B nn hB hnn s inp w hl hi2
        have h6' := fun w => exec_any B nn hB hnn c inp w (by omega) hi2
        by_cases h10 : (exe B s inp).2 = 10
        · generalize exe B c inp = r2 at *
          obtain ⟨r1, e1, hr1⟩ : ∃ r1 e1, exe B s inp = (r1, e1) := ⟨_, _, rfl⟩
          rw [hr1] at h5 h10
          have h10' : e1 = 10 := h10
          subst h10'
          clear hB hnn HS h10 hr1
          go_wp2_with fail
          refine (h5 _).mono ?_
          rintro e w6 ⟨rfl, k6⟩
          go_wp2_with fail
          refine (h6' _).mono ?_
          rintro e w7 ⟨rfl, k7⟩
          have hmE := hm6.trans (k6.trans k7)
          clear h5 h6' k6 k7 hm6
          go_wp2_with fail
          go_ret
          exact ⟨rfl, hmE⟩
        · have hsame := HS.out B inp h10
          rw [hsame] at h6'
          have hb : (((exe B s inp).2 : Int) == 10) = false := by rw [beq_eq_false_iff_ne]; omega
          clear hsame h10
          generalize exe B s inp = r1 at *
          clear hB hnn HS
          go_wp2_with fail
          refine (h5 _).mono ?_
          rintro e w6 ⟨rfl, k6⟩
          go_wp2_with fail
          refine (h6' _).mono ?_
          rintro e w7 ⟨rfl, k7⟩
          have hmE := hm6.trans (k6.trans k7)
          clear h5 h6' k6 k7 hm6
          go_wp2_with fail
          go_ret
          exact ⟨rfl, hmE⟩
      · have h5 := fun w => exec_long s inp w (.inr (by omega)) hs hi
        have h6' := fun w => exec_long c inp w (.inr (by omega)) (by unfold maxLen; omega) hi
        go_wp2_with fail
        refine (h5 _).mono ?_
        rintro e w6 ⟨rfl, rfl⟩
        go_wp2_with fail
        refine (h6' _).mono ?_
        rintro e w7 ⟨rfl, rfl⟩
        clear h5 h6'
        go_wp2_with fail
        go_ret
        exact ⟨rfl, hm6⟩
  · have h1 := fun w => verify_long s w (by omega) hs
    have h2 := fun w => shrink_long s w (by omega) hs
    go_enter Tryd.func4, Tryd.ntmps4
    go_wp2_with fail
    refine hsh.mono ?_
    rintro e w1 ⟨rfl, k1⟩
    go_wp2_with fail
    refine (h1 _).mono ?_
    rintro e w2 ⟨rfl, k2⟩
    go_wp2_with fail
    refine (h2 _).mono ?_
    rintro e w3 ⟨rfl, k3⟩
    have hm := k1.trans (k2.trans k3)
    clear k1 k2 k3 h1 h2 hsh
    go_wp2_with fail
    go_ret
    exact ⟨rfl, hm⟩
end Go.Proofs.YtmnfndpbblpjiaaDoor

/- strconv.Itoa lies in this program as the library's contract on it asks. -/
namespace Go.Proofs.YtmnfndpbblpjiaaDoor
open Go.Shelf

def Tryd.laysItoa_ren : Go.Shelf.Ren := ⟨fun | 171 => 18 | 243 => 26 | 246 => 33 | 283 => 42 | 284 => 43 | 285 => 44 | 286 => 45 | 129 => 50 | 317 => 49 | 318 => 51 | 319 => 52 | 320 => 53 | 337 => 59 | 338 => 60 | n => n, fun | 3 => 3 | 9 => 9 | 2 => 2 | 4 => 4 | 171 => 81 | 0 => 0 | 53 => 82 | 37 => 38 | 5 => 5 | 173 => 85 | 212 => 90 | 51 => 91 | 20 => 20 | 213 => 92 | 46 => 94 | 232 => 104 | 233 => 105 | n => n, fun | 17 => 0 | 18 => 1 | 19 => 2 | n => n⟩
theorem Tryd.laysItoa : LaysM.n171 Tryd.prog Tryd.laysItoa_ren where
  mixed := by kernel_rfl
  f129 := Tryd.func50.trans (congrArg some (by kernel_rfl))
  f171 := Tryd.func18.trans (congrArg some (by kernel_rfl))
  f243 := Tryd.func26.trans (congrArg some (by kernel_rfl))
  f246 := Tryd.func33.trans (congrArg some (by kernel_rfl))
  f283 := Tryd.func42.trans (congrArg some (by kernel_rfl))
  f284 := Tryd.func43.trans (congrArg some (by kernel_rfl))
  f285 := Tryd.func44.trans (congrArg some (by kernel_rfl))
  f286 := Tryd.func45.trans (congrArg some (by kernel_rfl))
  f317 := Tryd.func49.trans (congrArg some (by kernel_rfl))
  f318 := Tryd.func51.trans (congrArg some (by kernel_rfl))
  f319 := Tryd.func52.trans (congrArg some (by kernel_rfl))
  f320 := Tryd.func53.trans (congrArg some (by kernel_rfl))
  f337 := Tryd.func59.trans (congrArg some (by kernel_rfl))
  f338 := Tryd.func60.trans (congrArg some (by kernel_rfl))
  t0 := Tryd.underlying0
  a0 := Tryd.isAgg0
  z0 := Tryd.sizeOf0
  v0 := Tryd.zeroValue0
  t2 := Tryd.underlying2
  a2 := Tryd.isAgg2
  z2 := Tryd.sizeOf2
  v2 := Tryd.zeroValue2
  t3 := Tryd.underlying3
  a3 := Tryd.isAgg3
  z3 := Tryd.sizeOf3
  v3 := Tryd.zeroValue3
  t4 := Tryd.underlying4
  a4 := Tryd.isAgg4
  z4 := Tryd.sizeOf4
  v4 := Tryd.zeroValue4
  t5 := Tryd.underlying5
  a5 := Tryd.isAgg5
  z5 := Tryd.sizeOf5
  v5 := Tryd.zeroValue5
  t9 := Tryd.underlying9
  a9 := Tryd.isAgg9
  z9 := Tryd.sizeOf9
  v9 := Tryd.zeroValue9
  t20 := Tryd.underlying20
  a20 := Tryd.isAgg20
  z20 := Tryd.sizeOf20
  v20 := Tryd.zeroValue20
  t37 := Tryd.underlying38
  a37 := Tryd.isAgg38
  z37 := Tryd.sizeOf38
  v37 := Tryd.zeroValue38
  t46 := Tryd.underlying94
  a46 := Tryd.isAgg94
  z46 := Tryd.sizeOf94
  v46 := Tryd.zeroValue94
  t51 := Tryd.underlying91
  a51 := Tryd.isAgg91
  z51 := Tryd.sizeOf91
  v51 := Tryd.zeroValue91
  t53 := Tryd.underlying82
  a53 := Tryd.isAgg82
  z53 := Tryd.sizeOf82
  v53 := Tryd.zeroValue82
  t171 := Tryd.underlying81
  a171 := Tryd.isAgg81
  z171 := Tryd.sizeOf81
  v171 := Tryd.zeroValue81
  t173 := Tryd.underlying85
  a173 := Tryd.isAgg85
  z173 := Tryd.sizeOf85
  v173 := Tryd.zeroValue85
  t212 := Tryd.underlying90
  a212 := Tryd.isAgg90
  z212 := Tryd.sizeOf90
  v212 := Tryd.zeroValue90
  t213 := Tryd.underlying92
  a213 := Tryd.isAgg92
  z213 := Tryd.sizeOf92
  t232 := Tryd.underlying104
  a232 := Tryd.isAgg104
  z232 := Tryd.sizeOf104
  v232 := Tryd.zeroValue104
  t233 := Tryd.underlying105
  a233 := Tryd.isAgg105
  z233 := Tryd.sizeOf105
  v233 := Tryd.zeroValue105
  g17 := by kernel_rfl
  g18 := by kernel_rfl
  g19 := by kernel_rfl
  i0 := by kernel_rfl
  i2 := by kernel_rfl
  i3 := by kernel_rfl
  i4 := by kernel_rfl
  i5 := by kernel_rfl
  i9 := by kernel_rfl
  i20 := by kernel_rfl
  i37 := by kernel_rfl
  i46 := by kernel_rfl
  i51 := by kernel_rfl
  i53 := by kernel_rfl
  i171 := by kernel_rfl
  i173 := by kernel_rfl
  i212 := by kernel_rfl
  i232 := by kernel_rfl
  i233 := by kernel_rfl
  m17 := by kernel_rfl
  m18 := by kernel_rfl
  m19 := by kernel_rfl
end Go.Proofs.YtmnfndpbblpjiaaDoor

/- Numbers joined to a text of inputs, and read again: plain. -/
namespace Go.Proofs.YtmnfndpbblpjiaaDoor.Pu

def decB (n : Int) : List UInt8 := (if n < 0 then [45] else []) ++ decN n.natAbs
theorem dec_B (n : Int) : dec n = ⟨(decB n).toArray⟩ := rfl
/-- The first k numbers, joined. -/
def jnT (l : List Int) : Nat → List UInt8
  | 0 => []
  | k + 1 => jnT l k ++ (if 0 < k then [44] else []) ++ decB (l[k]?.getD 0)
def jnL (l : List Int) : ByteArray := ⟨(jnT l l.length).toArray⟩
theorem decB_len (n : Int) : (decB n).length ≤ 3 := by
  unfold decB decN
  split <;> split <;> simp
theorem decB_pos (n : Int) : 0 < (decB n).length := by
  unfold decB decN
  split <;> split <;> simp
theorem jnT_len (l : List Int) (k : Nat) : (jnT l k).length ≤ 4 * k := by
  induction k with
  | zero => simp [jnT]
  | succ k ih =>
    have := decB_len (l[k]?.getD 0)
    simp only [jnT, List.length_append]
    split <;> simp <;> omega
theorem decB_byte {n : Int} (h1 : -99 ≤ n) (h2 : n ≤ 99) : ∀ c ∈ decB n, c.toNat ≠ 44 := by
  intro c hc
  unfold decB at hc
  rcases List.mem_append.1 hc with hc | hc
  · split at hc
    · simp at hc; subst hc; decide
    · cases hc
  · rcases decN_get (n := n.natAbs) (by omega) with ⟨h, e⟩ | ⟨h, e⟩ <;> rw [e] at hc
    · rw [List.mem_singleton] at hc; rw [hc, ofNat_toNat (by omega)]; omega
    · rcases List.mem_cons.1 hc with hc | hc
      · rw [hc, ofNat_toNat (by omega)]; omega
      · rw [List.mem_singleton] at hc; rw [hc, ofNat_toNat (by omega)]; omega
theorem g_bytes (l : List UInt8) (i : Nat) : g ⟨l.toArray⟩ i = (l[i]?.getD 0).toNat := by
  unfold g bt
  have hs : (⟨l.toArray⟩ : ByteArray).size = l.length := by simp [ByteArray.size]
  by_cases h : i < l.length
  · rw [dif_pos (by rw [hs]; exact h), List.getElem?_eq_getElem h]
    rfl
  · rw [dif_neg (by rw [hs]; exact h), List.getElem?_eq_none (by omega)]
    rfl
theorem ba_ext {x y : ByteArray} (h : x.data.toList = y.data.toList) : x = y := by
  cases x; cases y
  simp only [ByteArray.mk.injEq]
  exact Array.toList_inj.1 h
theorem ba_size (l : List UInt8) : (⟨l.toArray⟩ : ByteArray).size = l.length := by simp [ByteArray.size]
theorem dec_inj {n m : Int} (h1 : -99 ≤ n) (h2 : n ≤ 99) (h3 : -99 ≤ m) (h4 : m ≤ 99) (h : dec n = dec m) : n = m := by
  have hx : (dec n).extract 0 (dec n).size = dec n := by apply ba_ext; simp
  have a := rdN_of (s := dec n) (f := 0) (e := (dec n).size) (by omega) (Nat.le_refl _) (.inl rfl) hx h1 h2
  have b := rdN_of (s := dec n) (f := 0) (e := (dec n).size) (by omega) (Nat.le_refl _) (.inl rfl) (hx.trans h) h3 h4
  rw [a] at b
  cases b; rfl
theorem numer_dec' {n : Int} (h1 : -99 ≤ n) (h2 : n ≤ 99) : numer (dec n) = some n := by
  obtain ⟨j, rfl⟩ : ∃ j : Nat, n = (j : Int) - 99 := ⟨(n + 99).toNat, by omega⟩
  refine numer_some (by omega) rfl (fun i hi e => ?_)
  have := dec_inj h1 h2 (by omega) (by omega) e
  omega
theorem inpSt_go {s : ByteArray} {f : Nat} {r : Nat × List Int} (m : Nat) (h : inpSt s f = some r) (hc : ∀ i, f ≤ i → i < f + m → i < s.size ∧ g s i ≠ 44) : inpSt s (f + m) = some r := by
  induction m with
  | zero => exact h
  | succ m ih =>
    have hh := ih (fun i a b => hc i a (by omega))
    have h2 := hc (f + m) (by omega) (by omega)
    obtain ⟨a, b⟩ := r
    show inpSt s (f + m + 1) = _
    refine inpSt_on hh (fun e => ?_)
    rcases e with e | e
    · have := h2.1; omega
    · exact h2.2 e
theorem jnT_pre (l : List Int) : ∀ d k, ∃ r, jnT l (k + d) = jnT l k ++ r ∧ (0 < k → 0 < d → ∃ r', r = 44 :: r') := by
  intro d
  induction d with
  | zero => intro k; exact ⟨[], by simp, fun _ h => by omega⟩
  | succ d ih =>
    intro k
    obtain ⟨r, hr, h44⟩ := ih k
    refine ⟨r ++ (if 0 < k + d then [44] else []) ++ decB (l[k + d]?.getD 0), ?_, fun hk _ => ?_⟩
    · rw [← Nat.add_assoc, jnT, hr]; simp
    · rw [if_pos (by omega)]
      by_cases hd : 0 < d
      · obtain ⟨r', rfl⟩ := h44 hk hd
        exact ⟨r' ++ ([44] ++ decB (l[k + d]?.getD 0)), by simp⟩
      · have : d = 0 := by omega
        subst this
        have hr0 : r = [] := by
          have := congrArg List.length hr
          simp at this
          exact this
        subst hr0
        exact ⟨_, rfl⟩
theorem ext_list (a b c : List UInt8) : (⟨(a ++ b ++ c).toArray⟩ : ByteArray).extract a.length (a.length + b.length) = ⟨b.toArray⟩ := by
  apply ba_ext
  simp
theorem jn_step {l : List Int} (hl : ∀ x ∈ l, -99 ≤ x ∧ x ≤ 99) {k : Nat} (hk : k < l.length) (f : Nat) (hf : f = (jnT l k).length + (if 0 < k then 1 else 0)) (h : inpSt (jnL l) f = some (f, l.take k)) :
    inpSt (jnL l) ((jnT l (k + 1)).length + 1) = some ((jnT l (k + 1)).length + 1, l.take (k + 1)) ∧ (k + 1 = l.length → (jnT l (k + 1)).length = (jnL l).size) := by
  obtain ⟨r, hr, h44⟩ := jnT_pre l (l.length - (k + 1)) (k + 1)
  rw [show k + 1 + (l.length - (k + 1)) = l.length by omega] at hr
  have hg : l[k]?.getD 0 = l[k] := by simp [hk]
  have hx := hl l[k] (List.getElem_mem hk)
  have hA : jnT l (k + 1) = (jnT l k ++ (if 0 < k then [44] else [])) ++ decB l[k] := by rw [jnT, hg]
  have hfl : f = (jnT l k ++ (if 0 < k then [44] else [])).length := by rw [hf]; split <;> simp
  generalize hP : jnT l k ++ (if 0 < k then [44] else []) = P at *
  have hS : jnL l = ⟨(P ++ decB l[k] ++ r).toArray⟩ := by unfold jnL; rw [hr, hA]
  have hp : (jnT l (k + 1)).length = f + (decB l[k]).length := by rw [hA, hfl]; simp
  have hsz : (jnL l).size = f + (decB l[k]).length + r.length := by rw [hS, ba_size, hfl]; simp; omega
  have hgo := inpSt_go (decB l[k]).length h (fun i a b => by
    refine ⟨by omega, ?_⟩
    rw [hS, g_bytes]
    have hb := decB_byte hx.1 hx.2
    rw [List.append_assoc, List.getElem?_append_right (by omega), List.getElem?_append_left (by omega), List.getElem?_eq_getElem (by omega)]
    exact hb _ (List.getElem_mem _))
  have hext : (jnL l).extract f (f + (decB l[k]).length) = dec l[k] := by rw [hS, hfl, ext_list]; rfl
  have hnum := numer_dec' hx.1 hx.2
  rw [← hext] at hnum
  have hend : f + (decB l[k]).length = (jnL l).size ∨ g (jnL l) (f + (decB l[k]).length) = 44 := by
    by_cases hd : 0 < l.length - (k + 1)
    · right
      obtain ⟨r', rfl⟩ := h44 (by omega) hd
      rw [hS, g_bytes, List.getElem?_append_right (by simp; omega)]
      simp [hfl]
    · left
      have hr0 : r = [] := by
        have e : l.length = k + 1 := by omega
        have := congrArg List.length hr
        rw [e] at this
        simp at this
        exact this
      rw [hsz, hr0]; rfl
  rw [hp]
  refine ⟨?_, fun e => ?_⟩
  · rw [inpSt_num hgo hend hnum, List.take_succ_eq_append_getElem hk]
  · rcases hend with hh | hh
    · exact hh
    · have hr0 : r = [] := by
        have := congrArg List.length hr
        rw [← e] at this
        simp at this
        exact this
      rw [hsz, hr0]; rfl
theorem jn_all {l : List Int} (hl : ∀ x ∈ l, -99 ≤ x ∧ x ≤ 99) {k : Nat} (h0 : 0 < k) (hk : k ≤ l.length) : inpSt (jnL l) ((jnT l k).length + 1) = some ((jnT l k).length + 1, l.take k) ∧ (k = l.length → (jnT l k).length = (jnL l).size) := by
  induction k with
  | zero => omega
  | succ k ih =>
    by_cases hk0 : 0 < k
    · refine jn_step hl (by omega) ((jnT l k).length + 1) (by rw [if_pos hk0]) (ih hk0 (by omega)).1
    · have : k = 0 := by omega
      subst this
      exact jn_step hl (by omega) 0 (by simp [jnT]) rfl
theorem jn_inps {l : List Int} (hl : ∀ x ∈ l, -99 ≤ x ∧ x ≤ 99) : inps (jnL l) = some l := by
  by_cases h : l.length = 0
  · have : l = [] := List.eq_nil_of_length_eq_zero h
    subst this
    rfl
  · obtain ⟨h1, h2⟩ := jn_all hl (k := l.length) (by omega) (Nat.le_refl _)
    have h3 := h2 rfl
    rw [h3, List.take_length] at h1
    refine inps_good ?_ h1
    obtain ⟨m, hm⟩ : ∃ m, l.length = m + 1 := ⟨l.length - 1, by omega⟩
    have := decB_pos (l[m]?.getD 0)
    rw [← h3, hm, jnT]
    simp only [List.length_append]
    omega
theorem jn_size (l : List Int) (h : l.length ≤ 34) : (jnL l).size ≤ 140 := by
  unfold jnL
  rw [ba_size]
  have := jnT_len l l.length
  omega
end Go.Proofs.YtmnfndpbblpjiaaDoor.Pu

/- Itoa of the numbers that can be inputs; numbers joined. -/
namespace Go.Proofs.YtmnfndpbblpjiaaDoor
open Go.RowKit Pu

/-- The library's table of powers lies as its text lays it. -/
def Tab (w : World) : Prop := Lib.TabIs Tryd.prog w (Rows.squaresRow.named.headD Rows.squaresRow.func) .u64 Lib.pow10Tab
theorem Tab.mod {w w' : World} (h : Tab w) (hm : Mod (fun _ => False) w w') : Tab w' := by
  unfold Tab Lib.TabIs World.var? at *
  obtain ⟨g, hg, h⟩ := Option.bind_eq_some_iff.1 h
  rw [hg]
  show (match w'.heap[g]? with | some (.cells cs _ _) => some cs | _ => none) = _
  split at h
  · rename_i cs ty z hc
    rw [hm.keep hc (fun f => f)]
    exact h
  · cases h
theorem Mod.grow (w : World) (k : Nat) (os : Array Obj) : Mod (fun _ => False) w (Sort.grow (w.drewN k) os) := by
  refine ⟨rfl, rfl, rfl, ?_, fun i hi _ => ?_⟩
  · show w.heap.size ≤ (w.heap ++ os).size
    simp
  · show (w.heap ++ os)[i]? = w.heap[i]?
    rw [Array.getElem?_append_left hi]
theorem itoa_dec : ∀ i : Nat, i < 199 → Lib.itoa ((i : Int) - 99) = decB ((i : Int) - 99) := by decide +kernel
theorem itoaN_any (n : Int) (h1 : -99 ≤ n) (h2 : n ≤ 99) (w : World) (hT : Tab w) : Calls Tryd.prog 18 #[.int .i64 n] w fun e w' => e = .returned (.string (dec n)) ∧ Mod (fun _ => False) w w' := by
  obtain ⟨i, rfl⟩ : ∃ i : Nat, n = (i : Int) - 99 := ⟨(n + 99).toNat, by omega⟩
  refine (Any.strconv_Itoa Tryd.laysItoa _ (by omega) (by omega) w hT).mono ?_
  rintro e w' ⟨rfl, k, os, rfl⟩
  exact ⟨by rw [itoa_dec i (by omega)]; rfl, Mod.grow w k os⟩
end Go.Proofs.YtmnfndpbblpjiaaDoor

/- rulerkeep's small helpers. -/
namespace Go.Proofs.YtmnfndpbblpjiaaDoor
open Go.RowKit Pu

/-- The number that a raw one picks. -/
def pk (c n : Int) : Int := (if c < 0 then -(c + 1) else c) % n
def plc (c : Int) : Int := pk c 199 - 99
theorem pk_range (c n : Int) (h : 0 < n) : 0 ≤ pk c n ∧ pk c n < n := ⟨Int.emod_nonneg _ (by omega), Int.emod_lt_of_pos _ h⟩
theorem plc_range (c : Int) : -99 ≤ plc c ∧ plc c ≤ 99 := by
  have := pk_range c 199 (by omega)
  unfold plc
  omega
def isI (c : Int) : Prop := -9223372036854775808 ≤ c ∧ c ≤ 9223372036854775807
set_option maxHeartbeats 400000 in
theorem kpick_any (c n : Int) (w : World) (hc : isI c) (hn : 0 < n) (hn2 : n < 1000) : Calls Tryd.prog 6 #[.int .i64 c, .int .i64 n] w fun e w' => e = .returned (.int .i64 (pk c n)) ∧ w = w' := by
  obtain ⟨c1, c2⟩ := hc
  have hne : (n == 0) = false := by rw [beq_eq_false_iff_ne]; omega
  have hn0 : n ≠ 0 := by omega
  by_cases h : c < 0
  · have HP : Hid (pk c n = (-(c + 1)) % n) := show pk c n = _ by unfold pk; rw [if_pos h]
    have w1 : IntKind.i64.wrap (c + 1) = c + 1 := by simp [IntKind.wrap, IntKind.signed, IntKind.bits]; omega
    have w2 : IntKind.i64.wrap (-(c + 1)) = -(c + 1) := by simp [IntKind.wrap, IntKind.signed, IntKind.bits]; omega
    have hb := Int.emod_nonneg (-(c + 1)) hn0
    have hb2 := Int.emod_lt_of_pos (-(c + 1)) hn
    have ht : (-(c + 1)).tmod n = (-(c + 1)) % n := Int.tmod_eq_emod_of_nonneg (by omega)
    have w3 : IntKind.i64.wrap ((-(c + 1)).tmod n) = (-(c + 1)) % n := by rw [ht]; simp [IntKind.wrap, IntKind.signed, IntKind.bits]; omega
    go_enter Tryd.func6, Tryd.ntmps6
    go_wp2_with fail
    go_ret
    exact ⟨by rw [HP.out]; rfl, rfl⟩
  · have HP : Hid (pk c n = c % n) := show pk c n = _ by unfold pk; rw [if_neg h]
    have hb := Int.emod_nonneg c hn0
    have hb2 := Int.emod_lt_of_pos c hn
    have ht : c.tmod n = c % n := Int.tmod_eq_emod_of_nonneg (by omega)
    have w3 : IntKind.i64.wrap (c.tmod n) = c % n := by rw [ht]; simp [IntKind.wrap, IntKind.signed, IntKind.bits]; omega
    go_enter Tryd.func6, Tryd.ntmps6
    go_wp2_with fail
    go_ret
    exact ⟨by rw [HP.out]; rfl, rfl⟩
set_option maxHeartbeats 400000 in
theorem kplace_any (c : Int) (w : World) (hc : isI c) : Calls Tryd.prog 5 #[.int .i64 c] w fun e w' => e = .returned (.int .i64 (plc c)) ∧ w = w' := by
  have hp := kpick_any c 199 w hc (by omega) (by omega)
  have hr := pk_range c 199 (by omega)
  have HP : Hid (plc c = pk c 199 - 99) := rfl
  generalize pk c 199 = p at *
  have w1 : IntKind.i64.wrap (p - 99) = p - 99 := by simp [IntKind.wrap, IntKind.signed, IntKind.bits]; omega
  go_enter Tryd.func5, Tryd.ntmps5
  go_wp2_with fail
  refine hp.mono ?_
  rintro e w1 ⟨rfl, rfl⟩
  clear hp
  go_wp2_with fail
  go_ret
  exact ⟨by rw [HP.out]; rfl, rfl⟩
set_option maxHeartbeats 800000 in
theorem joined_any (v : Value) (l : List Int) (base : Nat) (w : World) (hl : l.length ≤ 34) (hI : w.ownsRow base 3 1 v l.length (zvs l)) (hr : ∀ x ∈ l, -99 ≤ x ∧ x ≤ 99) (hT : Tab w) :
    Calls Tryd.prog 11 #[v] w fun e w' => e = .returned (.string (jnL l)) ∧ Mod (fun _ => False) w w' := by
  obtain ⟨ao, cap, rfl, -⟩ := owns_form hI
  have HR : Hid (∀ x ∈ l, -99 ≤ x ∧ x ≤ 99) := hr
  have HT : Hid (Tab w) := hT
  clear hr hT
  go_enter Tryd.func11, Tryd.ntmps11
  go_wp2_with fail
  go_loopw [3, 4] (fun sv iv wr => ∃ (k : Nat) (sk : ByteArray), k ≤ l.length ∧ iv = .int .i64 k ∧ sv = .string sk ∧ Hid (sk = ⟨(jnT l k).toArray⟩) ∧ sk.size ≤ 4 * k ∧ Mod (fun _ => False) w wr) (fun _ iv _ => l.length - (intOf iv).toNat)
  case atStart => exact ⟨0, ⟨#[]⟩, by omega, rfl, rfl, rfl, Nat.le_refl _, Mod.refl _ _⟩
  case round =>
    obtain ⟨k, sk, hk, rfl, rfl, HS, hsz, hm⟩ := hrel
    by_cases hlt : k < l.length
    · have hIr := owns_mod hI hm (fun _ _ f => f)
      obtain ⟨gb, rfl, ck⟩ := zvs_cell hIr rfl hlt
      have hx := HR.out l[k] (List.getElem_mem hlt)
      have HX : Hid (l[k]?.getD 0 = l[k]) := show l[k]?.getD 0 = l[k] by simp [hlt]
      have hds := dec_size l[k]
      have HT' : Hid _ := HT.out.mod hm
      have HN : Hid (∀ b : Bool, (b = true ↔ 0 < k) → sk ++ (if b then ⟨#[44]⟩ else ⟨#[]⟩) ++ dec l[k] = ⟨(jnT l (k + 1)).toArray⟩) := fun b hb => by
        rw [HS.out, jnT, HX.out, dec_B]
        cases b
        · rw [if_neg (by decide), if_neg (fun e => by have := hb.2 e; cases this)]
          exact (congrArg (· ++ _) (app_bytes _ [])).trans (app_bytes _ _)
        · rw [if_pos rfl, if_pos (hb.1 rfl)]
          exact (congrArg (· ++ _) (app_bytes _ [44])).trans (app_bytes _ _)
      generalize l[k] = x at *
      by_cases h0 : 0 < k
      · have HN2 := HN.out true (by simpa using h0)
        simp only [if_true] at HN2
        have HN2 : Hid (sk ++ ⟨#[44]⟩ ++ dec x = ⟨(jnT l (k + 1)).toArray⟩) := HN2
        have hit := itoaN_any x hx.1 hx.2 wr HT'.out
        clear HN HS
        go_wp2_with (go_at_call 18; refine hit.mono ?_; rintro e w2 ⟨rfl, k2⟩)
        go_roundw
        case rel => exact ⟨k + 1, _, by omega, by go_num, rfl, rfl, by rw [ba_size]; exact jnT_len l (k + 1), hm.trans k2⟩
        case measure => simp [intOf]; omega
      · have HN2 := HN.out false (by simpa using h0)
        simp only [Bool.false_eq_true, if_false] at HN2
        have HN2 : Hid (sk ++ dec x = ⟨(jnT l (k + 1)).toArray⟩) := by
          have e : sk ++ (⟨#[]⟩ : ByteArray) = sk := by apply ba_ext; simp
          rwa [e] at HN2
        have hit := itoaN_any x hx.1 hx.2 wr HT'.out
        clear HN HS
        go_wp2_with (go_at_call 18; refine hit.mono ?_; rintro e w2 ⟨rfl, k2⟩)
        go_roundw
        case rel => exact ⟨k + 1, _, by omega, by go_num, rfl, HN2, by rw [HN2.out, ba_size]; exact jnT_len l (k + 1), hm.trans k2⟩
        case measure => simp [intOf]; omega
    · have hks : k = l.length := by omega
      subst hks
      go_wp2_with fail
      go_ret
      exact ⟨by rw [HS.out]; rfl, hm⟩
end Go.Proofs.YtmnfndpbblpjiaaDoor

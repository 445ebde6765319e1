/- What the made steps come to, in plain numbers. -/
import Derived.Test.YtmnfndpbblpjiabGreatDoorZb05
namespace Go.Proofs.YtmnfndpbblpjiabGreatDoor.Pu

structure T3 where
  x : Int
  y : Int
  w : Int
def crossV (a b : T3) : T3 := ⟨a.y * b.w - a.w * b.y, a.w * b.x - a.x * b.w, a.x * b.y - a.y * b.x⟩
def dotV (a b : T3) : Int := a.x * b.x + a.y * b.y + a.w * b.w
def volV (a b c : T3) : Int := dotV (crossV a b) c
def midV (a b : T3) : T3 := ⟨a.x * b.w + b.x * a.w, a.y * b.w + b.y * a.w, a.w * b.w + a.w * b.w⟩
def parV (p l : T3) : T3 := ⟨l.x * p.w, l.y * p.w, 0 - (l.x * p.x + l.y * p.y)⟩
def uprV (p l : T3) : T3 := parV p ⟨l.y, 0 - l.x, l.w⟩
def footV (p l : T3) : T3 := crossV (uprV p l) l
def mirV (p l : T3) : T3 := ⟨((footV p l).x + (footV p l).x) * p.w - p.x * (footV p l).w, ((footV p l).y + (footV p l).y) * p.w - p.y * (footV p l).w, (footV p l).w * p.w⟩
def halV (a b : T3) : T3 := uprV (midV a b) (crossV a b)
def cenV (a b c : T3) : T3 := crossV (halV a b) (halV a c)
def wayV (f t : T3) : T3 := ⟨t.x * f.w - f.x * t.w, t.y * f.w - f.y * t.w, f.w * t.w⟩
def lifV (p : T3) : T3 := ⟨p.x * p.w, p.y * p.w, p.x * p.x + p.y * p.y⟩
def isnV (y : Int) : Int := 1 - sgn y * sgn y
def btwV (a b c : T3) : Int := isnV (volV a b c) * (0 - ((wayV b a).x * (wayV b c).x + (wayV b a).y * (wayV b c).y))
def rndV (a b c d : T3) : Int := volV (lifV (wayV a b)) (lifV (wayV a c)) (lifV (wayV a d))
def samV (a b : T3) : Int := (wayV a b).x * (wayV a b).x + (wayV a b).y * (wayV a b).y

def Sm (M : Nat) (v : Int) : Prop := v.natAbs ≤ M
def qd (M : Nat) : Nat := 3 * (M * M)
theorem qd_le {M : Nat} (h : 1 ≤ M) : M ≤ qd M := by
  unfold qd
  have := Nat.le_mul_of_pos_right M h
  omega
theorem qd_pos {M : Nat} (h : 1 ≤ M) : 1 ≤ qd M := Nat.le_trans h (qd_le h)
theorem Sm.mono {M N : Nat} {v : Int} (h : Sm M v) (hn : M ≤ N) : Sm N v := Nat.le_trans h hn
theorem Sm.mul {M : Nat} {a b : Int} (h : Sm M a) (k : Sm M b) : Sm (M * M) (a * b) := by
  unfold Sm at *; rw [Int.natAbs_mul]; exact Nat.mul_le_mul h k
theorem Sm.add {M N : Nat} {a b : Int} (h : Sm M a) (k : Sm N b) : Sm (M + N) (a + b) := by unfold Sm at *; omega
theorem Sm.sub {M N : Nat} {a b : Int} (h : Sm M a) (k : Sm N b) : Sm (M + N) (a - b) := by unfold Sm at *; omega
theorem Sm.q {M : Nat} {a b : Int} (h : Sm M a) (k : Sm M b) : Sm (qd M) (a * b) := (h.mul k).mono (by unfold qd; omega)
theorem Sm.qs {M : Nat} {a b c d : Int} (h : Sm M a) (k : Sm M b) (i : Sm M c) (j : Sm M d) : Sm (qd M) (a * b + c * d) := ((h.mul k).add (i.mul j)).mono (by unfold qd; omega)
theorem Sm.qm {M : Nat} {a b c d : Int} (h : Sm M a) (k : Sm M b) (i : Sm M c) (j : Sm M d) : Sm (qd M) (a * b - c * d) := ((h.mul k).sub (i.mul j)).mono (by unfold qd; omega)
theorem Sm.q3 {M : Nat} {a b c d e f : Int} (h : Sm M a) (k : Sm M b) (i : Sm M c) (j : Sm M d) (m : Sm M e) (n : Sm M f) : Sm (qd M) (a * b + c * d + e * f) := (((h.mul k).add (i.mul j)).add (m.mul n)).mono (by unfold qd; omega)
theorem Sm.dbl {M : Nat} {a : Int} (h : Sm M a) (hm : 1 ≤ M) : Sm (qd M) (a + a) := (h.add h).mono (by unfold qd; have := Nat.le_mul_of_pos_right M hm; omega)
theorem sgn_cases (x : Int) : sgn x = -1 ∧ x < 0 ∨ sgn x = 0 ∧ x = 0 ∨ sgn x = 1 ∧ 0 < x := by
  unfold sgn; by_cases h : x < 0
  · simp [h]
  · by_cases k : x = 0
    · simp [k]
    · simp [h, k]; omega
theorem Sm.sgn {M : Nat} (x : Int) (hm : 1 ≤ M) : Sm M (Pu.sgn x) := by unfold Sm; rcases sgn_cases x with h | h | h <;> rw [h.1] <;> simp <;> omega

/-- The steps come to registers of which Q is so. -/
def Rn (B : Nat) (ins : List Int) (l : List Stp) (R : List Int) (Q : List Int → Prop) : Prop := ∃ R', Q R' ∧ ∀ rest s, play B ins (l ++ rest) R s = play B ins rest R' s
section
variable {B : Nat} {ins : List Int} {l l1 l2 : List Stp} {R R' : List Int} {Q : List Int → Prop}
theorem rn_nil (h : Q R) : Rn B ins [] R Q := ⟨R, h, fun _ _ => rfl⟩
theorem rn_app (h : Rn B ins l1 R (fun R1 => Rn B ins l2 R1 Q)) : Rn B ins (l1 ++ l2) R Q := by
  obtain ⟨R1, ⟨R2, h2, k2⟩, k1⟩ := h
  exact ⟨R2, h2, fun rest s => by rw [List.append_assoc, k1, k2]⟩
theorem rn_mono {P : List Int → Prop} (h : Rn B ins l R P) (k : ∀ R', P R' → Q R') : Rn B ins l R Q := by
  obtain ⟨R1, h1, k1⟩ := h
  exact ⟨R1, k _ h1, k1⟩
theorem reg_set_eq {i : Nat} {v : Int} (h : i < R.length) : reg (R.set i v) i = v := by simp [reg, h]
theorem reg_set_ne {i r : Nat} {v : Int} (h : r ≠ i) : reg (R.set i v) r = reg R r := by
  unfold reg; rw [List.getElem?_set_ne (fun e => h e.symm)]
/-- Below s nothing has turned. -/
def Lo (s : Nat) (R R' : List Int) : Prop := R'.length = 128 ∧ ∀ r, r < s → reg R' r = reg R r
theorem Lo.trans {s t : Nat} {A C D : List Int} (h : Lo s A C) (k : Lo t C D) (hs : s ≤ t) : Lo s A D := ⟨k.1, fun r hr => by rw [k.2 r (by omega), h.2 r hr]⟩
def Sv (s M : Nat) (R : List Int) (r : Nat) (v : Int) : Prop := r < s ∧ reg R r = v ∧ Sm M v
theorem Sv.lo {s M : Nat} {r : Nat} {v : Int} (h : Sv s M R r v) (k : Lo s R R') (t N : Nat) (ht : s ≤ t) (hN : M ≤ N) : Sv t N R' r v := ⟨by have := h.1; omega, by rw [k.2 r h.1, h.2.1], h.2.2.mono hN⟩
def Tv (s M : Nat) (R : List Int) (t : Tr) (v : T3) : Prop := Sv s M R t.x v.x ∧ Sv s M R t.y v.y ∧ Sv s M R t.w v.w
theorem Tv.lo {s M : Nat} {t : Tr} {v : T3} (h : Tv s M R t v) (k : Lo s R R') (t' N : Nat) (ht : s ≤ t') (hN : M ≤ N) : Tv t' N R' t v := ⟨h.1.lo k _ _ ht hN, h.2.1.lo k _ _ ht hN, h.2.2.lo k _ _ ht hN⟩

/-- One step that sets the next register. -/
theorem rn_work {op s y z : Nat} (v : Int) (M : Nat) (hR : R.length = 128) (hs : s < 128) (hop : op < 6) (hv : valOf ⟨op, s, y, z⟩ R ins = v) (hm : Sm M v) (hb : M < B) (k : ∀ R', Lo s R R' → Sv (s + 1) M R' s v → Rn B ins l R' Q) : Rn B ins (⟨op, s, y, z⟩ :: l) R Q := by
  have hb' : ¬ B ≤ (valOf ⟨op, s, y, z⟩ R ins).natAbs := by rw [hv]; unfold Sm at hm; omega
  obtain ⟨R2, h2, k2⟩ := k (R.set s v) ⟨by simpa using hR, fun r hr => reg_set_ne (by omega)⟩ ⟨by omega, reg_set_eq (by omega), hm⟩
  refine ⟨R2, h2, fun rest st => ?_⟩
  rw [List.cons_append, play_set hop hb', hv]
  exact k2 rest st
theorem val_mul {s y z : Nat} {a b : Int} (h : reg R y = a) (k : reg R z = b) : valOf ⟨4, s, y, z⟩ R ins = a * b := by simp [valOf, h, k]
theorem val_add {s y z : Nat} {a b : Int} (h : reg R y = a) (k : reg R z = b) : valOf ⟨2, s, y, z⟩ R ins = a + b := by simp [valOf, h, k]
theorem val_sub {s y z : Nat} {a b : Int} (h : reg R y = a) (k : reg R z = b) : valOf ⟨3, s, y, z⟩ R ins = a - b := by simp [valOf, h, k]
theorem val_con {s y : Nat} : valOf ⟨1, s, y, 0⟩ R ins = (y : Int) := by simp [valOf]
theorem val_sgn {s y : Nat} {a : Int} (h : reg R y = a) : valOf ⟨5, s, y, 0⟩ R ins = sgn a := by simp [valOf, h]
theorem val_in {s y : Nat} {a : Int} (h : ins[y]? = some a) : valOf ⟨0, s, y, 0⟩ R ins = a := by simp [valOf, h]

variable {s M : Nat}
theorem rn_prodS {p q r t : Nat} {a b c d : Int} (hR : R.length = 128) (hs : s + 3 ≤ 128) (hB : qd M < B) (hp : Sv s M R p a) (hq : Sv s M R q b) (hr : Sv s M R r c) (ht : Sv s M R t d)
    (k : ∀ R', Lo s R R' → Sv (s + 3) (qd M) R' (s + 2) (a * b + c * d) → Rn B ins l R' Q) : Rn B ins (prodS s p q r t ++ l) R Q := by
  refine rn_work (a * b) (qd M) hR (by omega) (by omega) (val_mul hp.2.1 hq.2.1) (hp.2.2.q hq.2.2) hB ?_
  intro R1 l1 v1
  have hr1 := hr.lo l1 (s + 1) M (by omega) (Nat.le_refl _)
  have ht1 := ht.lo l1 (s + 1) M (by omega) (Nat.le_refl _)
  refine rn_work (c * d) (qd M) l1.1 (by omega) (by omega) (val_mul hr1.2.1 ht1.2.1) (hr.2.2.q ht.2.2) hB ?_
  intro R2 l2 v2
  have v1' := v1.lo l2 (s + 2) _ (by omega) (Nat.le_refl _)
  refine rn_work (a * b + c * d) (qd M) l2.1 (by omega) (by omega) (val_add v1'.2.1 v2.2.1) (hp.2.2.qs hq.2.2 hr.2.2 ht.2.2) hB ?_
  intro R3 l3 v3
  exact k R3 ((l1.trans l2 (by omega)).trans l3 (by omega)) v3
theorem rn_prodD {p q r t : Nat} {a b c d : Int} (hR : R.length = 128) (hs : s + 3 ≤ 128) (hB : qd M < B) (hp : Sv s M R p a) (hq : Sv s M R q b) (hr : Sv s M R r c) (ht : Sv s M R t d)
    (k : ∀ R', Lo s R R' → Sv (s + 3) (qd M) R' (s + 2) (a * b - c * d) → Rn B ins l R' Q) : Rn B ins (prodD s p q r t ++ l) R Q := by
  refine rn_work (a * b) (qd M) hR (by omega) (by omega) (val_mul hp.2.1 hq.2.1) (hp.2.2.q hq.2.2) hB ?_
  intro R1 l1 v1
  have hr1 := hr.lo l1 (s + 1) M (by omega) (Nat.le_refl _)
  have ht1 := ht.lo l1 (s + 1) M (by omega) (Nat.le_refl _)
  refine rn_work (c * d) (qd M) l1.1 (by omega) (by omega) (val_mul hr1.2.1 ht1.2.1) (hr.2.2.q ht.2.2) hB ?_
  intro R2 l2 v2
  have v1' := v1.lo l2 (s + 2) _ (by omega) (Nat.le_refl _)
  refine rn_work (a * b - c * d) (qd M) l2.1 (by omega) (by omega) (val_sub v1'.2.1 v2.2.1) (hp.2.2.qm hq.2.2 hr.2.2 ht.2.2) hB ?_
  intro R3 l3 v3
  exact k R3 ((l1.trans l2 (by omega)).trans l3 (by omega)) v3
theorem rn_neg {y : Nat} {a : Int} (hR : R.length = 128) (hs : s + 2 ≤ 128) (hB : M < B) (hy : Sv s M R y a)
    (k : ∀ R', Lo s R R' → Sv (s + 2) M R' (s + 1) (0 - a) → Rn B ins l R' Q) : Rn B ins (negL s y ++ l) R Q := by
  refine rn_work 0 M hR (by omega) (by omega) val_con (by simp [Sm]) hB ?_
  intro R1 l1 v1
  have hy1 := hy.lo l1 (s + 1) M (by omega) (Nat.le_refl _)
  refine rn_work (0 - a) M l1.1 (by omega) (by omega) (val_sub v1.2.1 hy1.2.1) (by have := hy.2.2; unfold Sm at *; omega) hB ?_
  intro R2 l2 v2
  exact k R2 (l1.trans l2 (by omega)) v2
theorem isnV_cases (a : Int) : isnV a = 0 ∧ a ≠ 0 ∨ isnV a = 1 ∧ a = 0 := by
  unfold isnV; rcases sgn_cases a with h | h | h <;> rw [h.1] <;> simp <;> omega
theorem Sm.isn {M : Nat} (a : Int) (h : 1 ≤ M) : Sm M (isnV a) := by unfold Sm; rcases isnV_cases a with h | h <;> rw [h.1] <;> simp <;> omega
theorem rn_isn {y : Nat} {a : Int} (hR : R.length = 128) (hs : s + 4 ≤ 128) (hB : M < B) (h1 : 1 ≤ M) (hy : Sv s M R y a)
    (k : ∀ R', Lo s R R' → Sv (s + 4) M R' (s + 3) (isnV a) → Rn B ins l R' Q) : Rn B ins (isnL s y ++ l) R Q := by
  refine rn_work (sgn a) M hR (by omega) (by omega) (val_sgn hy.2.1) (.sgn a h1) hB ?_
  intro R1 l1 v1
  refine rn_work (sgn a * sgn a) M l1.1 (by omega) (by omega) (val_mul v1.2.1 v1.2.1) (by unfold Sm; rcases sgn_cases a with h | h | h <;> rw [h.1] <;> simp <;> omega) hB ?_
  intro R2 l2 v2
  refine rn_work 1 M l2.1 (by omega) (by omega) val_con (by simp [Sm]; omega) hB ?_
  intro R3 l3 v3
  have v2' := v2.lo l3 (s + 3) _ (by omega) (Nat.le_refl _)
  refine rn_work (isnV a) M l3.1 (by omega) (by omega) (val_sub v3.2.1 v2'.2.1) (.isn a h1) hB ?_
  intro R4 l4 v4
  exact k R4 (((l1.trans l2 (by omega)).trans l3 (by omega)).trans l4 (by omega)) v4
theorem rn_cross {a b : Tr} {u v : T3} (hR : R.length = 128) (hs : s + 9 ≤ 128) (hB : qd M < B) (ha : Tv s M R a u) (hb : Tv s M R b v)
    (k : ∀ R', Lo s R R' → Tv (s + 9) (qd M) R' (crossR s) (crossV u v) → Rn B ins l R' Q) : Rn B ins (crossL s a b ++ l) R Q := by
  unfold crossL
  rw [List.append_assoc, List.append_assoc]
  refine rn_prodD hR (by omega) hB ha.2.1 hb.2.2 ha.2.2 hb.2.1 ?_
  intro R1 l1 v1
  have ha1 := ha.lo l1 (s + 3) M (by omega) (Nat.le_refl _)
  have hb1 := hb.lo l1 (s + 3) M (by omega) (Nat.le_refl _)
  refine rn_prodD l1.1 (by omega) hB ha1.2.2 hb1.1 ha1.1 hb1.2.2 ?_
  intro R2 l2 v2
  have ha2 := ha1.lo l2 (s + 6) M (by omega) (Nat.le_refl _)
  have hb2 := hb1.lo l2 (s + 6) M (by omega) (Nat.le_refl _)
  refine rn_prodD l2.1 (by omega) hB ha2.1 hb2.2.1 ha2.2.1 hb2.1 ?_
  intro R3 l3 v3
  exact k R3 ((l1.trans l2 (by omega)).trans l3 (by omega)) ⟨(v1.lo l2 (s + 6) _ (by omega) (Nat.le_refl _)).lo l3 (s + 9) _ (by omega) (Nat.le_refl _), v2.lo l3 (s + 9) _ (by omega) (Nat.le_refl _), v3⟩
theorem rn_dot {a b : Tr} {u v : T3} (hR : R.length = 128) (hs : s + 5 ≤ 128) (hB : qd M < B) (ha : Tv s M R a u) (hb : Tv s M R b v)
    (k : ∀ R', Lo s R R' → Sv (s + 5) (qd M) R' (s + 4) (dotV u v) → Rn B ins l R' Q) : Rn B ins (dotL s a b ++ l) R Q := by
  unfold dotL
  rw [List.append_assoc]
  refine rn_prodS hR (by omega) hB ha.1 hb.1 ha.2.1 hb.2.1 ?_
  intro R1 l1 v1
  have ha1 := ha.lo l1 (s + 3) M (by omega) (Nat.le_refl _)
  have hb1 := hb.lo l1 (s + 3) M (by omega) (Nat.le_refl _)
  refine rn_work (u.w * v.w) (qd M) l1.1 (by omega) (by omega) (val_mul ha1.2.2.2.1 hb1.2.2.2.1) (ha.2.2.2.2.q hb.2.2.2.2) hB ?_
  intro R2 l2 v2
  have v1' := v1.lo l2 (s + 4) _ (by omega) (Nat.le_refl _)
  refine rn_work (dotV u v) (qd M) l2.1 (by omega) (by omega) (val_add v1'.2.1 v2.2.1) (ha.1.2.2.q3 hb.1.2.2 ha.2.1.2.2 hb.2.1.2.2 ha.2.2.2.2 hb.2.2.2.2) hB ?_
  intro R3 l3 v3
  exact k R3 ((l1.trans l2 (by omega)).trans l3 (by omega)) v3
theorem rn_vol {a b c : Tr} {u v t : T3} (hR : R.length = 128) (hs : s + 14 ≤ 128) (h1 : 1 ≤ M) (hB : qd (qd M) < B) (ha : Tv s M R a u) (hb : Tv s M R b v) (hc : Tv s M R c t)
    (k : ∀ R', Lo s R R' → Sv (s + 14) (qd (qd M)) R' (s + 13) (volV u v t) → Rn B ins l R' Q) : Rn B ins (volL s a b c ++ l) R Q := by
  unfold volL
  rw [List.append_assoc]
  have hq := qd_le (qd_pos h1)
  refine rn_cross hR (by omega) (by omega) ha hb ?_
  intro R1 l1 v1
  refine rn_dot l1.1 (by omega) hB v1 (hc.lo l1 (s + 9) _ (by omega) (qd_le h1)) ?_
  intro R2 l2 v2
  exact k R2 (l1.trans l2 (by omega)) v2
theorem rn_mid {a b : Tr} {u v : T3} (hR : R.length = 128) (hs : s + 8 ≤ 128) (hB : qd M < B) (ha : Tv s M R a u) (hb : Tv s M R b v)
    (k : ∀ R', Lo s R R' → Tv (s + 8) (qd M) R' (midR s) (midV u v) → Rn B ins l R' Q) : Rn B ins (midL s a b ++ l) R Q := by
  unfold midL
  rw [List.append_assoc, List.append_assoc]
  refine rn_prodS hR (by omega) hB ha.1 hb.2.2 hb.1 ha.2.2 ?_
  intro R1 l1 v1
  have ha1 := ha.lo l1 (s + 3) M (by omega) (Nat.le_refl _)
  have hb1 := hb.lo l1 (s + 3) M (by omega) (Nat.le_refl _)
  refine rn_prodS l1.1 (by omega) hB ha1.2.1 hb1.2.2 hb1.2.1 ha1.2.2 ?_
  intro R2 l2 v2
  have ha2 := ha1.lo l2 (s + 6) M (by omega) (Nat.le_refl _)
  have hb2 := hb1.lo l2 (s + 6) M (by omega) (Nat.le_refl _)
  refine rn_work (u.w * v.w) (qd M) l2.1 (by omega) (by omega) (val_mul ha2.2.2.2.1 hb2.2.2.2.1) (ha.2.2.2.2.q hb.2.2.2.2) hB ?_
  intro R3 l3 v3
  refine rn_work (u.w * v.w + u.w * v.w) (qd M) l3.1 (by omega) (by omega) (val_add v3.2.1 v3.2.1) (ha.2.2.2.2.qs hb.2.2.2.2 ha.2.2.2.2 hb.2.2.2.2) hB ?_
  intro R4 l4 v4
  have l34 := l3.trans l4 (by omega)
  have l24 := l2.trans l34 (by omega)
  exact k R4 (l1.trans l24 (by omega)) ⟨v1.lo l24 (s + 8) _ (by omega) (Nat.le_refl _), v2.lo l34 (s + 8) _ (by omega) (Nat.le_refl _), v4⟩
theorem rn_par {p l' : Tr} {u v : T3} (hR : R.length = 128) (hs : s + 7 ≤ 128) (hB : qd M < B) (hp : Tv s M R p u) (hl : Tv s M R l' v)
    (k : ∀ R', Lo s R R' → Tv (s + 7) (qd M) R' (parR s) (parV u v) → Rn B ins l R' Q) : Rn B ins (parL s p l' ++ l) R Q := by
  unfold parL
  rw [List.append_assoc, List.append_assoc]
  refine rn_work (v.x * u.w) (qd M) hR (by omega) (by omega) (val_mul hl.1.2.1 hp.2.2.2.1) (hl.1.2.2.q hp.2.2.2.2) hB ?_
  intro R1 l1 v1
  have hp1 := hp.lo l1 (s + 1) M (by omega) (Nat.le_refl _)
  have hl1 := hl.lo l1 (s + 1) M (by omega) (Nat.le_refl _)
  refine rn_work (v.y * u.w) (qd M) l1.1 (by omega) (by omega) (val_mul hl1.2.1.2.1 hp1.2.2.2.1) (hl.2.1.2.2.q hp.2.2.2.2) hB ?_
  intro R2 l2 v2
  have hp2 := hp1.lo l2 (s + 2) M (by omega) (Nat.le_refl _)
  have hl2 := hl1.lo l2 (s + 2) M (by omega) (Nat.le_refl _)
  refine rn_prodS l2.1 (by omega) hB hl2.1 hp2.1 hl2.2.1 hp2.2.1 ?_
  intro R3 l3 v3
  refine rn_neg l3.1 (by omega) hB v3 ?_
  intro R4 l4 v4
  have l34 := l3.trans l4 (by omega)
  have l24 := l2.trans l34 (by omega)
  exact k R4 (l1.trans l24 (by omega)) ⟨v1.lo l24 (s + 7) _ (by omega) (Nat.le_refl _), v2.lo l34 (s + 7) _ (by omega) (Nat.le_refl _), v4⟩
theorem rn_upr {p l' : Tr} {u v : T3} (hR : R.length = 128) (hs : s + 9 ≤ 128) (h1 : 1 ≤ M) (hB : qd M < B) (hp : Tv s M R p u) (hl : Tv s M R l' v)
    (k : ∀ R', Lo s R R' → Tv (s + 9) (qd M) R' (uprR s) (uprV u v) → Rn B ins l R' Q) : Rn B ins (uprL s p l' ++ l) R Q := by
  unfold uprL
  rw [List.append_assoc]
  have hq := qd_le h1
  refine rn_neg hR (by omega) (by omega) hl.1 ?_
  intro R1 l1 v1
  have hl1 := hl.lo l1 (s + 2) M (by omega) (Nat.le_refl _)
  refine rn_par l1.1 (by omega) hB (hp.lo l1 (s + 2) M (by omega) (Nat.le_refl _)) (v := ⟨v.y, 0 - v.x, v.w⟩) ⟨hl1.2.1, v1, hl1.2.2⟩ ?_
  intro R2 l2 v2
  exact k R2 (l1.trans l2 (by omega)) v2
theorem rn_foot {p l' : Tr} {u v : T3} (hR : R.length = 128) (hs : s + 18 ≤ 128) (h1 : 1 ≤ M) (hB : qd (qd M) < B) (hp : Tv s M R p u) (hl : Tv s M R l' v)
    (k : ∀ R', Lo s R R' → Tv (s + 18) (qd (qd M)) R' (footR s) (footV u v) → Rn B ins l R' Q) : Rn B ins (footL s p l' ++ l) R Q := by
  unfold footL
  rw [List.append_assoc]
  have hq := qd_le (qd_pos h1)
  refine rn_upr hR (by omega) h1 (by omega) hp hl ?_
  intro R1 l1 v1
  refine rn_cross l1.1 (by omega) hB v1 (hl.lo l1 (s + 9) _ (by omega) (qd_le h1)) ?_
  intro R2 l2 v2
  exact k R2 (l1.trans l2 (by omega)) v2
theorem rn_mir {p l' : Tr} {u v : T3} (hR : R.length = 128) (hs : s + 27 ≤ 128) (h1 : 1 ≤ M) (hB : qd (qd (qd (qd M))) < B) (hp : Tv s M R p u) (hl : Tv s M R l' v)
    (k : ∀ R', Lo s R R' → Tv (s + 27) (qd (qd (qd (qd M)))) R' (mirR s) (mirV u v) → Rn B ins l R' Q) : Rn B ins (mirL s p l' ++ l) R Q := by
  unfold mirL
  simp only [List.append_assoc]
  have q1 := qd_le h1
  have q2 := qd_le (qd_pos h1)
  have q3 := qd_le (qd_pos (qd_pos h1))
  have q4 := qd_le (qd_pos (qd_pos (qd_pos h1)))
  refine rn_foot hR (by omega) h1 (by omega) hp hl ?_
  intro R1 l1 f1
  refine rn_work ((footV u v).x + (footV u v).x) (qd (qd (qd M))) l1.1 (by omega) (by omega) (val_add f1.1.2.1 f1.1.2.1) (f1.1.2.2.dbl (qd_pos (qd_pos h1))) (by omega) ?_
  intro R2 l2 v2
  have f2 := f1.lo l2 (s + 19) _ (by omega) (Nat.le_refl _)
  refine rn_work ((footV u v).y + (footV u v).y) (qd (qd (qd M))) l2.1 (by omega) (by omega) (val_add f2.2.1.2.1 f2.2.1.2.1) (f2.2.1.2.2.dbl (qd_pos (qd_pos h1))) (by omega) ?_
  intro R3 l3 v3
  have f3 := f2.lo l3 (s + 20) (qd (qd (qd M))) (by omega) (by omega)
  have v2' := v2.lo l3 (s + 20) _ (by omega) (Nat.le_refl _)
  have v3' := v3
  have p3 := hp.lo (l1.trans (l2.trans l3 (by omega)) (by omega)) (s + 20) (qd (qd (qd M))) (by omega) (by omega)
  refine rn_prodD l3.1 (by omega) hB v2' p3.2.2 p3.1 f3.2.2 ?_
  intro R4 l4 v4
  have f4 := f3.lo l4 (s + 23) _ (by omega) (Nat.le_refl _)
  have p4 := p3.lo l4 (s + 23) _ (by omega) (Nat.le_refl _)
  refine rn_prodD l4.1 (by omega) hB (v3.lo l4 (s + 23) _ (by omega) (Nat.le_refl _)) p4.2.2 p4.2.1 f4.2.2 ?_
  intro R5 l5 v5
  have f5 := f4.lo l5 (s + 26) _ (by omega) (Nat.le_refl _)
  have p5 := p4.lo l5 (s + 26) _ (by omega) (Nat.le_refl _)
  refine rn_work ((footV u v).w * u.w) (qd (qd (qd (qd M)))) l5.1 (by omega) (by omega) (val_mul f5.2.2.2.1 p5.2.2.2.1) (f5.2.2.2.2.q p5.2.2.2.2) hB ?_
  intro R6 l6 v6
  have l56 := l5.trans l6 (by omega)
  have l46 := l4.trans l56 (by omega)
  exact k R6 (l1.trans (l2.trans (l3.trans l46 (by omega)) (by omega)) (by omega)) ⟨v4.lo l56 (s + 27) _ (by omega) (Nat.le_refl _), v5.lo l6 (s + 27) _ (by omega) (Nat.le_refl _), v6⟩
theorem rn_hal {a b : Tr} {u v : T3} (hR : R.length = 128) (hs : s + 26 ≤ 128) (h1 : 1 ≤ M) (hB : qd (qd M) < B) (ha : Tv s M R a u) (hb : Tv s M R b v)
    (k : ∀ R', Lo s R R' → Tv (s + 26) (qd (qd M)) R' (halR s) (halV u v) → Rn B ins l R' Q) : Rn B ins (halL s a b ++ l) R Q := by
  unfold halL
  simp only [List.append_assoc]
  have q2 := qd_le (qd_pos h1)
  refine rn_mid hR (by omega) (by omega) ha hb ?_
  intro R1 l1 v1
  refine rn_cross l1.1 (by omega) (by omega) (ha.lo l1 (s + 8) M (by omega) (Nat.le_refl _)) (hb.lo l1 (s + 8) M (by omega) (Nat.le_refl _)) ?_
  intro R2 l2 v2
  refine rn_upr l2.1 (by omega) (qd_pos h1) hB (v1.lo l2 (s + 17) _ (by omega) (Nat.le_refl _)) v2 ?_
  intro R3 l3 v3
  exact k R3 (l1.trans (l2.trans l3 (by omega)) (by omega)) v3
theorem rn_cen {a b c : Tr} {u v t : T3} (hR : R.length = 128) (hs : s + 61 ≤ 128) (h1 : 1 ≤ M) (hB : qd (qd (qd M)) < B) (ha : Tv s M R a u) (hb : Tv s M R b v) (hc : Tv s M R c t)
    (k : ∀ R', Lo s R R' → Tv (s + 61) (qd (qd (qd M))) R' (cenR s) (cenV u v t) → Rn B ins l R' Q) : Rn B ins (cenL s a b c ++ l) R Q := by
  unfold cenL
  simp only [List.append_assoc]
  have q3 := qd_le (qd_pos (qd_pos h1))
  refine rn_hal hR (by omega) h1 (by omega) ha hb ?_
  intro R1 l1 v1
  refine rn_hal l1.1 (by omega) h1 (by omega) (ha.lo l1 (s + 26) M (by omega) (Nat.le_refl _)) (hc.lo l1 (s + 26) M (by omega) (Nat.le_refl _)) ?_
  intro R2 l2 v2
  refine rn_cross l2.1 (by omega) hB (v1.lo l2 (s + 52) _ (by omega) (Nat.le_refl _)) v2 ?_
  intro R3 l3 v3
  exact k R3 (l1.trans (l2.trans l3 (by omega)) (by omega)) v3
theorem rn_way {a b : Tr} {u v : T3} (hR : R.length = 128) (hs : s + 7 ≤ 128) (hB : qd M < B) (ha : Tv s M R a u) (hb : Tv s M R b v)
    (k : ∀ R', Lo s R R' → Tv (s + 7) (qd M) R' (wayR s) (wayV u v) → Rn B ins l R' Q) : Rn B ins (wayL s a b ++ l) R Q := by
  unfold wayL
  simp only [List.append_assoc]
  refine rn_prodD hR (by omega) hB hb.1 ha.2.2 ha.1 hb.2.2 ?_
  intro R1 l1 v1
  have ha1 := ha.lo l1 (s + 3) M (by omega) (Nat.le_refl _)
  have hb1 := hb.lo l1 (s + 3) M (by omega) (Nat.le_refl _)
  refine rn_prodD l1.1 (by omega) hB hb1.2.1 ha1.2.2 ha1.2.1 hb1.2.2 ?_
  intro R2 l2 v2
  have ha2 := ha1.lo l2 (s + 6) M (by omega) (Nat.le_refl _)
  have hb2 := hb1.lo l2 (s + 6) M (by omega) (Nat.le_refl _)
  refine rn_work (u.w * v.w) (qd M) l2.1 (by omega) (by omega) (val_mul ha2.2.2.2.1 hb2.2.2.2.1) (ha.2.2.2.2.q hb.2.2.2.2) hB ?_
  intro R3 l3 v3
  have l23 := l2.trans l3 (by omega)
  exact k R3 (l1.trans l23 (by omega)) ⟨v1.lo l23 (s + 7) _ (by omega) (Nat.le_refl _), v2.lo l3 (s + 7) _ (by omega) (Nat.le_refl _), v3⟩
theorem rn_lif {p : Tr} {u : T3} (hR : R.length = 128) (hs : s + 5 ≤ 128) (hB : qd M < B) (hp : Tv s M R p u)
    (k : ∀ R', Lo s R R' → Tv (s + 5) (qd M) R' (lifR s) (lifV u) → Rn B ins l R' Q) : Rn B ins (lifL s p ++ l) R Q := by
  unfold lifL
  rw [List.append_assoc]
  refine rn_work (u.x * u.w) (qd M) hR (by omega) (by omega) (val_mul hp.1.2.1 hp.2.2.2.1) (hp.1.2.2.q hp.2.2.2.2) hB ?_
  intro R1 l1 v1
  have hp1 := hp.lo l1 (s + 1) M (by omega) (Nat.le_refl _)
  refine rn_work (u.y * u.w) (qd M) l1.1 (by omega) (by omega) (val_mul hp1.2.1.2.1 hp1.2.2.2.1) (hp.2.1.2.2.q hp.2.2.2.2) hB ?_
  intro R2 l2 v2
  have hp2 := hp1.lo l2 (s + 2) M (by omega) (Nat.le_refl _)
  refine rn_prodS l2.1 (by omega) hB hp2.1 hp2.1 hp2.2.1 hp2.2.1 ?_
  intro R3 l3 v3
  have l23 := l2.trans l3 (by omega)
  exact k R3 (l1.trans l23 (by omega)) ⟨v1.lo l23 (s + 5) _ (by omega) (Nat.le_refl _), v2.lo l3 (s + 5) _ (by omega) (Nat.le_refl _), v3⟩
theorem rn_btw {a b c : Tr} {u v t : T3} (hR : R.length = 128) (hs : s + 38 ≤ 128) (h1 : 1 ≤ M) (hB : qd (qd (qd M)) < B) (ha : Tv s M R a u) (hb : Tv s M R b v) (hc : Tv s M R c t)
    (k : ∀ R', Lo s R R' → Sv (s + 38) (qd (qd (qd M))) R' (s + 37) (btwV u v t) → Rn B ins l R' Q) : Rn B ins (btwL s a b c ++ l) R Q := by
  unfold btwL
  simp only [List.append_assoc]
  have q1 := qd_le h1
  have q2 := qd_le (qd_pos h1)
  have q3 := qd_le (qd_pos (qd_pos h1))
  refine rn_vol hR (by omega) h1 (by omega) ha hb hc ?_
  intro R1 l1 v1
  refine rn_isn l1.1 (by omega) (by omega) (qd_pos (qd_pos h1)) v1 ?_
  intro R2 l2 v2
  have l12 := l1.trans l2 (by omega)
  have a2 := ha.lo l12 (s + 18) M (by omega) (Nat.le_refl _)
  have b2 := hb.lo l12 (s + 18) M (by omega) (Nat.le_refl _)
  have c2 := hc.lo l12 (s + 18) M (by omega) (Nat.le_refl _)
  refine rn_way l2.1 (by omega) (by omega) b2 a2 ?_
  intro R3 l3 v3
  refine rn_way l3.1 (by omega) (by omega) (b2.lo l3 (s + 25) M (by omega) (Nat.le_refl _)) (c2.lo l3 (s + 25) M (by omega) (Nat.le_refl _)) ?_
  intro R4 l4 v4
  have w3 := v3.lo l4 (s + 32) _ (by omega) (Nat.le_refl _)
  refine rn_prodS l4.1 (by omega) (by omega) w3.1 v4.1 w3.2.1 v4.2.1 ?_
  intro R5 l5 v5
  refine rn_neg l5.1 (by omega) (by omega) v5 ?_
  intro R6 l6 v6
  have l36 := l3.trans (l4.trans (l5.trans l6 (by omega)) (by omega)) (by omega)
  have z2 := v2.lo l36 (s + 37) _ (by omega) (Nat.le_refl _)
  refine rn_work (btwV u v t) (qd (qd (qd M))) l6.1 (by omega) (by omega) (val_mul z2.2.1 v6.2.1) (z2.2.2.q v6.2.2) hB ?_
  intro R7 l7 v7
  exact k R7 (l12.trans (l36.trans l7 (by omega)) (by omega)) v7
theorem rn_rnd {a b c d : Tr} {u v t x : T3} (hR : R.length = 128) (hs : s + 50 ≤ 128) (h1 : 1 ≤ M) (hB : qd (qd (qd (qd M))) < B) (ha : Tv s M R a u) (hb : Tv s M R b v) (hc : Tv s M R c t) (hd : Tv s M R d x)
    (k : ∀ R', Lo s R R' → Sv (s + 50) (qd (qd (qd (qd M)))) R' (s + 49) (rndV u v t x) → Rn B ins l R' Q) : Rn B ins (rndL s a b c d ++ l) R Q := by
  unfold rndL
  simp only [List.append_assoc]
  have q1 := qd_le h1
  have q2 := qd_le (qd_pos h1)
  have q3 := qd_le (qd_pos (qd_pos h1))
  have q4 := qd_le (qd_pos (qd_pos (qd_pos h1)))
  refine rn_way hR (by omega) (by omega) ha hb ?_
  intro R1 l1 v1
  refine rn_way l1.1 (by omega) (by omega) (ha.lo l1 (s + 7) M (by omega) (Nat.le_refl _)) (hc.lo l1 (s + 7) M (by omega) (Nat.le_refl _)) ?_
  intro R2 l2 v2
  have l12 := l1.trans l2 (by omega)
  refine rn_way l2.1 (by omega) (by omega) (ha.lo l12 (s + 14) M (by omega) (Nat.le_refl _)) (hd.lo l12 (s + 14) M (by omega) (Nat.le_refl _)) ?_
  intro R3 l3 v3
  have l23 := l2.trans l3 (by omega)
  refine rn_lif l3.1 (by omega) (by omega) (v1.lo l23 (s + 21) _ (by omega) (Nat.le_refl _)) ?_
  intro R4 l4 v4
  refine rn_lif l4.1 (by omega) (by omega) (v2.lo (l3.trans l4 (by omega)) (s + 26) _ (by omega) (Nat.le_refl _)) ?_
  intro R5 l5 v5
  have l45 := l4.trans l5 (by omega)
  refine rn_lif l5.1 (by omega) (by omega) (v3.lo l45 (s + 31) _ (by omega) (Nat.le_refl _)) ?_
  intro R6 l6 v6
  have l56 := l5.trans l6 (by omega)
  refine rn_vol l6.1 (by omega) (qd_pos (qd_pos h1)) (by omega) (v4.lo l56 (s + 36) _ (by omega) (Nat.le_refl _)) (v5.lo l6 (s + 36) _ (by omega) (Nat.le_refl _)) v6 ?_
  intro R7 l7 v7
  exact k R7 (l12.trans (l3.trans (l45.trans (l6.trans l7 (by omega)) (by omega)) (by omega)) (by omega)) v7
theorem rn_sam {a b : Tr} {u v : T3} (hR : R.length = 128) (hs : s + 10 ≤ 128) (h1 : 1 ≤ M) (hB : qd (qd M) < B) (ha : Tv s M R a u) (hb : Tv s M R b v)
    (k : ∀ R', Lo s R R' → Sv (s + 10) (qd (qd M)) R' (s + 9) (samV u v) → Rn B ins l R' Q) : Rn B ins (samL s a b ++ l) R Q := by
  unfold samL
  rw [List.append_assoc]
  have q2 := qd_le (qd_pos h1)
  refine rn_way hR (by omega) (by omega) ha hb ?_
  intro R1 l1 v1
  refine rn_prodS l1.1 (by omega) hB v1.1 v1.1 v1.2.1 v1.2.1 ?_
  intro R2 l2 v2
  exact k R2 (l1.trans l2 (by omega)) v2
end
end Go.Proofs.YtmnfndpbblpjiabGreatDoor.Pu

/- Statements as plain data: what they are made into, and what they tell. -/
namespace Go.Proofs.YtmnfndpbblpjiabGreatDoor.Pu

/-- A statement; its arguments are the numbers of the statements that gave them. -/
abbrev Cmd : Type := ((((Unit ⊕ (Nat × Nat)) ⊕ (Nat × Nat)) ⊕ ((Nat × Nat) ⊕ (Nat × Nat))) ⊕ (((Nat × Nat) ⊕ (Nat × Nat)) ⊕ ((Nat × Nat) ⊕ (Nat × Nat × Nat)))) ⊕ (((((Nat × Nat) ⊕ (Nat × Nat × Nat)) ⊕ (Nat × Nat × Nat)) ⊕ ((Nat × Nat × Nat) ⊕ (Nat × Nat × Nat × Nat))) ⊕ (((Nat × Nat) ⊕ (Nat × Nat)) ⊕ ((Nat × Nat) ⊕ (Nat × Nat × Nat))))
abbrev Cmd.pt : Cmd := .inl (.inl (.inl (.inl (.inl ()))))
abbrev Cmd.mid (a b : Nat) : Cmd := .inl (.inl (.inl (.inl (.inr (a, b)))))
abbrev Cmd.line (a b : Nat) : Cmd := .inl (.inl (.inl (.inr (a, b))))
abbrev Cmd.par (p l : Nat) : Cmd := .inl (.inl (.inr (.inl (p, l))))
abbrev Cmd.perp (p l : Nat) : Cmd := .inl (.inl (.inr (.inr (p, l))))
abbrev Cmd.meet (l m : Nat) : Cmd := .inl (.inr (.inl (.inl (l, m))))
abbrev Cmd.foot (p l : Nat) : Cmd := .inl (.inr (.inl (.inr (p, l))))
abbrev Cmd.mirror (p l : Nat) : Cmd := .inl (.inr (.inr (.inl (p, l))))
abbrev Cmd.centre (a b c : Nat) : Cmd := .inl (.inr (.inr (.inr (a, b, c))))
abbrev Cmd.same (a b : Nat) : Cmd := .inr (.inl (.inl (.inl (.inl (a, b)))))
abbrev Cmd.col (a b c : Nat) : Cmd := .inr (.inl (.inl (.inl (.inr (a, b, c)))))
abbrev Cmd.ccw (a b c : Nat) : Cmd := .inr (.inl (.inl (.inr (a, b, c))))
abbrev Cmd.btw (a b c : Nat) : Cmd := .inr (.inl (.inr (.inl (a, b, c))))
abbrev Cmd.con (a b c d : Nat) : Cmd := .inr (.inl (.inr (.inr (a, b, c, d))))
abbrev Cmd.on (p l : Nat) : Cmd := .inr (.inr (.inl (.inl (p, l))))
abbrev Cmd.pll (l m : Nat) : Cmd := .inr (.inr (.inl (.inr (l, m))))
abbrev Cmd.prp (l m : Nat) : Cmd := .inr (.inr (.inr (.inl (l, m))))
abbrev Cmd.cc (l m n : Nat) : Cmd := .inr (.inr (.inr (.inr (l, m, n))))
theorem Cmd.el {motive : Cmd → Prop} (pt : motive .pt) (mid : ∀ a b, motive (.mid a b)) (line : ∀ a b, motive (.line a b)) (par : ∀ p l, motive (.par p l)) (perp : ∀ p l, motive (.perp p l)) (meet : ∀ l m, motive (.meet l m)) (foot : ∀ p l, motive (.foot p l)) (mirror : ∀ p l, motive (.mirror p l)) (centre : ∀ a b c, motive (.centre a b c)) (same : ∀ a b, motive (.same a b)) (col : ∀ a b c, motive (.col a b c)) (ccw : ∀ a b c, motive (.ccw a b c)) (btw : ∀ a b c, motive (.btw a b c)) (con : ∀ a b c d, motive (.con a b c d)) (on : ∀ p l, motive (.on p l)) (pll : ∀ l m, motive (.pll l m)) (prp : ∀ l m, motive (.prp l m)) (cc : ∀ l m n, motive (.cc l m n)) : ∀ c, motive c
  | .inl (.inl (.inl (.inl (.inl ())))) => pt
  | .inl (.inl (.inl (.inl (.inr (a, b))))) => mid a b
  | .inl (.inl (.inl (.inr (a, b)))) => line a b
  | .inl (.inl (.inr (.inl (p, l)))) => par p l
  | .inl (.inl (.inr (.inr (p, l)))) => perp p l
  | .inl (.inr (.inl (.inl (l, m)))) => meet l m
  | .inl (.inr (.inl (.inr (p, l)))) => foot p l
  | .inl (.inr (.inr (.inl (p, l)))) => mirror p l
  | .inl (.inr (.inr (.inr (a, b, c)))) => centre a b c
  | .inr (.inl (.inl (.inl (.inl (a, b))))) => same a b
  | .inr (.inl (.inl (.inl (.inr (a, b, c))))) => col a b c
  | .inr (.inl (.inl (.inr (a, b, c)))) => ccw a b c
  | .inr (.inl (.inr (.inl (a, b, c)))) => btw a b c
  | .inr (.inl (.inr (.inr (a, b, c, d)))) => con a b c d
  | .inr (.inr (.inl (.inl (p, l)))) => on p l
  | .inr (.inr (.inl (.inr (l, m)))) => pll l m
  | .inr (.inr (.inr (.inl (l, m)))) => prp l m
  | .inr (.inr (.inr (.inr (l, m, n)))) => cc l m n
/-- What it gives: 80 a point, 76 a line, 63 an answer. -/
def srt : Cmd → Nat
  | .inl (.inl (.inl (.inl _))) => 80
  | .inl (.inl (.inl (.inr _))) => 76
  | .inl (.inl (.inr _)) => 76
  | .inl (.inr _) => 80
  | .inr _ => 63
def hm (k : Nat) : Tr := ⟨3 * k, 3 * k + 1, 3 * k + 2⟩
def kp3 (s : Nat) (m : Tr) (k : Nat) : List Stp := [⟨4, 3 * k, m.x, s⟩, ⟨4, 3 * k + 1, m.y, s⟩, ⟨4, 3 * k + 2, m.w, s⟩]
def kpP (s : Nat) (m : Tr) (k : Nat) : List Stp := ⟨5, s, m.w, 0⟩ :: kp3 s m k
def kpL (s : Nat) (m : Tr) (k : Nat) : List Stp := ⟨1, s, 1, 0⟩ :: kp3 s m k
def out1 (s : Nat) : List Stp := [⟨6, s, 0, 0⟩]
def cmdL (k i : Nat) : Cmd → List Stp
  | .inl (.inl (.inl (.inl (.inl ())))) => givenL 48 i ++ kpP 51 (givenR 48) k
  | .inl (.inl (.inl (.inl (.inr (a, b))))) => midL 48 (hm a) (hm b) ++ kpP 56 (midR 48) k
  | .inl (.inl (.inl (.inr (a, b)))) => crossL 48 (hm a) (hm b) ++ (prodS 57 50 50 53 53 ++ (⟨7, 59, 0, k⟩ :: kpL 60 (crossR 48) k))
  | .inl (.inl (.inr (.inl (p, l)))) => parL 48 (hm p) (hm l) ++ kpL 55 (parR 48) k
  | .inl (.inl (.inr (.inr (p, l)))) => uprL 48 (hm p) (hm l) ++ kpL 57 (uprR 48) k
  | .inl (.inr (.inl (.inl (l, m)))) => crossL 48 (hm l) (hm m) ++ (⟨7, 56, 1, k⟩ :: kpP 57 (crossR 48) k)
  | .inl (.inr (.inl (.inr (p, l)))) => footL 48 (hm p) (hm l) ++ kpP 66 (footR 48) k
  | .inl (.inr (.inr (.inl (p, l)))) => mirL 48 (hm p) (hm l) ++ kpP 75 (mirR 48) k
  | .inl (.inr (.inr (.inr (a, b, c)))) => cenL 48 (hm a) (hm b) (hm c) ++ (⟨7, 108, 2, k⟩ :: kpP 109 (cenR 48) k)
  | .inr (.inl (.inl (.inl (.inl (a, b))))) => samL 48 (hm a) (hm b) ++ (isnL 58 57 ++ out1 61)
  | .inr (.inl (.inl (.inl (.inr (a, b, c))))) => volL 48 (hm a) (hm b) (hm c) ++ (isnL 62 61 ++ out1 65)
  | .inr (.inl (.inl (.inr (a, b, c)))) => volL 48 (hm a) (hm b) (hm c) ++ out1 61
  | .inr (.inl (.inr (.inl (a, b, c)))) => btwL 48 (hm a) (hm b) (hm c) ++ out1 85
  | .inr (.inl (.inr (.inr (a, b, c, d)))) => rndL 48 (hm a) (hm b) (hm c) (hm d) ++ (isnL 98 97 ++ out1 101)
  | .inr (.inr (.inl (.inl (p, l)))) => dotL 48 (hm p) (hm l) ++ (isnL 53 52 ++ out1 56)
  | .inr (.inr (.inl (.inr (l, m)))) => prodD 48 (hm l).x (hm m).y (hm l).y (hm m).x ++ (isnL 51 50 ++ out1 54)
  | .inr (.inr (.inr (.inl (l, m)))) => prodS 48 (hm l).x (hm m).x (hm l).y (hm m).y ++ (isnL 51 50 ++ out1 54)
  | .inr (.inr (.inr (.inr (l, m, n)))) => volL 48 (hm l) (hm m) (hm n) ++ (isnL 62 61 ++ out1 65)
def insC : Cmd → Nat
  | .inl (.inl (.inl (.inl (.inl ())))) => 2
  | .inl (.inl (.inl (.inl (.inr _)))) => 0
  | .inl (.inl (.inl (.inr _))) => 0
  | .inl (.inl (.inr _)) => 0
  | .inl (.inr _) => 0
  | .inr _ => 0
def cmdsL : List Cmd → Nat → Nat → List Stp
  | [], _, _ => []
  | c :: r, k, i => cmdL k i c ++ cmdsL r (k + 1) (i + insC c)

def t0 : T3 := ⟨0, 0, 0⟩
def th (D : List T3) (j : Nat) : T3 := D[j]?.getD t0
def inp (ins : List Int) (j : Nat) : Int := ins[j]?.getD 0
/-- What a construction gives, as it is made. -/
def valC (D : List T3) (ins : List Int) (i : Nat) : Cmd → T3
  | .inl (.inl (.inl (.inl (.inl ())))) => ⟨inp ins i, inp ins (i + 1), 1⟩
  | .inl (.inl (.inl (.inl (.inr (a, b))))) => midV (th D a) (th D b)
  | .inl (.inl (.inl (.inr (a, b)))) => crossV (th D a) (th D b)
  | .inl (.inl (.inr (.inl (p, l)))) => parV (th D p) (th D l)
  | .inl (.inl (.inr (.inr (p, l)))) => uprV (th D p) (th D l)
  | .inl (.inr (.inl (.inl (l, m)))) => crossV (th D l) (th D m)
  | .inl (.inr (.inl (.inr (p, l)))) => footV (th D p) (th D l)
  | .inl (.inr (.inr (.inl (p, l)))) => mirV (th D p) (th D l)
  | .inl (.inr (.inr (.inr (a, b, c)))) => cenV (th D a) (th D b) (th D c)
  | .inr _ => t0
/-- Nought: it cannot be made. -/
def stopC (m : T3) : Cmd → Int
  | .inl (.inl (.inl (.inl _))) => 1
  | .inl (.inl (.inl (.inr _))) => m.x * m.x + m.y * m.y
  | .inl (.inl (.inr _)) => 1
  | .inl (.inr (.inl (.inl _))) => m.w
  | .inl (.inr (.inl (.inr _))) => 1
  | .inl (.inr (.inr (.inl _))) => 1
  | .inl (.inr (.inr (.inr _))) => m.w
  | .inr _ => 1
def lettC : Cmd → UInt8
  | .inl (.inl (.inl (.inl _))) => 99
  | .inl (.inl (.inl (.inr _))) => 115
  | .inl (.inl (.inr _)) => 99
  | .inl (.inr (.inl (.inl _))) => 112
  | .inl (.inr (.inl (.inr _))) => 99
  | .inl (.inr (.inr _)) => 99
  | .inr _ => 99
def mul3 (m : T3) (f : Int) : T3 := ⟨m.x * f, m.y * f, m.w * f⟩
def facC (m : T3) (c : Cmd) : Int := if srt c = 80 then sgn m.w else 1
def askC (D : List T3) : Cmd → Int
  | .inl _ => 0
  | .inr (.inl (.inl (.inl (.inl (a, b))))) => isnV (samV (th D a) (th D b))
  | .inr (.inl (.inl (.inl (.inr (a, b, c))))) => isnV (volV (th D a) (th D b) (th D c))
  | .inr (.inl (.inl (.inr (a, b, c)))) => volV (th D a) (th D b) (th D c)
  | .inr (.inl (.inr (.inl (a, b, c)))) => btwV (th D a) (th D b) (th D c)
  | .inr (.inl (.inr (.inr (a, b, c, d)))) => isnV (rndV (th D a) (th D b) (th D c) (th D d))
  | .inr (.inr (.inl (.inl (p, l)))) => isnV (dotV (th D p) (th D l))
  | .inr (.inr (.inl (.inr (l, m)))) => isnV ((th D l).x * (th D m).y - (th D l).y * (th D m).x)
  | .inr (.inr (.inr (.inl (l, m)))) => isnV ((th D l).x * (th D m).x + (th D l).y * (th D m).y)
  | .inr (.inr (.inr (.inr (l, m, n)))) => isnV (volV (th D l) (th D m) (th D n))
/-- The report. -/
def semC (ins : List Int) : List Cmd → Nat → Nat → List T3 → ByteArray → ByteArray
  | [], _, _, _, s => s
  | c :: r, k, i, D, s =>
    if srt c = 63 then semC ins r (k + 1) i (D ++ [t0]) (s ++ ⟨#[if 0 < askC D c then 49 else 48]⟩)
    else if stopC (valC D ins i c) c = 0 then s ++ ⟨#[lettC c]⟩ ++ dec (k : Int)
    else semC ins r (k + 1) (i + insC c) (D ++ [mul3 (valC D ins i c) (facC (valC D ins i c) c)]) s

def isP (C : List Cmd) (a : Nat) : Prop := ∃ h : a < C.length, srt C[a] = 80
def isLn (C : List Cmd) (a : Nat) : Prop := ∃ h : a < C.length, srt C[a] = 76
def okC (C : List Cmd) : Cmd → Prop
  | .inl (.inl (.inl (.inl (.inl ())))) => True
  | .inl (.inl (.inl (.inl (.inr (a, b))))) => isP C a ∧ isP C b
  | .inl (.inl (.inl (.inr (a, b)))) => isP C a ∧ isP C b
  | .inl (.inl (.inr (.inl (p, l)))) => isP C p ∧ isLn C l
  | .inl (.inl (.inr (.inr (p, l)))) => isP C p ∧ isLn C l
  | .inl (.inr (.inl (.inl (l, m)))) => isLn C l ∧ isLn C m
  | .inl (.inr (.inl (.inr (p, l)))) => isP C p ∧ isLn C l
  | .inl (.inr (.inr (.inl (p, l)))) => isP C p ∧ isLn C l
  | .inl (.inr (.inr (.inr (a, b, c)))) => isP C a ∧ isP C b ∧ isP C c
  | .inr (.inl (.inl (.inl (.inl (a, b))))) => isP C a ∧ isP C b
  | .inr (.inl (.inl (.inl (.inr (a, b, c))))) => isP C a ∧ isP C b ∧ isP C c
  | .inr (.inl (.inl (.inr (a, b, c)))) => isP C a ∧ isP C b ∧ isP C c
  | .inr (.inl (.inr (.inl (a, b, c)))) => isP C a ∧ isP C b ∧ isP C c
  | .inr (.inl (.inr (.inr (a, b, c, d)))) => isP C a ∧ isP C b ∧ isP C c ∧ isP C d
  | .inr (.inr (.inl (.inl (p, l)))) => isP C p ∧ isLn C l
  | .inr (.inr (.inl (.inr (l, m)))) => isLn C l ∧ isLn C m
  | .inr (.inr (.inr (.inl (l, m)))) => isLn C l ∧ isLn C m
  | .inr (.inr (.inr (.inr (l, m, n)))) => isLn C l ∧ isLn C m ∧ isLn C n
def wt (W : List Nat) (j : Nat) : Nat := W[j]?.getD 0
def wtC (W : List Nat) : Cmd → Nat
  | .inl (.inl (.inl (.inl (.inl ())))) => 1
  | .inl (.inl (.inl (.inl (.inr (a, b))))) => wt W a + wt W b
  | .inl (.inl (.inl (.inr (a, b)))) => wt W a + wt W b
  | .inl (.inl (.inr (.inl (p, l)))) => wt W p + wt W l
  | .inl (.inl (.inr (.inr (p, l)))) => wt W p + wt W l
  | .inl (.inr (.inl (.inl (l, m)))) => wt W l + wt W m
  | .inl (.inr (.inl (.inr (p, l)))) => wt W p + wt W l + wt W l
  | .inl (.inr (.inr (.inl (p, l)))) => 2 * (wt W p + wt W l)
  | .inl (.inr (.inr (.inr (a, b, c)))) => 4 * (wt W a + wt W b + wt W c)
  | .inr _ => 0
/-- Right statements behind those of C, which weigh W. -/
def Wf : List Cmd → List Nat → List Cmd → Prop
  | _, _, [] => True
  | C, W, c :: r => okC C c ∧ wtC W c ≤ 64 ∧ Wf (C ++ [c]) (W ++ [wtC W c]) r
def cntI (r : List Cmd) : Nat := (r.map insC).sum

/-- c |v| is at most d A. -/
def BdM (c d A : Nat) (v : Int) : Prop := c * v.natAbs ≤ d * A
theorem BdM.mul {c d A c' d' A' : Nat} {x y : Int} (h : BdM c d A x) (k : BdM c' d' A' y) : BdM (c * c') (d * d') (A * A') (x * y) := by
  unfold BdM at *
  rw [Int.natAbs_mul]
  have := Nat.mul_le_mul h k
  grind
theorem BdM.add {c d d' A : Nat} {x y : Int} (h : BdM c d A x) (k : BdM c d' A y) : BdM c (d + d') A (x + y) := by
  unfold BdM at *
  have h1 : c * (x + y).natAbs ≤ c * (x.natAbs + y.natAbs) := Nat.mul_le_mul_left c (Int.natAbs_add_le x y)
  grind
theorem BdM.neg {c d A : Nat} {x : Int} (h : BdM c d A x) : BdM c d A (0 - x) := by
  unfold BdM at *; rw [Int.zero_sub, Int.natAbs_neg]; exact h
theorem BdM.sub {c d d' A : Nat} {x y : Int} (h : BdM c d A x) (k : BdM c d' A y) : BdM c (d + d') A (x - y) := by
  have := h.add k.neg
  rwa [show x + (0 - y) = x - y by omega] at this
theorem BdM.comm {c d A A' : Nat} {x : Int} (h : BdM c d (A * A') x) : BdM c d (A' * A) x := by rw [Nat.mul_comm]; exact h
def B3 (c d A : Nat) (v : T3) : Prop := BdM c d A v.x ∧ BdM c d A v.y ∧ BdM c d A v.w
theorem B3.cross {c d A c' d' A' : Nat} {u v : T3} (h : B3 c d A u) (k : B3 c' d' A' v) : B3 (c * c') (d * d' + d * d') (A * A') (crossV u v) :=
  ⟨(h.2.1.mul k.2.2).sub (h.2.2.mul k.2.1), (h.2.2.mul k.1).sub (h.1.mul k.2.2), (h.1.mul k.2.1).sub (h.2.1.mul k.1)⟩
theorem B3.mid {c d A A' : Nat} {u v : T3} (h : B3 c d A u) (k : B3 c d A' v) : B3 (c * c) (d * d + d * d) (A * A') (midV u v) :=
  ⟨(h.1.mul k.2.2).add (k.1.mul h.2.2).comm, (h.2.1.mul k.2.2).add (k.2.1.mul h.2.2).comm, (h.2.2.mul k.2.2).add (h.2.2.mul k.2.2)⟩
theorem BdM.up {c d d' A : Nat} {x : Int} (h : BdM c d A x) (k : d ≤ d') : BdM c d' A x := Nat.le_trans h (Nat.mul_le_mul_right A k)
theorem B3.par {c d A c' d' A' : Nat} {p l : T3} (h : B3 c d A p) (k : B3 c' d' A' l) : B3 (c' * c) (d' * d + d' * d) (A' * A) (parV p l) :=
  ⟨(k.1.mul h.2.2).up (by omega), (k.2.1.mul h.2.2).up (by omega), ((k.1.mul h.1).add (k.2.1.mul h.2.1)).neg⟩
theorem B3.upr {c d A c' d' A' : Nat} {p l : T3} (h : B3 c d A p) (k : B3 c' d' A' l) : B3 (c' * c) (d' * d + d' * d) (A' * A) (uprV p l) := h.par ⟨k.2.1, k.1.neg, k.2.2⟩
def Bw (w : Nat) (v : T3) : Prop := B3 3 1 (297 ^ w) v
theorem BdM.fin {c d A A' : Nat} {x : Int} (h : BdM c d A x) (h0 : 0 < c) (hc : 3 * d ≤ c) (hA : A ≤ A') : BdM 3 1 A' x := by
  unfold BdM at *
  have h2 : 3 * d * A ≤ c * A := Nat.mul_le_mul_right A hc
  have h3 : c * (3 * x.natAbs) ≤ c * A := by grind
  have := Nat.le_of_mul_le_mul_left h3 h0
  omega
theorem B3.fin {c d A w : Nat} {x : T3} (h : B3 c d A x) (h0 : 0 < c) (hc : 3 * d ≤ c) (hA : A ≤ 297 ^ w) : Bw w x := ⟨h.1.fin h0 hc hA, h.2.1.fin h0 hc hA, h.2.2.fin h0 hc hA⟩
theorem p297 (a b : Nat) : 297 ^ a * 297 ^ b ≤ 297 ^ (a + b) := by rw [Nat.pow_add]; exact Nat.le_refl _
theorem q297 {a b : Nat} (h : a ≤ b) : 297 ^ a ≤ 297 ^ b := Nat.pow_le_pow_right (by omega) h
theorem Bw.cross {a b : Nat} {u v : T3} (h : Bw a u) (k : Bw b v) : Bw (a + b) (crossV u v) := (B3.cross h k).fin (by omega) (by omega) (p297 a b)
theorem Bw.mid {a b : Nat} {u v : T3} (h : Bw a u) (k : Bw b v) : Bw (a + b) (midV u v) := (B3.mid h k).fin (by omega) (by omega) (p297 a b)
theorem Bw.par {a b : Nat} {u v : T3} (h : Bw a u) (k : Bw b v) : Bw (a + b) (parV u v) := (B3.par h k).fin (by omega) (by omega) (by rw [Nat.add_comm]; exact p297 b a)
theorem Bw.upr {a b : Nat} {u v : T3} (h : Bw a u) (k : Bw b v) : Bw (a + b) (uprV u v) := (B3.upr h k).fin (by omega) (by omega) (by rw [Nat.add_comm]; exact p297 b a)
theorem Bw.foot {a b : Nat} {u v : T3} (h : Bw a u) (k : Bw b v) : Bw (a + b + b) (footV u v) := (B3.cross (B3.upr h k) k).fin (by omega) (by omega) (by rw [← Nat.pow_add, ← Nat.pow_add]; exact q297 (by omega))
theorem Bw.mir {a b : Nat} {u v : T3} (h : Bw a u) (k : Bw b v) : Bw (2 * (a + b)) (mirV u v) := by
  have f := B3.cross (B3.upr h k) k
  have e : 297 ^ b * 297 ^ a * 297 ^ b * 297 ^ a ≤ 297 ^ (2 * (a + b)) := by rw [← Nat.pow_add, ← Nat.pow_add, ← Nat.pow_add]; exact q297 (by omega)
  refine ⟨(((f.1.add f.1).mul h.2.2).sub (h.1.mul f.2.2).comm).fin (by omega) (by omega) e, (((f.2.1.add f.2.1).mul h.2.2).sub (h.2.1.mul f.2.2).comm).fin (by omega) (by omega) e, (f.2.2.mul h.2.2).fin (by omega) (by omega) e⟩
theorem Bw.cen {a b c : Nat} {u v t : T3} (h : Bw a u) (k : Bw b v) (j : Bw c t) : Bw (4 * (a + b + c)) (cenV u v t) := by
  have h1 := B3.upr (B3.mid h k) (B3.cross h k)
  have h2 := B3.upr (B3.mid h j) (B3.cross h j)
  refine (B3.cross h1 h2).fin (by omega) (by omega) ?_
  rw [← Nat.pow_add, ← Nat.pow_add, ← Nat.pow_add, ← Nat.pow_add, ← Nat.pow_add]; exact q297 (by omega)
theorem BdM.sg {A : Nat} {x f : Int} (h : BdM 3 1 A x) (hf : f.natAbs ≤ 1) : BdM 3 1 A (x * f) := by
  unfold BdM at *
  rw [Int.natAbs_mul]
  have := Nat.mul_le_mul_left x.natAbs hf
  omega
theorem Bw.sg {w : Nat} {v : T3} {f : Int} (h : Bw w v) (hf : f.natAbs ≤ 1) : Bw w (mul3 v f) := ⟨h.1.sg hf, h.2.1.sg hf, h.2.2.sg hf⟩
theorem sgn_abs (x : Int) : (sgn x).natAbs ≤ 1 := by rcases sgn_cases x with h | h | h <;> rw [h.1] <;> decide
theorem facC_abs (m : T3) (c : Cmd) : (facC m c).natAbs ≤ 1 := by
  unfold facC; split
  · exact sgn_abs _
  · decide
theorem Bw.sm {w M : Nat} {v : T3} (h : Bw w v) (hw : w ≤ 64) (hM : 297 ^ 64 ≤ M) : Sm M v.x ∧ Sm M v.y ∧ Sm M v.w := by
  have q := q297 hw
  obtain ⟨h1, h2, h3⟩ := h
  unfold BdM at h1 h2 h3
  unfold Sm
  generalize 297 ^ w = A at *
  generalize 297 ^ 64 = A' at *
  omega
end Go.Proofs.YtmnfndpbblpjiabGreatDoor.Pu

/- The program's Verify, and a step that asks for it. -/
import Derived.Test.YtmnfndpbblpjiaaGreatDoorVp8
import Derived.Test.YtmnfndpbblpjiaaGreatDoorRv5
import Derived.Test.YtmnfndpbblpjiaaGreatDoorLaw
import Derived.Test.YtmnfndpbblpjiaaGreatDoorPw
import Derived.Test.YtmnfndpbblpjiaaGreatDoorPq
import Derived.Test.YtmnfndpbblpjiaaGreatDoorRs1
import Derived.Test.YtmnfndpbblpjiaaGreatDoorRd3
import Derived.Test.YtmnfndpbblpjiaaGreatDoorRs2
namespace Go.Proofs.YtmnfndpbblpjiaaGreatDoor
open Go.RowKit Pu

set_option maxHeartbeats 400000 in
theorem verify_long (s : ByteArray) (w : World) (hs : 8006 < s.size) (hm : s.size ≤ maxLen) : Calls Tryz.prog 38 #[.string s] w fun e w' => e = .returned (.tuple #[.int .i64 1, .int .i64 0]) ∧ Mod (fun _ => False) w w' := by
  have hd := dec_long s w hs hm
  unfold maxLen at hm
  go_enter Tryz.func38, Tryz.ntmps38
  go_wp2_with fail
  refine hd.mono ?_
  rintro e w1 ⟨rfl, hm1⟩
  go_wp2_with fail
  go_ret2
  exact ⟨rfl, hm1.alloc _⟩
set_option maxHeartbeats 400000 in
theorem verify_any (s : ByteArray) (w : World) (hs : s.size ≤ 8006) : Calls Tryz.prog 38 #[.string s] w fun e w' => e = .returned (.tuple #[.int .i64 (vfy s).1, .int .i64 (vfy s).2]) ∧ Mod (fun _ => False) w w' := by
  go_enter Tryz.func38, Tryz.ntmps38
  go_wp2_with fail
  refine (dec_any s w hs).mono ?_
  rintro e w1 ⟨⟨a, b, ao, n, cap, rfl, -⟩, hm1⟩
  go_wp2_with fail
  go_ret2
  exact ⟨rfl, hm1.alloc _⟩

set_option maxHeartbeats 800000 in
set_option maxRecDepth 100000 in
theorem texts_verify (n : Int) (a b : ByteArray) (w : World) (ha : a.size ≤ maxLen) : Calls Tryz.prog 22 #[op4 3 n a b] w fun e w' => e = .returned (.bool true) ∧ Mod (fun _ => False) w w' := by
  have hO := ope_new w 3 n a b
  have hm0 : Mod (fun _ => False) w (w.alloc (.cells #[.int .i64 3, .int .i64 n, .string a, .string b] 32)) := (Mod.refl _ w).alloc _
  by_cases hs : a.size ≤ 8006
  · go_enter Tryz.func22, Tryz.ntmps22
    go_wp2_with fail
    refine (verify_any a _ hs).mono ?_
    rintro e w1 ⟨rfl, hm1⟩
    have hO1 := hO.keep hm1 (fun f => f)
    have c2 := hO1.c2
    go_wp2_with fail
    refine (rverify_any a _ hs).mono ?_
    rintro e w2 ⟨rfl, hm2⟩
    have hm := hm0.trans (hm1.trans hm2)
    clear hm0 hm1 hm2 c2 hO1 hO
    go_wp2_with (go_at_call 25; refine (num_any _ _).mono ?_; rintro e w' ⟨rfl, rfl⟩)
    go_ret
    exact ⟨rfl, hm⟩
  · go_enter Tryz.func22, Tryz.ntmps22
    go_wp2_with fail
    refine (verify_long a _ (by omega) ha).mono ?_
    rintro e w1 ⟨rfl, hm1⟩
    have hO1 := hO.keep hm1 (fun f => f)
    have c2 := hO1.c2
    go_wp2_with fail
    refine (rverify_long a _ (by omega) ha).mono ?_
    rintro e w2 ⟨rfl, rfl⟩
    have hm := hm0.trans hm1
    go_wp2_with (go_at_call 25; refine (num_any _ _).mono ?_; rintro e w' ⟨rfl, rfl⟩)
    go_ret
    exact ⟨rfl, hm⟩

set_option maxHeartbeats 800000 in
set_option maxRecDepth 100000 in
theorem plays_verify : Plays 3 3 := by
  intro kd n a b w h1 h2 ha hb hn
  obtain rfl : kd = 3 := by omega
  have hm0 : Mod (fun _ => False) w (w.alloc (.cells #[.int .i64 3, .int .i64 n, .string a, .string b] 32)) := (Mod.refl _ w).alloc _
  clear h1 h2 hb hn
  go_enter Tryz.func18, Tryz.ntmps18
  go_wp2_with fail
  refine (texts_verify n a b _ ha).mono ?_
  rintro e w1 ⟨rfl, hm1⟩
  go_wp2_with fail
  go_ret
  exact ⟨rfl, hm0.trans hm1⟩

set_option maxHeartbeats 400000 in
theorem verifies_walk (v : Value) (w : World) (hS : Scr w v) : Calls Tryz.prog 5 #[v] w fun e w' => e = .returned (.bool true) ∧ Mod (fun _ => False) w w' := by
  have HS : Hid (Scr w v) := hS
  clear hS
  go_enter Tryz.func5, Tryz.ntmps5
  go_wp2_with fail
  refine (upto_any v 3 3 w HS.out plays_verify).mono ?_
  rintro e w1 ⟨rfl, hm1⟩
  go_wp2_with fail
  go_ret
  exact ⟨rfl, hm1⟩
end Go.Proofs.YtmnfndpbblpjiaaGreatDoor

/- Codes: what is wanted ahead of a step, against who set it. -/
namespace Go.Proofs.YtmnfndpbblpjiaaGreatDoor.Pu

def upd (r : Nat) (b : Bool) (W : Nat → Bool) : Nat → Bool := fun i => if i = r then b else W i
def wAhead (t : Stp) (W : Nat → Bool) : Nat → Bool :=
  if rz t.op then upd t.z true (if ry t.op then upd t.y true (upd t.x (!decide (t.op ≤ 5)) W) else upd t.x (!decide (t.op ≤ 5)) W)
  else (if ry t.op then upd t.y true (upd t.x (!decide (t.op ≤ 5)) W) else upd t.x (!decide (t.op ≤ 5)) W)
def pN (t : Stp) (W : Nat → Bool) : Bool := !decide (t.op ≤ 5) || W t.x
theorem wAhead_iff (t : Stp) (W : Nat → Bool) (r : Nat) : wAhead t W r = true ↔ r ∈ readsOf t ∨ (W r = true ∧ ¬ (t.op ≤ 5 ∧ r = t.x)) := by
  obtain ⟨op, x, y, z⟩ := t
  unfold wAhead upd readsOf ry rz
  have h : op = 0 ∨ op = 1 ∨ op = 2 ∨ op = 3 ∨ op = 4 ∨ op = 5 ∨ 5 < op := by omega
  rcases h with rfl | rfl | rfl | rfl | rfl | rfl | h
  · by_cases c : r = x <;> simp [c]
  · by_cases c : r = x <;> simp [c]
  · by_cases a : r = z <;> by_cases b : r = y <;> by_cases c : r = x <;> simp [a, b, c] <;> simp_all
  · by_cases a : r = z <;> by_cases b : r = y <;> by_cases c : r = x <;> simp [a, b, c] <;> simp_all
  · by_cases a : r = z <;> by_cases b : r = y <;> by_cases c : r = x <;> simp [a, b, c] <;> simp_all
  · by_cases b : r = y <;> by_cases c : r = x <;> simp [b, c] <;> simp_all
  · by_cases c : r = x <;> simp [c, show ¬ op = 2 by omega, show ¬ op = 3 by omega, show ¬ op = 4 by omega, show ¬ op = 5 by omega, show ¬ op ≤ 5 by omega, show ¬ op ≤ 4 by omega, show 6 ≤ op by omega]
theorem mark1_get (l : List Stp) (k : Nat) (nd : List Bool) (r j : Nat) : (mark1 l k nd r)[j]? = some true ↔ nd[j]? = some true ∨ (j < nd.length ∧ setterI l r k = (j : Int)) := by
  unfold mark1
  by_cases h : 0 ≤ setterI l r k
  · rw [if_pos h, List.getElem?_set]
    by_cases e : (setterI l r k).toNat = j
    · have : setterI l r k = (j : Int) := by omega
      rw [if_pos e]
      by_cases hl : j < nd.length
      · simp [hl, this]
      · simp [e, hl]
    · have : setterI l r k ≠ (j : Int) := by omega
      rw [if_neg e]
      simp [this]
  · rw [if_neg h]
    have : setterI l r k ≠ (j : Int) := by omega
    simp [this]
theorem marks_get (l : List Stp) (k : Nat) (rs : List Nat) (nd : List Bool) (j : Nat) : (marks l k rs nd)[j]? = some true ↔ nd[j]? = some true ∨ (j < nd.length ∧ ∃ r ∈ rs, setterI l r k = (j : Int)) := by
  induction rs generalizing nd with
  | nil => simp [marks]
  | cons r rs ih =>
    show (marks l k rs (mark1 l k nd r))[j]? = some true ↔ _
    rw [ih, mark1_get, mark1_len]
    constructor
    · rintro ((h | ⟨h1, h2⟩) | ⟨h1, r', h2, h3⟩)
      · exact .inl h
      · exact .inr ⟨h1, r, by simp, h2⟩
      · exact .inr ⟨h1, r', by simp [h2], h3⟩
    · rintro (h | ⟨h1, r', h2, h3⟩)
      · exact .inl (.inl h)
      · rcases List.mem_cons.1 h2 with rfl | h2
        · exact .inl (.inr ⟨h1, h3⟩)
        · exact .inr ⟨h1, r', h2, h3⟩
theorem mark1_keep (l : List Stp) (k : Nat) (nd : List Bool) (r j : Nat) (hj : k ≤ j) : (mark1 l k nd r)[j]? = nd[j]? := by
  unfold mark1
  have := setterI_lt l r k
  split
  · rw [List.getElem?_set, if_neg (by omega)]
  · rfl
theorem marks_keep (l : List Stp) (k : Nat) (rs : List Nat) (nd : List Bool) (j : Nat) (hj : k ≤ j) : (marks l k rs nd)[j]? = nd[j]? := by
  induction rs generalizing nd with
  | nil => rfl
  | cons r rs ih => show (marks l k rs (mark1 l k nd r))[j]? = _; rw [ih, mark1_keep _ _ _ _ _ hj]
theorem needStep_keep (l : List Stp) (k : Nat) (nd : List Bool) (j : Nat) (hj : k < j) : (needStep l k nd)[j]? = nd[j]? := by
  unfold needStep
  split
  · rw [marks_keep _ _ _ _ _ (by omega), List.getElem?_set, if_neg (by omega)]
  · rfl
theorem needFrom_keep (l : List Stp) (k : Nat) (nd : List Bool) (j : Nat) (hj : k ≤ j) : (needFrom l k nd)[j]? = nd[j]? := by
  induction k generalizing nd with
  | zero => rfl
  | succ k ih => show (needFrom l k (needStep l k nd))[j]? = _; rw [ih _ (by omega), needStep_keep _ _ _ _ (by omega)]
/-- Having come down to step k. -/
structure NInv (l : List Stp) (k : Nat) (nd : List Bool) (W : Nat → Bool) : Prop where
  len : nd.length = l.length
  ahead : ∀ j, j < k → (nd[j]? = some true ↔ ∃ r, W r = true ∧ setterI l r k = (j : Int))
  fin : needFrom l k nd = neededL l
theorem NInv.start (l : List Stp) : NInv l l.length (List.replicate l.length false) (fun _ => false) :=
  ⟨by simp, fun j hj => by simp [hj], rfl⟩
theorem NInv.isn {l : List Stp} {k : Nat} {nd : List Bool} {W : Nat → Bool} (h : NInv l (k + 1) nd W) (hk : k < l.length) : isN l k nd = pN l[k] W := by
  rw [isN_at hk (by rw [h.len]; exact hk)]
  have ha := h.ahead k (by omega)
  rw [List.getElem?_eq_getElem (by rw [h.len]; exact hk)] at ha
  unfold pN
  by_cases h5 : l[k].op ≤ 5
  · simp only [h5, decide_true, Bool.not_true, Bool.false_or, show ¬ 6 ≤ l[k].op by omega, decide_false, Bool.or_false]
    rw [Bool.eq_iff_iff]
    constructor
    · intro hn
      obtain ⟨r, h1, h2⟩ := ha.1 (by rw [hn])
      by_cases e : l[k].x = r
      · rw [e]; exact h1
      · rw [setterI_miss hk (fun h => e h.2)] at h2
        have := setterI_lt l r k
        omega
    · intro hw
      have := ha.2 ⟨l[k].x, hw, setterI_hit hk ⟨h5, rfl⟩⟩
      simpa using this
  · simp [h5, show 6 ≤ l[k].op by omega]
theorem NInv.val {l : List Stp} {k : Nat} {nd : List Bool} {W : Nat → Bool} (h : NInv l (k + 1) nd W) (hk : k < l.length) : (neededL l)[k]? = some (pN l[k] W) := by
  have hi := h.isn hk
  rw [← h.fin]
  show (needFrom l k (needStep l k nd))[k]? = _
  rw [needFrom_keep _ _ _ _ (Nat.le_refl k)]
  have hl : k < nd.length := by rw [h.len]; exact hk
  cases hp : isN l k nd with
  | true =>
    rw [needStep_yes hk hp, marks_keep _ _ _ _ _ (Nat.le_refl k), ← hi, hp]
    simp [hl]
  | false =>
    rw [needStep_no hp, ← hi, hp]
    rw [isN_at hk hl] at hp
    simp at hp
    simp [hl, hp.1]
theorem NInv.yes {l : List Stp} {k : Nat} {nd : List Bool} {W : Nat → Bool} (h : NInv l (k + 1) nd W) (hk : k < l.length) (hp : pN l[k] W = true) : NInv l k (needStep l k nd) (wAhead l[k] W) := by
  have hi := h.isn hk
  rw [hp] at hi
  refine ⟨by rw [needStep_len]; exact h.len, fun j hj => ?_, h.fin⟩
  rw [needStep_yes hk hi, marks_get, List.getElem?_set, if_neg (by omega), h.ahead j (by omega)]
  have hl : j < (nd.set k true).length := by simp; rw [h.len]; omega
  constructor
  · rintro (⟨r, h1, h2⟩ | ⟨_, r, h1, h2⟩)
    · by_cases e : l[k].op ≤ 5 ∧ l[k].x = r
      · rw [setterI_hit hk e] at h2; omega
      · rw [setterI_miss hk e] at h2
        exact ⟨r, (wAhead_iff _ _ _).2 (.inr ⟨h1, fun h => e ⟨h.1, h.2.symm⟩⟩), h2⟩
    · exact ⟨r, (wAhead_iff _ _ _).2 (.inl h1), h2⟩
  · rintro ⟨r, h1, h2⟩
    rcases (wAhead_iff _ _ _).1 h1 with h1 | ⟨h1, h3⟩
    · exact .inr ⟨hl, r, h1, h2⟩
    · exact .inl ⟨r, h1, by rw [setterI_miss hk (fun h => h3 ⟨h.1, h.2.symm⟩)]; exact h2⟩
theorem NInv.no {l : List Stp} {k : Nat} {nd : List Bool} {W : Nat → Bool} (h : NInv l (k + 1) nd W) (hk : k < l.length) (hp : pN l[k] W = false) : NInv l k (needStep l k nd) W := by
  have hi := h.isn hk
  rw [hp] at hi
  simp [pN] at hp
  refine ⟨by rw [needStep_len]; exact h.len, fun j hj => ?_, h.fin⟩
  rw [needStep_no hi, h.ahead j (by omega)]
  have hr : ∀ r, W r = true → setterI l r (k + 1) = setterI l r k := fun r hr => setterI_miss hk (fun h => by rw [h.2] at hp; simp [hr] at hp)
  constructor
  · rintro ⟨r, h1, h2⟩; exact ⟨r, h1, by rw [← hr r h1]; exact h2⟩
  · rintro ⟨r, h1, h2⟩; exact ⟨r, h1, by rw [hr r h1]; exact h2⟩
/-- What the program has told of the steps, having come down to k. -/
def toldTo (l : List Stp) (k : Nat) : List Bool := List.replicate k false ++ (neededL l).drop k
theorem toldTo_len (l : List Stp) (k : Nat) (hk : k ≤ l.length) : (toldTo l k).length = l.length := by simp [toldTo, neededL_len]; omega
theorem toldTo_start (l : List Stp) : toldTo l l.length = List.replicate l.length false := by
  unfold toldTo; rw [List.drop_of_length_le (by rw [neededL_len]; exact Nat.le_refl _)]; simp
theorem toldTo_zero (l : List Stp) : toldTo l 0 = neededL l := by simp [toldTo]
theorem toldTo_step {l : List Stp} {k : Nat} {b : Bool} (_hk : k < l.length) (h : (neededL l)[k]? = some b) : (toldTo l (k + 1)).set k b = toldTo l k := by
  apply List.ext_getElem?
  intro j
  have hn : (neededL l).length = l.length := neededL_len l
  unfold toldTo
  rw [List.getElem?_set]
  by_cases e : k = j
  · subst e
    rw [if_pos rfl]
    simp [List.getElem?_append, h]; omega
  · rw [if_neg e]
    by_cases hj : j < k
    · simp [List.getElem?_append, hj, show j < k + 1 by omega]
    · simp [List.getElem?_append, hj, show ¬ j < k + 1 by omega]
      congr 1
      omega
end Go.Proofs.YtmnfndpbblpjiaaGreatDoor.Pu

/- The program's wantedAhead. -/
namespace Go.Proofs.YtmnfndpbblpjiaaGreatDoor
open Go.RowKit Pu

theorem results_one {fn : Func} {p : Tmp} {ty : TypeId} (h : fn.results = #[.cell p ty]) (tmps : Array Value) (P : Program) (w : World) :
    (results fn tmps).run P w = ((asAddr (tmps.getD p undef)).run P w).andThen fun a w₁ => (loadVar ty a).run P w₁ := by
  simp only [results, h]
  simp [Sem.run_bind, Result.andThen]
theorem mupd (M : Nat → Bool) (r : Nat) (b : Bool) : (mcells M).setIfInBounds r (.bool b) = mcells (upd r b M) := mcells_set M r b

/-- The step, its marks and the result's place. -/
def AS (w wX : World) (t : Stp) (M : Nat → Bool) : Prop :=
  wX.heap[w.heap.size]? = some (.cells #[.int .u8 t.op, .int .u8 t.x, .int .u8 t.y, .int .u8 t.z] 107 (0, 0)) ∧ wX.heap[w.heap.size + 1]? = some (.cells (mcells M) 105 (0, 0)) ∧
  wX.heap[w.heap.size + 1 + 1]? = some (.cells Tryz.zeroCells105 105 (0, 0)) ∧ Mod (fun _ => False) w wX
theorem AS.set {w wX : World} {t : Stp} {M : Nat → Bool} (h : AS w wX t M) (r : Nat) (v : Bool) : AS w (wX.setCell ⟨w.heap.size + 1, r, none⟩ (.bool v)) t (upd r v M) := by
  obtain ⟨h1, h2, h3, h4⟩ := h
  have hm : Mod (fun q => q = w.heap.size + 1) wX (wX.setCell ⟨w.heap.size + 1, r, none⟩ (.bool v)) := (Mod.refl _ wX).setCell ⟨w.heap.size + 1, r, none⟩ (.bool v) (fun _ => rfl)
  exact ⟨hm.keep h1 (by omega), mset r v h2, hm.keep h3 (by omega), h4.setCell ⟨w.heap.size + 1, r, none⟩ (.bool v) (fun h => absurd h (by show ¬ w.heap.size + 1 < w.heap.size; omega))⟩
theorem AS.drew {w wX : World} {t : Stp} {M : Nat → Bool} (h : AS w wX t M) : AS w wX.drew t M := ⟨h.1, h.2.1, h.2.2.1, h.2.2.2.drew⟩
theorem AS.mx {w wX : World} {t : Stp} {M : Nat → Bool} (h : AS w wX t M) {r : Nat} (hr : r < 256) : wX.cell? ⟨w.heap.size + 1, r, none⟩ = some (.bool (M r)) ∧ wX.frozen? ⟨w.heap.size + 1, r, none⟩ = false := by
  refine ⟨?_, fz3 h.2.1 r⟩
  have := mcells_at M hr
  simp only [World.cell?, h.2.1]; simpa using this
theorem setRow_at {w : World} {b : Nat} {C C' : Array Value} {t : TypeId} (h : w.heap[b]? = some (.cells C t (0, 0))) : (w.setRow b C').heap[b]? = some (.cells C' t (0, 0)) := by
  simp [World.setRow, Array.getElem?_modify, h]
theorem setRow_mod (w : World) (b : Nat) (C : Array Value) : Mod (fun q => q = b) w (w.setRow b C) :=
  ⟨rfl, rfl, rfl, by simp [World.setRow], fun k _ hk => by simp only [World.setRow]; rw [Array.getElem?_modify, if_neg (fun h => hk h.symm)]⟩
theorem setRow_new {w wX : World} {b : Nat} {C : Array Value} (h : Mod (fun _ => False) w wX) (hb : w.heap.size ≤ b) : Mod (fun _ => False) w (wX.setRow b C) := by
  have := (h.mono (q := fun q => q = b) (fun _ _ f => f.elim)).trans (setRow_mod wX b C)
  exact this.mono (fun k hk e => by omega)

set_option maxHeartbeats 800000 in
set_option maxRecDepth 4000 in
theorem ahead_any (t : Stp) (M : Nat → Bool) (w : World) (ht : Small t) : Calls Tryz.prog 121 #[stV t, .agg (mcells M)] w fun e w' => e = .returned (.agg (mcells (wAhead t M))) ∧ Mod (fun _ => False) w w' := by
  obtain ⟨h1, h2, h3, h4⟩ := ht
  have ix : (t.x : Int) < 256 := by omega
  have iy : (t.y : Int) < 256 := by omega
  have iz : (t.z : Int) < 256 := by omega
  have hsz := mcells_size M
  have HZS : Hid (Tryz.zeroCells105.size = 256) := Tryz.zeroCells105_size
  have HW : Hid (wAhead t M = if rz t.op then upd t.z true (if ry t.op then upd t.y true (upd t.x (!decide (t.op ≤ 5)) M) else upd t.x (!decide (t.op ≤ 5)) M)
    else (if ry t.op then upd t.y true (upd t.x (!decide (t.op ≤ 5)) M) else upd t.x (!decide (t.op ≤ 5)) M)) := rfl
  generalize wAhead t M = A at *
  have hsx := fun w => setsx_any t.op w h1
  have hry := fun w => readsy_any t.op w h1
  have hrz := fun w => readsz_any t.op w h1
  generalize decide (t.op ≤ 5) = b5 at *
  generalize ry t.op = py at *
  generalize rz t.op = pz at *
  have hA0 : AS w (((w.alloc (.cells #[.int .u8 t.op, .int .u8 t.x, .int .u8 t.y, .int .u8 t.z] 107)).alloc (.cells (mcells M) 105)).alloc (.cells Tryz.zeroCells105 105)) t M := by
    obtain ⟨a1, a2, a3⟩ := alloc3_at w (.cells #[.int .u8 t.op, .int .u8 t.x, .int .u8 t.y, .int .u8 t.z] 107) (.cells (mcells M) 105) (.cells Tryz.zeroCells105 105)
    exact ⟨a1, a2, a3, (((Mod.refl _ w).alloc _).alloc _).alloc _⟩
  go_enter Tryz.func121, Tryz.ntmps121
  go_wp2_with fail
  generalize ((w.alloc (.cells #[.int .u8 t.op, .int .u8 t.x, .int .u8 t.y, .int .u8 t.z] 107)).alloc (.cells (mcells M) 105)).alloc (.cells Tryz.zeroCells105 105) = w0 at *
  obtain ⟨c0, c1, c2, c3⟩ := cells4 hA0.1
  obtain ⟨mx, fx⟩ := hA0.mx h2
  have hA1 := (hA0.set t.x (!b5)).drew
  clear hA0
  go_region_held3 (fun w' => w'.cell? ⟨w.heap.size, 0, none⟩ = some (.int .u8 t.op) ∧ w'.cell? ⟨w.heap.size, 1, none⟩ = some (.int .u8 t.x)) (go_keep) ((go_at_call 73; refine (hsx _).mono ?_; rintro e w3 ⟨rfl, rfl⟩))
  clear c0 c1 c2 c3 mx fx hsx
  generalize (w0.setCell ⟨w.heap.size + 1, t.x, none⟩ (.bool !b5)).drew = w1 at *
  generalize upd t.x (!b5) M = M1 at *
  obtain ⟨c0, c1, c2, c3⟩ := cells4 hA1.1
  obtain ⟨my, fy⟩ := hA1.mx h3
  have hA2 : AS w (if py then w1.setCell ⟨w.heap.size + 1, t.y, none⟩ (.bool true) else w1) t (if py then upd t.y true M1 else M1) := by
    cases py
    · exact hA1
    · exact hA1.set t.y true
  clear hA1
  have hA2' : ∃ w2 M2, (if py then w1.setCell ⟨w.heap.size + 1, t.y, none⟩ (.bool true) else w1) = w2 ∧ (if py then upd t.y true M1 else M1) = M2 := ⟨_, _, rfl, rfl⟩
  obtain ⟨w2, M2, e2, f2⟩ := hA2'
  rw [e2, f2] at hA2
  rw [f2] at HW
  have hend : ∀ (wF : World) (F : Nat → Bool), AS w wF t F → A = F → Mod (fun _ => False) w (wF.setRow (w.heap.size + 1 + 1) (mcells F)) ∧ (loadVar 105 ⟨w.heap.size + 1 + 1, 0, none⟩).run Tryz.prog (wF.setRow (w.heap.size + 1 + 1) (mcells F)) = .ok (.agg (mcells A)) (wF.setRow (w.heap.size + 1 + 1) (mcells F)) := fun wF F h e => by
    subst e
    exact ⟨setRow_new h.2.2.2 (by omega), run_loadVar_row _ _ _ _ _ (0, 0) _ (setRow_at h.2.2.1) Tryz.underlying105 rfl (marks_size (mcells_size _))⟩
  have HEND : Hid _ := hend
  clear hend
  cases py
  · simp only [Bool.false_eq_true, if_false] at e2
    subst e2
    clear f2 my fy
    go_wp2_with (go_at_call 168; refine (hry _).mono ?_; rintro e w3 ⟨rfl, rfl⟩)
    refine (hrz _).mono ?_
    rintro e w3 ⟨rfl, rfl⟩
    cases pz
    · simp only [Bool.false_eq_true, if_false] at HW
      have hF := hA2
      have HQ : Hid _ := HEND.out w1 M2 hF HW.out
      have HF1 : Hid _ := hF.2.1
      have HF2 : Hid _ := hF.2.2.1
      clear hF
      go_wp2_with (first
        | (refine wpList_load_row rfl 105 _ rfl _ rfl (mcells M2) 105 (0, 0) ?hb0 _ Tryz.underlying105 rfl (marks_size (mcells_size _)) ?_; case hb0 => exact HF1.out)
        | (refine wpList_store_row rfl 105 _ _ rfl _ Tryz.zeroCells105 (mcells M2) 105 rfl rfl ?hb1 (marks_size (mcells_size _)) (by rw [mcells_size]; exact HZS.out) (mcells_one _) ?_; case hb1 => exact HF2.out))
      refine bodyPost_ret (v := .agg (mcells A)) ?_ rfl ⟨rfl, HQ.out.1⟩
      rw [results_one Tryz.results121]
      simp [asAddr, Result.andThen, HQ.out.2, Act.put]
    · simp only [if_true] at HW
      obtain ⟨mz, fz⟩ := hA2.mx h4
      have hF := hA2.set t.z true
      have HQ : Hid _ := HEND.out (w1.setCell ⟨w.heap.size + 1, t.z, none⟩ (.bool true)) (upd t.z true M2) hF HW.out
      have HF1 : Hid _ := hF.2.1
      have HF2 : Hid _ := hF.2.2.1
      clear hF
      go_wp2_with (first
        | (refine wpList_load_row rfl 105 _ rfl _ rfl (mcells (upd t.z true M2)) 105 (0, 0) ?hb0 _ Tryz.underlying105 rfl (marks_size (mcells_size _)) ?_; case hb0 => exact HF1.out)
        | (refine wpList_store_row rfl 105 _ _ rfl _ Tryz.zeroCells105 (mcells (upd t.z true M2)) 105 rfl rfl ?hb1 (marks_size (mcells_size _)) (by rw [mcells_size]; exact HZS.out) (mcells_one _) ?_; case hb1 => exact HF2.out))
      refine bodyPost_ret (v := .agg (mcells A)) ?_ rfl ⟨rfl, HQ.out.1⟩
      rw [results_one Tryz.results121]
      simp [asAddr, Result.andThen, HQ.out.2, Act.put]
  · simp only [if_true] at e2
    obtain ⟨d0, d1, d2, d3⟩ := cells4 hA2.1
    clear f2
    go_wp2_with (go_at_call 168; refine (hry _).mono ?_; rintro e w3 ⟨rfl, rfl⟩)
    clear e2 my fy c0 c1 c2 c3
    refine (hrz _).mono ?_
    rintro e w3 ⟨rfl, rfl⟩
    cases pz
    · simp only [Bool.false_eq_true, if_false] at HW
      have hF := hA2
      have HQ : Hid _ := HEND.out w2 M2 hF HW.out
      have HF1 : Hid _ := hF.2.1
      have HF2 : Hid _ := hF.2.2.1
      clear hF
      go_wp2_with (first
        | (refine wpList_load_row rfl 105 _ rfl _ rfl (mcells M2) 105 (0, 0) ?hb0 _ Tryz.underlying105 rfl (marks_size (mcells_size _)) ?_; case hb0 => exact HF1.out)
        | (refine wpList_store_row rfl 105 _ _ rfl _ Tryz.zeroCells105 (mcells M2) 105 rfl rfl ?hb1 (marks_size (mcells_size _)) (by rw [mcells_size]; exact HZS.out) (mcells_one _) ?_; case hb1 => exact HF2.out))
      refine bodyPost_ret (v := .agg (mcells A)) ?_ rfl ⟨rfl, HQ.out.1⟩
      rw [results_one Tryz.results121]
      simp [asAddr, Result.andThen, HQ.out.2, Act.put]
    · simp only [if_true] at HW
      obtain ⟨mz, fz⟩ := hA2.mx h4
      have hF := hA2.set t.z true
      have HQ : Hid _ := HEND.out (w2.setCell ⟨w.heap.size + 1, t.z, none⟩ (.bool true)) (upd t.z true M2) hF HW.out
      have HF1 : Hid _ := hF.2.1
      have HF2 : Hid _ := hF.2.2.1
      clear hF
      go_wp2_with (first
        | (refine wpList_load_row rfl 105 _ rfl _ rfl (mcells (upd t.z true M2)) 105 (0, 0) ?hb0 _ Tryz.underlying105 rfl (marks_size (mcells_size _)) ?_; case hb0 => exact HF1.out)
        | (refine wpList_store_row rfl 105 _ _ rfl _ Tryz.zeroCells105 (mcells (upd t.z true M2)) 105 rfl rfl ?hb1 (marks_size (mcells_size _)) (by rw [mcells_size]; exact HZS.out) (mcells_one _) ?_; case hb1 => exact HF2.out))
      refine bodyPost_ret (v := .agg (mcells A)) ?_ rfl ⟨rfl, HQ.out.1⟩
      rw [results_one Tryz.results121]
      simp [asAddr, Result.andThen, HQ.out.2, Act.put]
end Go.Proofs.YtmnfndpbblpjiaaGreatDoor

/- The program's neededSteps. -/
namespace Go.Proofs.YtmnfndpbblpjiaaGreatDoor
open Go.RowKit Pu

set_option maxHeartbeats 1600000 in
set_option maxRecDepth 4000 in
theorem need_any (v : Value) (l : List Stp) (base : Nat) (w : World) (hl : l.length ≤ 3000) (hL : PLst w base v l) (hsm : ∀ t ∈ l, Small t) :
    Calls Tryz.prog 79 #[v] w fun e w' => Mod (fun _ => False) w w' ∧ ∃ u, e = .returned u ∧ w'.ownsRow w.heap.size 4 1 u l.length (tvs (neededL l)) := by
  obtain ⟨i0, hi, hz0, hz1, hz2⟩ := info_parts Tryz.info4
  obtain ⟨ao, cap, rfl, -⟩ := owns_form hL
  have HSM : Hid (∀ t ∈ l, Small t) := hsm
  clear hsm
  have HZ : Hid (Tryz.zeroCells105 = mcells (fun _ => false)) := Tryz.marks0
  go_enter Tryz.func79, Tryz.ntmps79
  go_wp2_with (at_make; refine wpList_make_full _ rfl _ _ 73 rfl w.heap.size 4 i0 (.bool false) 1 Tryz.underlying73 hi hz0 hz1 _ _ _ _ l.length rfl rfl (by omega) (by omega) (by rw [hz2]; omega) (by unfold maxLen; omega) (by simp) ?_)
  intro W hown0 hgrow0
  have hm0 := (Mod.refl (fun _ => False) w).grown hgrow0 (fun k hk _ => by cases hk)
  have hown1 : W.ownsRow w.heap.size 4 1 (.slice (some ⟨w.heap.size, 0, none⟩) l.length l.length) l.length (tvs (toldTo l l.length)) := by
    rw [toldTo_start, ← made_false]; simpa using hown0
  have hwl : w.heap.size < W.heap.size := (hown1.lt w.heap.size rfl).2
  clear hgrow0 hown0
  have hown2 := owns_mod hown1 ((Mod.refl (fun _ => False) W).alloc (.cells Tryz.zeroCells105 105)) (fun _ _ f => f)
  have hmb : (W.alloc (.cells Tryz.zeroCells105 105)).heap[W.heap.size]? = some (.cells (mcells (fun _ => false)) 105 (0, 0)) := by rw [← HZ.out]; exact heap_alloc_new W _
  have hm1 := hm0.alloc (.cells Tryz.zeroCells105 105)
  have HH : Hid _ := And.intro hown2 (And.intro hmb hm1)
  have hmW := hm0.size
  clear hown2 hmb hm1 hown1 hm0
  go_wp2_with fail
  go_loopw [5] (fun kv wr => ∃ (k : Nat) (nd : List Bool) (M : Nat → Bool), k ≤ l.length ∧ kv = .int .i64 ((k : Int) - 1) ∧ NInv l k nd M ∧ wr.ownsRow w.heap.size 4 1 (.slice (some ⟨w.heap.size, 0, none⟩) l.length l.length) l.length (tvs (toldTo l k)) ∧ wr.heap[W.heap.size]? = some (.cells (mcells M) 105 (0, 0)) ∧ Mod (fun _ => False) w wr) (fun kv _ => (intOf kv + 1).toNat)
  case atStart => exact ⟨l.length, _, _, by omega, rfl, NInv.start l, HH.out.1, HH.out.2.1, HH.out.2.2⟩
  case round =>
    clear HH
    obtain ⟨k, nd, M, hk, rfl, hN, hown, hM, hm⟩ := hrel
    cases k with
    | zero =>
      clear hM hN
      rw [toldTo_zero] at hown
      go_wp2_with fail
      go_ret
      exact ⟨hm, _, rfl, hown⟩
    | succ k =>
      have hkl : k < l.length := by omega
      have e1 : ((k + 1 : Nat) : Int) - 1 = (k : Int) := by omega
      rw [e1]
      clear e1
      have hLr := hL.mod hm
      obtain ⟨gb, rfl, c0, c1, c2, c3⟩ := hLr.cell hkl
      have hs := HSM.out _ (List.getElem_mem hkl)
      obtain ⟨gd, hgd, cd⟩ := tvs_cell hown (by rw [toldTo_len l _ (by omega)]) (k := k) (by rw [toldTo_len l _ (by omega)]; exact hkl)
      injection hgd with hgd
      injection hgd with hgd
      subst hgd
      have fd := hown.frozenAt k
      have hst : ∀ b, (neededL l)[k]? = some b → (wr.setCell ⟨w.heap.size, k, none⟩ (.bool b)).ownsRow w.heap.size 4 1 (.slice (some ⟨w.heap.size, 0, none⟩) l.length l.length) l.length (tvs (toldTo l k)) := fun b hb => by
        rw [← toldTo_step hkl hb, ← tvs_set]; exact (hown.stored k (.bool b)).1
      have HVAL : Hid ((neededL l)[k]? = some (pN l[k] M)) := hN.val hkl
      have HYES : Hid (pN l[k] M = true → NInv l k (needStep l k nd) (wAhead l[k] M)) := fun h => hN.yes hkl h
      have HNO : Hid (pN l[k] M = false → NInv l k (needStep l k nd) M) := fun h => hN.no hkl h
      generalize l[k] = t at *
      have hah := fun w => ahead_any t M w hs
      have hsx := fun w => setsx_any t.op w hs.1
      have mx : wr.cell? ⟨W.heap.size, t.x, none⟩ = some (.bool (M t.x)) := by
        have := mcells_at M hs.2.1
        simp only [World.cell?, hM]; simpa using this
      have hWl := lt_of_block hM
      have ix : (t.x : Int) < 256 := by have := hs.2.1; omega
      have HPN : Hid (pN t M = (!decide (t.op ≤ 5) || M t.x)) := rfl
      have hne : ¬ w.heap.size = W.heap.size := by omega
      generalize decide (t.op ≤ 5) = b5 at *
      generalize hmx : M t.x = bx at *
      clear hmx hLr
      cases b5 with
      | false =>
        have hp : pN t M = true := by rw [HPN.out]; rfl
        have HV : Hid _ := hst true (by rw [HVAL.out, hp])
        have hN2 := HYES.out hp
        have hms : Mod (fun q => q = w.heap.size) wr (wr.setCell ⟨w.heap.size, k, none⟩ (.bool true)) := (Mod.refl _ wr).setCell ⟨w.heap.size, k, none⟩ (.bool true) (fun _ => rfl)
        have hmw2 : Mod (fun _ => False) w ((wr.setCell ⟨w.heap.size, k, none⟩ (.bool true)).alloc (.cells #[.int .u8 t.op, .int .u8 t.x, .int .u8 t.y, .int .u8 t.z] 107)) := (hm.setCell ⟨w.heap.size, k, none⟩ (.bool true) (fun h => absurd h (Nat.lt_irrefl _))).alloc _
        have HMA : Hid (((wr.setCell ⟨w.heap.size, k, none⟩ (.bool true)).alloc (.cells #[.int .u8 t.op, .int .u8 t.x, .int .u8 t.y, .int .u8 t.z] 107)).heap[W.heap.size]? = some (.cells (mcells M) 105 (0, 0))) := (hms.alloc _).keep hM (by omega)
        have hwr : w.heap.size < wr.heap.size := by omega
        clear hms hst hN hp hown hm HYES HNO hM
        go_wp2_with (first
          | (go_at_call 73; refine (hsx _).mono ?_; rintro e w3 ⟨rfl, rfl⟩)
          | (refine wpList_load_row rfl 105 _ rfl _ rfl (mcells M) 105 (0, 0) ?hb0 _ Tryz.underlying105 rfl (marks_size (mcells_size _)) ?_; case hb0 => exact HMA.out))
        refine (hah _).mono ?_
        rintro e w3 ⟨rfl, hm3⟩
        have HM3 : Hid _ := hm3.keep HMA.out (fun f => f)
        have hmw3 := hmw2.trans hm3
        have hown3 : (w3.setRow W.heap.size (mcells (wAhead t M))).ownsRow w.heap.size 4 1 (.slice (some ⟨w.heap.size, 0, none⟩) l.length l.length) l.length (tvs (toldTo l k)) :=
          owns_mod' (owns_mod (owns_mod HV.out ((Mod.refl (fun _ => False) _).alloc _) (fun _ _ f => f)) hm3 (fun _ _ f => f)) (setRow_mod w3 W.heap.size (mcells (wAhead t M))) (fun g h1 h2 => by injection h1 with h1; subst h1; exact absurd h2 (by show ¬ w.heap.size = W.heap.size; omega))
        have HM4 : Hid _ := setRow_at (C' := mcells (wAhead t M)) HM3.out
        have hmw4 := setRow_new (C := mcells (wAhead t M)) hmw3 (b := W.heap.size) (by omega)
        clear HV HMA hm3 hmw3 hmw2
        go_wp2_with (refine wpList_store_row rfl 105 _ _ rfl _ (mcells M) (mcells (wAhead t M)) 105 rfl rfl ?hb1 (marks_size (mcells_size _)) (by rw [mcells_size, mcells_size]) (mcells_one _) ?_; case hb1 => exact HM3.out)
        go_roundw
        case rel => exact ⟨k, _, _, by omega, by go_num, hN2, hown3, HM4.out, hmw4⟩
        case measure => simp [intOf]
      | true =>
        cases bx with
        | true =>
          have hp : pN t M = true := by rw [HPN.out]; rfl
          have HV : Hid _ := hst true (by rw [HVAL.out, hp])
          have hN2 := HYES.out hp
          have hms : Mod (fun q => q = w.heap.size) wr (wr.setCell ⟨w.heap.size, k, none⟩ (.bool true)) := (Mod.refl _ wr).setCell ⟨w.heap.size, k, none⟩ (.bool true) (fun _ => rfl)
          have hmw2 : Mod (fun _ => False) w ((wr.setCell ⟨w.heap.size, k, none⟩ (.bool true)).alloc (.cells #[.int .u8 t.op, .int .u8 t.x, .int .u8 t.y, .int .u8 t.z] 107)) := (hm.setCell ⟨w.heap.size, k, none⟩ (.bool true) (fun h => absurd h (Nat.lt_irrefl _))).alloc _
          have HMA : Hid (((wr.setCell ⟨w.heap.size, k, none⟩ (.bool true)).alloc (.cells #[.int .u8 t.op, .int .u8 t.x, .int .u8 t.y, .int .u8 t.z] 107)).heap[W.heap.size]? = some (.cells (mcells M) 105 (0, 0))) := (hms.alloc _).keep hM (by omega)
          have hwr : w.heap.size < wr.heap.size := by omega
          clear hms hst hN hp hown hm HYES HNO hM
          go_wp2_with (first
            | (go_at_call 73; refine (hsx _).mono ?_; rintro e w3 ⟨rfl, rfl⟩)
            | (refine wpList_load_row rfl 105 _ rfl _ rfl (mcells M) 105 (0, 0) ?hb0 _ Tryz.underlying105 rfl (marks_size (mcells_size _)) ?_; case hb0 => exact HMA.out))
          refine (hah _).mono ?_
          rintro e w3 ⟨rfl, hm3⟩
          have HM3 : Hid _ := hm3.keep HMA.out (fun f => f)
          have hmw3 := hmw2.trans hm3
          have hown3 : (w3.setRow W.heap.size (mcells (wAhead t M))).ownsRow w.heap.size 4 1 (.slice (some ⟨w.heap.size, 0, none⟩) l.length l.length) l.length (tvs (toldTo l k)) :=
            owns_mod' (owns_mod (owns_mod HV.out ((Mod.refl (fun _ => False) _).alloc _) (fun _ _ f => f)) hm3 (fun _ _ f => f)) (setRow_mod w3 W.heap.size (mcells (wAhead t M))) (fun g h1 h2 => by injection h1 with h1; subst h1; exact absurd h2 (by show ¬ w.heap.size = W.heap.size; omega))
          have HM4 : Hid _ := setRow_at (C' := mcells (wAhead t M)) HM3.out
          have hmw4 := setRow_new (C := mcells (wAhead t M)) hmw3 (b := W.heap.size) (by omega)
          clear HV HMA hm3 hmw3 hmw2
          go_wp2_with (refine wpList_store_row rfl 105 _ _ rfl _ (mcells M) (mcells (wAhead t M)) 105 rfl rfl ?hb1 (marks_size (mcells_size _)) (by rw [mcells_size, mcells_size]) (mcells_one _) ?_; case hb1 => exact HM3.out)
          go_roundw
          case rel => exact ⟨k, _, _, by omega, by go_num, hN2, hown3, HM4.out, hmw4⟩
          case measure => simp [intOf]
        | false =>
          have hp : pN t M = false := by rw [HPN.out]; rfl
          have hV := hst false (by rw [HVAL.out, hp])
          have hN2 := HNO.out hp
          have hms : Mod (fun q => q = w.heap.size) wr (wr.setCell ⟨w.heap.size, k, none⟩ (.bool false)) := (Mod.refl _ wr).setCell ⟨w.heap.size, k, none⟩ (.bool false) (fun _ => rfl)
          have hmw2 : Mod (fun _ => False) w ((wr.setCell ⟨w.heap.size, k, none⟩ (.bool false)).alloc (.cells #[.int .u8 t.op, .int .u8 t.x, .int .u8 t.y, .int .u8 t.z] 107)) := (hm.setCell ⟨w.heap.size, k, none⟩ (.bool false) (fun h => absurd h (Nat.lt_irrefl _))).alloc _
          have HMA : Hid (((wr.setCell ⟨w.heap.size, k, none⟩ (.bool false)).alloc (.cells #[.int .u8 t.op, .int .u8 t.x, .int .u8 t.y, .int .u8 t.z] 107)).heap[W.heap.size]? = some (.cells (mcells M) 105 (0, 0))) := (hms.alloc _).keep hM (by omega)
          have hV2 := owns_mod hV ((Mod.refl (fun _ => False) _).alloc (.cells #[.int .u8 t.op, .int .u8 t.x, .int .u8 t.y, .int .u8 t.z] 107)) (fun _ _ f => f)
          have hwr : w.heap.size < wr.heap.size := by omega
          clear hms hst hN hp hown hm HYES HNO hM hV
          go_wp2_with (go_at_call 73; refine (hsx _).mono ?_; rintro e w3 ⟨rfl, rfl⟩)
          go_roundw
          case rel => exact ⟨k, _, _, by omega, by go_num, hN2, hV2, HMA.out, hmw2⟩
          case measure => simp [intOf]
end Go.Proofs.YtmnfndpbblpjiaaGreatDoor

/- Codes: the steps that are kept, and the bytes of a code. -/
namespace Go.Proofs.YtmnfndpbblpjiaaGreatDoor.Pu

def stB (t : Stp) : List UInt8 := [UInt8.ofNat t.op, UInt8.ofNat t.x, UInt8.ofNat t.y, UInt8.ofNat t.z]
def keepTo (l : List Stp) (nd : List Bool) : Nat → List Stp
  | 0 => []
  | k + 1 => if nd[k]?.getD false then keepTo l nd k ++ [l[k]?.getD ⟨0, 0, 0, 0⟩] else keepTo l nd k
theorem keepTo_yes {l : List Stp} {nd : List Bool} {k : Nat} (h : k < nd.length) (hl : k < l.length) (hb : nd[k] = true) : keepTo l nd (k + 1) = keepTo l nd k ++ [l[k]] := by simp [keepTo, h, hb, hl]
theorem keepTo_no {l : List Stp} {nd : List Bool} {k : Nat} (h : k < nd.length) (hb : nd[k] = false) : keepTo l nd (k + 1) = keepTo l nd k := by simp [keepTo, h, hb]
theorem keepTo_len (l : List Stp) (nd : List Bool) (k : Nat) : (keepTo l nd k).length = cntTo nd k := by
  induction k with
  | zero => rfl
  | succ k ih => simp only [keepTo, cntTo]; split <;> simp [ih]
theorem keepTo_mem {l : List Stp} {nd : List Bool} {k : Nat} (hk : k ≤ l.length) : ∀ t ∈ keepTo l nd k, t ∈ l := by
  induction k with
  | zero => intro t ht; cases ht
  | succ k ih =>
    intro t ht
    have hl : k < l.length := by omega
    simp only [keepTo] at ht
    split at ht
    · rcases List.mem_append.1 ht with ht | ht
      · exact ih (by omega) t ht
      · simp [hl] at ht; subst ht; exact List.getElem_mem hl
    · exact ih (by omega) t ht
def joined (r i : Nat) (q : List Stp) : List UInt8 := [82, 85, UInt8.ofNat r, UInt8.ofNat i, UInt8.ofNat (q.length % 256), UInt8.ofNat (q.length / 256)] ++ q.flatMap stB
theorem ext4 {s : ByteArray} {a : Nat} (h : a + 4 ≤ s.size) : s.extract a (a + 4) = ⟨[UInt8.ofNat (g s a), UInt8.ofNat (g s (a + 1)), UInt8.ofNat (g s (a + 2)), UInt8.ofNat (g s (a + 3))].toArray⟩ := by
  have h0 : a < s.size := by omega
  have h1 : a + 1 < s.size := by omega
  have h2 : a + 2 < s.size := by omega
  have h3 : a + 3 < s.size := by omega
  rw [g_in h0, g_in h1, g_in h2, g_in h3]
  simp only [UInt8.ofNat_toNat]
  apply ByteArray.ext
  rw [ByteArray.data_extract]
  apply Array.ext
  · have : s.data.size = s.size := rfl
    simp; omega
  · intro i h1' h2'
    have hi : i < 4 := by simpa using h2'
    match i, hi with
    | 0, _ => simp; rfl
    | 1, _ => simp; rfl
    | 2, _ => simp; rfl
    | 3, _ => simp; rfl
theorem app_bytes (x y : List UInt8) : (⟨x.toArray⟩ : ByteArray) ++ (⟨y.toArray⟩ : ByteArray) = ⟨(x ++ y).toArray⟩ := by
  apply ByteArray.ext
  rw [ByteArray.data_append]
  simp
theorem body_bytes {s : ByteArray} (nd : List Bool) (hs : s.size = 6 + 4 * nst s) : ∀ k, k ≤ nst s → bodyTo s nd k = ⟨((keepTo (steps s) nd k).flatMap stB).toArray⟩ := by
  intro k
  induction k with
  | zero => intro _; rfl
  | succ k ih =>
    intro hk
    have hl : k < (steps s).length := by rw [steps, stepsTo_len]; omega
    simp only [bodyTo, keepTo]
    split
    · rw [ih (by omega), show 10 + 4 * k = (6 + 4 * k) + 4 by omega, ext4 (by omega), app_bytes]
      congr 2
      simp [hl, steps_at, stepAt, stB]
    · exact ih (by omega)
theorem shr_joined {s : ByteArray} (hb : begunB s = true) : shr s = ⟨(joined (g s 2) (g s 3) (keepTo (steps s) (neededL (steps s)) (nst s))).toArray⟩ := by
  obtain ⟨h6, -, -, hs, -, -, -⟩ := nst_of hb
  have h0 : g s 0 = 82 ∧ g s 1 = 85 := by simp [begunB] at hb; omega
  unfold shr joined
  rw [body_bytes _ hs _ (Nat.le_refl _), show s.extract 0 4 = s.extract 0 (0 + 4) by rfl, ext4 (by omega), keepTo_len, h0.1, show g s (0 + 1) = 85 from h0.2]
  rw [show (⟨#[UInt8.ofNat (cntTo (neededL (steps s)) (nst s) % 256), UInt8.ofNat (cntTo (neededL (steps s)) (nst s) / 256)]⟩ : ByteArray) = ⟨[UInt8.ofNat (cntTo (neededL (steps s)) (nst s) % 256), UInt8.ofNat (cntTo (neededL (steps s)) (nst s) / 256)].toArray⟩ by rfl, app_bytes, app_bytes]
  rfl
end Go.Proofs.YtmnfndpbblpjiaaGreatDoor.Pu

/- The program's keepNeeded. -/
namespace Go.Proofs.YtmnfndpbblpjiaaGreatDoor
open Go.RowKit Pu

set_option maxHeartbeats 1600000 in
set_option maxRecDepth 4000 in
theorem kept_any (v : Value) (l : List Stp) (base : Nat) (w : World) (hl : l.length ≤ 3000) (hL : PLst w base v l) (hsm : ∀ t ∈ l, Small t) :
    Calls Tryz.prog 48 #[v] w fun e w' => Mod (fun _ => False) w w' ∧ ∃ u, e = .returned u ∧ PLst w' w.heap.size u (keepTo l (neededL l) l.length) := by
  obtain ⟨i0, hi, hz0, hz1, hz2⟩ := info_parts Tryz.infoSt
  obtain ⟨ao, cap, rfl, -⟩ := owns_form hL
  have HN := need_any _ l base w hl hL hsm
  go_enter Tryz.func48, Tryz.ntmps48
  go_wp2_with fail
  refine HN.mono ?_
  rintro e w1 ⟨hm1, u, rfl, hown⟩
  have HNL : Hid ((neededL l).length = l.length) := neededL_len l
  generalize hnd : neededL l = nd at *
  have HND : Hid (neededL l = nd) := hnd
  clear hnd
  obtain ⟨uo, ucap, rfl, -⟩ := owns_form hown
  have hL1 := hL.mod hm1
  have hs1 := hm1.size
  clear HN hsm hL
  go_wp2_with fail
  go_loopw [4, 11] (fun v kv wr => ∃ k : Nat, k ≤ l.length ∧ kv = .int .i64 k ∧ PLst wr w1.heap.size v (keepTo l nd k) ∧ Mod (fun q => w1.heap.size ≤ q) w1 wr ∧ (keepTo l nd k).length ≤ k) (fun _ kv _ => l.length - (intOf kv).toNat)
  case atStart => exact ⟨0, by omega, rfl, World.ownsRow_nil _ _ _ _, Mod.refl _ _, Nat.le_refl _⟩
  case round =>
    obtain ⟨k, hk, rfl, hP, hm, hq⟩ := hrel
    unfold PLst at hP
    obtain ⟨po, pcap, rfl, -⟩ := owns_form hP
    have hmF : Mod (fun _ => False) w1 wr := hm.mono (fun q hq h => by omega)
    by_cases hlt : k < l.length
    · have hkn : k < nd.length := by rw [HNL.out]; exact hlt
      have hLr := hL1.mod hmF
      obtain ⟨gb, rfl, c0, c1, c2, c3⟩ := hLr.cell hlt
      have hownr := owns_mod hown hmF (fun _ _ f => f)
      obtain ⟨ub, rfl, ck⟩ := tvs_cell hownr HNL.out.symm hkn
      have hul := (hownr.lt ub rfl).2
      have hma := hm.alloc (.cells #[.int .u8 l[k].op, .int .u8 l[k].x, .int .u8 l[k].y, .int .u8 l[k].z] 107)
      have hPa := owns_mod hP ((Mod.refl (fun _ => False) wr).alloc (.cells #[.int .u8 l[k].op, .int .u8 l[k].x, .int .u8 l[k].y, .int .u8 l[k].z] 107)) (fun _ _ f => f)
      have hsr := hm.size
      clear hLr hownr hmF
      cases hdk : nd[k] with
      | false =>
        rw [hdk] at ck
        have HK : Hid (keepTo l nd (k + 1) = keepTo l nd k) := keepTo_no hkn hdk
        have HKN : Hid (PLst (wr.alloc (.cells #[.int .u8 l[k].op, .int .u8 l[k].x, .int .u8 l[k].y, .int .u8 l[k].z] 107)) w1.heap.size (.slice po (keepTo l nd k).length pcap) (keepTo l nd (k + 1))) := show PLst _ _ _ _ by
          rw [HK.out]; exact hPa
        generalize hkl : (keepTo l nd k).length = kl at *
        have HKL : Hid ((keepTo l nd (k + 1)).length ≤ k + 1) := show _ ≤ _ by rw [HK.out, hkl]; omega
        clear hkl hdk
        go_wp2_with fail
        go_roundw
        case rel => exact ⟨k + 1, by omega, by go_num, HKN.out, hma, HKL.out⟩
        case measure => simp [intOf]; omega
      | true =>
        rw [hdk] at ck
        have HK : Hid (keepTo l nd (k + 1) = keepTo l nd k ++ [l[k]]) := keepTo_yes hkn hlt hdk
        generalize hkt : keepTo l nd k = kt at *
        generalize l[k] = t at *
        clear hkt hdk
        go_wp2_with (at_builtin; refine wpList_append_own _ rfl _ _ 50 rfl w1.heap.size 107 i0 _ 4 4 Tryz.underlying50 hi hz0 hz1 hz2 rfl (by decide) _ _ _ rfl (hPa.alloc _) ⟨wr.heap.size + 1, 0, none⟩ 1 1 (pcells t) rfl rfl ?c1 ?c2 ?c3 ?c4 ?c5 ?_)
        case c1 => exact World.news_of_block (cs := #[.int .u8 t.op, .int .u8 t.x, .int .u8 t.y, .int .u8 t.z]) (t := 107) (fr := (0, 0)) (alloc2_at wr _ _).2
        case c2 => simp [pcells, Value.oneCell']
        case c3 => unfold maxLen; omega
        case c4 => omega
        case c5 => simp; omega
        intro v' w4 hown4 hgrow _
        have hgm : Mod (fun i => w1.heap.size ≤ i) wr w4 := (((Mod.refl _ wr).alloc _).alloc _).grown hgrow (fun i hi _ => (hP.lt i hi).1)
        have hm4 := hm.trans hgm
        have HP4 : Hid (PLst w4 w1.heap.size v' (keepTo l nd (k + 1))) := show PLst _ _ _ _ by
          rw [HK.out]; unfold PLst; rw [← pcellsOf_snoc]; simpa using hown4
        have HKL : Hid ((keepTo l nd (k + 1)).length ≤ k + 1) := show _ ≤ _ by rw [HK.out]; simp; omega
        clear hown4 hgrow hgm hP hPa hm hma
        go_wp2_with fail
        go_roundw
        case rel => exact ⟨k + 1, by omega, by go_num, HP4.out, hm4, HKL.out⟩
        case measure => simp [intOf]; omega
    · have hks : k = l.length := by omega
      subst hks
      have hE : PLst wr w.heap.size (.slice po (keepTo l nd l.length).length pcap) (keepTo l nd l.length) := owns_base hP (by omega)
      have hmE := hm1.trans hmF
      go_wp2_with fail
      go_ret
      exact ⟨hmE, _, rfl, by rw [HND.out]; exact hE⟩
end Go.Proofs.YtmnfndpbblpjiaaGreatDoor

/- The program's joinCode. -/
namespace Go.Proofs.YtmnfndpbblpjiaaGreatDoor
open Go.RowKit Pu

theorem ofNat_u8 {n : Nat} (h : n < 256) : ((UInt8.ofNat n).toNat : Int) = (n : Int) := by
  rw [UInt8.toNat_ofNat_of_lt' (by simpa using h)]
theorem bvs_st {t : Stp} (h : Small t) : bvs (stB t) = pcells t := by
  obtain ⟨h1, h2, h3, h4⟩ := h
  simp [bvs, stB, pcells]
  omega

theorem owns_built {w : World} {b e : Nat} {c : Array Value} (h : w.heap[b]? = some (.cells c e (0, 0))) (hc : c.size ≤ 1000) : w.ownsRow b e 1 (.slice (some ⟨b, 0, none⟩) c.size c.size) c.size c.toList :=
  ⟨by simp, .inr ⟨b, c.size, c, rfl, Nat.le_refl _, h, Nat.le_refl _, by unfold maxLen; omega, by simp, by simpa using List.take_of_length_le (by simp)⟩⟩
theorem joined_head {r i n : Nat} (hr : r < 256) (hi : i < 256) (hn : n ≤ 3000) : bvs [82, 85, UInt8.ofNat r, UInt8.ofNat i, UInt8.ofNat (n % 256), UInt8.ofNat (n / 256)] = [.int .u8 82, .int .u8 85, .int .u8 r, .int .u8 i, .int .u8 ((n : Int) % 256), .int .u8 ((n : Int) / 256)] := by
  simp [bvs]
  omega

set_option maxHeartbeats 1600000 in
set_option maxRecDepth 4000 in
theorem join_any (v : Value) (l : List Stp) (r i base : Nat) (w : World) (hl : l.length ≤ 3000) (hL : PLst w base v l) (hsm : ∀ t ∈ l, Small t) (hr : r < 256) (hi : i < 256) :
    Calls Tryz.prog 49 #[.agg #[.int .u8 r, .int .u8 i, v]] w fun e w' => e = .returned (S (joined r i l)) ∧ Mod (fun _ => False) w w' := by
  obtain ⟨i0, hii, hz0, hz1, hz2⟩ := info_parts Tryz.info5
  obtain ⟨ao, cap, rfl, -⟩ := owns_form hL
  have HSM : Hid (∀ t ∈ l, Small t) := hsm
  clear hsm
  go_enter Tryz.func49, Tryz.ntmps49
  go_wp2_with fail
  obtain ⟨a1, a2⟩ := alloc2_at w (.cells #[.int .u8 r, .int .u8 i, .slice ao l.length cap] 52) (.cells #[.int .u8 82, .int .u8 85, .int .u8 r, .int .u8 i, .int .u8 ((l.length : Int) % 256), .int .u8 ((l.length : Int) / 256)] 5)
  have hm0 : Mod (fun _ => False) w ((w.alloc (.cells #[.int .u8 r, .int .u8 i, .slice ao l.length cap] 52)).alloc (.cells #[.int .u8 82, .int .u8 85, .int .u8 r, .int .u8 i, .int .u8 ((l.length : Int) % 256), .int .u8 ((l.length : Int) / 256)] 5)) := ((Mod.refl _ w).alloc _).alloc _
  have hO0 := owns_built a2 (by simp)
  have hO1 : ((w.alloc (.cells #[.int .u8 r, .int .u8 i, .slice ao l.length cap] 52)).alloc (.cells #[.int .u8 82, .int .u8 85, .int .u8 r, .int .u8 i, .int .u8 ((l.length : Int) % 256), .int .u8 ((l.length : Int) / 256)] 5)).ownsRow (w.heap.size + 1) 5 1 (.slice (some ⟨w.heap.size + 1, 0, none⟩) 6 6) ([82, 85, UInt8.ofNat r, UInt8.ofNat i, UInt8.ofNat (l.length % 256), UInt8.ofNat (l.length / 256)] ++ (l.take 0).flatMap stB).length (bvs ([82, 85, UInt8.ofNat r, UInt8.ofNat i, UInt8.ofNat (l.length % 256), UInt8.ofNat (l.length / 256)] ++ (l.take 0).flatMap stB)) := by
    simp only [List.take_zero, List.flatMap_nil, List.append_nil]
    rw [joined_head hr hi hl]
    exact hO0
  have hmw : w.heap.size < ((w.alloc (.cells #[.int .u8 r, .int .u8 i, .slice ao l.length cap] 52)).alloc (.cells #[.int .u8 82, .int .u8 85, .int .u8 r, .int .u8 i, .int .u8 ((l.length : Int) % 256), .int .u8 ((l.length : Int) / 256)] 5)).heap.size := by simp; omega
  clear hO0 a1 a2
  generalize ((w.alloc (.cells #[.int .u8 r, .int .u8 i, .slice ao l.length cap] 52)).alloc (.cells #[.int .u8 82, .int .u8 85, .int .u8 r, .int .u8 i, .int .u8 ((l.length : Int) % 256), .int .u8 ((l.length : Int) / 256)] 5)) = w1 at *
  go_loopw [4, 24] (fun v kv wr => ∃ k : Nat, k ≤ l.length ∧ kv = .int .i64 k ∧ wr.ownsRow (w.heap.size + 1) 5 1 v ([82, 85, UInt8.ofNat r, UInt8.ofNat i, UInt8.ofNat (l.length % 256), UInt8.ofNat (l.length / 256)] ++ (l.take k).flatMap stB).length (bvs ([82, 85, UInt8.ofNat r, UInt8.ofNat i, UInt8.ofNat (l.length % 256), UInt8.ofNat (l.length / 256)] ++ (l.take k).flatMap stB)) ∧ Mod (fun _ => False) w wr ∧ w.heap.size < wr.heap.size) (fun _ kv _ => l.length - (intOf kv).toNat)
  case atStart => exact ⟨0, by omega, rfl, hO1, hm0, by omega⟩
  case round =>
    clear hO1 hm0 hmw
    obtain ⟨k, hk, rfl, hown, hm, hwl⟩ := hrel
    have HJ : Hid (∀ h : k < l.length, [82, 85, UInt8.ofNat r, UInt8.ofNat i, UInt8.ofNat (l.length % 256), UInt8.ofNat (l.length / 256)] ++ (l.take (k + 1)).flatMap stB = ([82, 85, UInt8.ofNat r, UInt8.ofNat i, UInt8.ofNat (l.length % 256), UInt8.ofNat (l.length / 256)] ++ (l.take k).flatMap stB) ++ stB l[k]) := fun h => by
      rw [List.take_succ_eq_append_getElem h, List.flatMap_append, ← List.append_assoc, List.flatMap_cons, List.flatMap_nil, List.append_nil]
    have HJE : Hid (k = l.length → [82, 85, UInt8.ofNat r, UInt8.ofNat i, UInt8.ofNat (l.length % 256), UInt8.ofNat (l.length / 256)] ++ (l.take k).flatMap stB = joined r i l) := fun h => by
      subst h; rw [List.take_length]; rfl
    have hjl : ([82, 85, UInt8.ofNat r, UInt8.ofNat i, UInt8.ofNat (l.length % 256), UInt8.ofNat (l.length / 256)] ++ (l.take k).flatMap stB).length ≤ 20000 := by
      have : ∀ q : List Stp, (q.flatMap stB).length = 4 * q.length := fun q => by
        induction q with
        | nil => rfl
        | cons t q ih => simp [ih, stB]; omega
      simp [this]; omega
    generalize hjs : [82, 85, UInt8.ofNat r, UInt8.ofNat i, UInt8.ofNat (l.length % 256), UInt8.ofNat (l.length / 256)] ++ (l.take k).flatMap stB = js at *
    clear hjs
    obtain ⟨jo, jcap, rfl, -⟩ := owns_form hown
    by_cases hlt : k < l.length
    · have hLr := hL.mod hm
      obtain ⟨gb, rfl, c0, c1, c2, c3⟩ := hLr.cell hlt
      have HB4 : Hid (bvs (stB l[k]) = pcells l[k]) := bvs_st (HSM.out _ (List.getElem_mem hlt))
      have HJ1 : Hid _ := HJ.out hlt
      generalize l[k] = t at *
      clear hLr HJ HJE
      have hOa := owns_mod hown ((Mod.refl (fun _ => False) wr).alloc (.cells #[.int .u8 t.op, .int .u8 t.x, .int .u8 t.y, .int .u8 t.z] 107)) (fun _ _ f => f)
      go_wp2_with (at_builtin; refine wpList_append_own _ rfl _ _ 75 rfl (w.heap.size + 1) 5 i0 _ 1 1 Tryz.underlying75 hii hz0 hz1 hz2 rfl (by decide) _ _ _ rfl (hOa.alloc _) ⟨wr.heap.size + 1, 0, none⟩ 4 4 (pcells t) rfl rfl ?c1 ?c2 ?c3 ?c4 ?c5 ?_)
      case c1 => exact World.news_of_block (cs := #[.int .u8 t.op, .int .u8 t.x, .int .u8 t.y, .int .u8 t.z]) (t := 5) (fr := (0, 0)) (alloc2_at wr _ _).2
      case c2 => simp [pcells, Value.oneCell']
      case c3 => unfold maxLen; omega
      case c4 => omega
      case c5 => simp; omega
      intro v' w4 hown4 hgrow _
      have hgm : Mod (fun i => w.heap.size + 1 ≤ i) wr w4 := (((Mod.refl _ wr).alloc _).alloc _).grown hgrow (fun i hi _ => (hown.lt i hi).1)
      have hm4 : Mod (fun _ => False) w w4 := ⟨hgm.os.trans hm.os, hgm.tape.trans hm.tape, hgm.output.trans hm.output, Nat.le_trans hm.size hgm.size, fun i hi _ => (hgm.block i (by omega) (by omega)).trans (hm.block i hi (fun f => f))⟩
      have hwl4 : w.heap.size < w4.heap.size := by have := hgm.size; omega
      have HO4 : Hid (w4.ownsRow (w.heap.size + 1) 5 1 v' (js ++ stB t).length (bvs (js ++ stB t))) := show w4.ownsRow _ _ _ _ _ _ by
        have e : bvs (js ++ stB t) = bvs js ++ pcells t := by rw [← HB4.out]; simp [bvs]
        rw [e]
        simpa [stB] using hown4
      clear hown4 hgrow hgm hown hOa hm hwl
      go_wp2_with fail
      go_roundw
      case rel => exact ⟨k + 1, by omega, by go_num, by rw [HJ1.out]; exact HO4.out, hm4, hwl4⟩
      case measure => simp [intOf]; omega
    · have HE : Hid (js = joined r i l) := HJE.out (by omega)
      have hcv := convert_owned (P := Tryz.prog) hown rfl Tryz.underlying75 Tryz.underlying5 Tryz.underlying9
      go_wp2_with fail
      go_ret
      exact ⟨by rw [← HE.out]; rfl, hm⟩
end Go.Proofs.YtmnfndpbblpjiaaGreatDoor

/- The program's Shrink, and a step that asks for it. -/
namespace Go.Proofs.YtmnfndpbblpjiaaGreatDoor
open Go.RowKit Pu

set_option maxHeartbeats 400000 in
theorem shrink_long (s : ByteArray) (w : World) (hs : 8006 < s.size) (hm : s.size ≤ maxLen) : Calls Tryz.prog 26 #[.string s] w fun e w' => e = .returned (.tuple #[.string ⟨#[]⟩, .int .i64 1]) ∧ Mod (fun _ => False) w w' := by
  have hd := dec_long s w hs hm
  go_enter Tryz.func26, Tryz.ntmps26
  go_wp2_with fail
  refine hd.mono ?_
  rintro e w1 ⟨rfl, hm1⟩
  go_wp2_with fail
  go_ret2
  exact ⟨rfl, hm1.alloc _⟩
set_option maxHeartbeats 400000 in
theorem shrink_bad (s : ByteArray) (w : World) (hs : s.size ≤ 8006) (hv : (vfy s).1 = 8) : Calls Tryz.prog 26 #[.string s] w fun e w' => e = .returned (.tuple #[.string ⟨#[]⟩, .int .i64 8]) ∧ Mod (fun _ => False) w w' := by
  have HV : Hid ((vfy s).1 = 8) := hv
  clear hv
  go_enter Tryz.func26, Tryz.ntmps26
  go_wp2_with fail
  refine (dec_any s w hs).mono ?_
  rintro e w1 ⟨⟨a, b, ao, n, cap, he, -⟩, hm1⟩
  rw [HV.out] at he
  generalize (vfy s).2 = v2 at *
  subst he
  go_wp2_with fail
  go_ret2
  exact ⟨rfl, hm1.alloc _⟩
set_option maxHeartbeats 800000 in
theorem shrink_any (s : ByteArray) (w : World) (hs : s.size ≤ 8006) (hv : vfy s = (0, 0)) : Calls Tryz.prog 26 #[.string s] w fun e w' => e = .returned (.tuple #[.string (shr s), .int .i64 0]) ∧ Mod (fun _ => False) w w' := by
  have HV : Hid (vfy s = (0, 0)) := hv
  clear hv
  have HLen : Hid ((steps s).length = nst s) := stepsTo_len s _
  have HSS : Hid (∀ t ∈ steps s, Small t) := steps_small s
  go_enter Tryz.func26, Tryz.ntmps26
  go_wp2_with fail
  refine (dec_any s w hs).mono ?_
  rintro e w1 ⟨⟨a, b, ao, n, cap, he, hok⟩, hm1⟩
  rw [HV.out] at he hok
  subst he
  obtain ⟨rfl, rfl, hb, -, hL⟩ := hok rfl
  have HE : Hid (shr s = ⟨(joined (g s 2) (g s 3) (keepTo (steps s) (neededL (steps s)) (steps s).length)).toArray⟩) := show shr s = _ by rw [HLen.out]; exact shr_joined hb
  have hl : (steps s).length ≤ 3000 := by rw [HLen.out]; have := (nst_of hb).2.2.1; omega
  have HKM : Hid (∀ t ∈ keepTo (steps s) (neededL (steps s)) (steps s).length, Small t) := fun t ht => HSS.out t (keepTo_mem (Nat.le_refl _) t ht)
  have HKL : Hid ((keepTo (steps s) (neededL (steps s)) (steps s).length).length ≤ 3000) := show _ ≤ _ by
    rw [keepTo_len]; have := cntTo_le (neededL (steps s)) (steps s).length; omega
  have l2 := g_lt s 2
  have l3 := g_lt s 3
  generalize g s 2 = r2 at *
  generalize g s 3 = r3 at *
  clear hb
  have hpa : (w1.alloc (.cells #[.int .u8 r2, .int .u8 r3, .slice ao n cap] 52)).heap[w1.heap.size]? = some (.cells #[.int .u8 r2, .int .u8 r3, .slice ao n cap] 52 (0, 0)) := heap_alloc_new w1 _
  have hma := hm1.alloc (.cells #[.int .u8 r2, .int .u8 r3, .slice ao n cap] 52)
  have hLa := hL.mod ((Mod.refl (fun _ => False) w1).alloc (.cells #[.int .u8 r2, .int .u8 r3, .slice ao n cap] 52))
  have hs1 := hm1.size
  have HH : Hid _ := And.intro hpa (And.intro hma hLa)
  clear hpa hma hLa hL hm1
  go_wp2_with fail
  generalize w1.alloc (.cells #[.int .u8 r2, .int .u8 r3, .slice ao n cap] 52) = w2 at *
  obtain ⟨hpa, hma, hLa⟩ := HH.out
  clear HH
  refine (kept_any _ (steps s) _ w2 hl hLa HSS.out).mono ?_
  rintro e w3 ⟨hm3, u, rfl, hK⟩
  obtain ⟨uo, ucap, rfl, -⟩ := owns_form hK
  have hp3 := hm3.keep hpa (fun f => f)
  have hm3w := hma.trans hm3
  obtain ⟨c0, c1, c2⟩ := cells3 hp3
  have f2 := fz3 hp3 2
  have hp2l := lt_of_block hpa
  generalize keepTo (steps s) (neededL (steps s)) (steps s).length = q at *
  have hp4 := set3_2 (z' := .slice uo q.length ucap) hp3
  obtain ⟨d0, d1, d2⟩ := cells3 hp4
  have hm4 : Mod (fun _ => False) w (w3.setCell ⟨w1.heap.size, 2, none⟩ (.slice uo q.length ucap)) := hm3w.setCell ⟨w1.heap.size, 2, none⟩ (.slice uo q.length ucap) (fun h => absurd h (by show ¬ w1.heap.size < w.heap.size; omega))
  have hK4 : PLst (w3.setCell ⟨w1.heap.size, 2, none⟩ (.slice uo q.length ucap)) w2.heap.size (.slice uo q.length ucap) q :=
    owns_mod hK ((Mod.refl (fun k => k = w1.heap.size) w3).setCell ⟨w1.heap.size, 2, none⟩ (.slice uo q.length ucap) (fun _ => rfl)) (fun g h1 h2 => by omega)
  have HX : Hid _ := And.intro d0 (And.intro d1 (And.intro d2 (And.intro hm4 hK4)))
  clear d0 d1 d2 hm4 hK4 hK hp4 hp3 hpa hma hm3 hm3w hLa
  go_wp2_with fail
  obtain ⟨-, -, -, hm4, hK4⟩ := HX.out
  refine (join_any _ q r2 r3 _ _ HKL.out hK4 HKM.out l2 l3).mono ?_
  rintro e w5 ⟨rfl, hm5⟩
  have hmE := hm4.trans hm5
  clear HX hK4 hm4 hm5
  go_wp2_with fail
  go_ret2
  exact ⟨by rw [HE.out]; rfl, hmE⟩

theorem Pu.vfy_or (s : ByteArray) : (vfy s).1 = 8 ∨ (vfy s = (0, 0) ∧ begunB s = true) := by
  cases hb : begunB s with
  | false => exact .inl (by rw [vfy_bad hb])
  | true =>
    unfold vfy
    rw [hb]
    simp only [Bool.true_eq_false, if_false]
    split
    · exact .inl rfl
    · exact .inr ⟨rfl, trivial⟩

set_option maxHeartbeats 800000 in
set_option maxRecDepth 100000 in
theorem plays_shrink : Plays 5 5 := by
  intro kd n a b w h1 h2 ha hb hn
  obtain rfl : kd = 5 := by omega
  have hm0 : Mod (fun _ => False) w (w.alloc (.cells #[.int .i64 5, .int .i64 n, .string a, .string b] 32)) := (Mod.refl _ w).alloc _
  have hO := ope_new w 5 n a b
  clear h1 h2 hb hn
  by_cases hs : a.size ≤ 8006
  · rcases vfy_or a with hv | ⟨hv, hbg⟩
    · have HV : Hid ((vfy a).1 = 8) := hv
      clear hv
      go_enter Tryz.func18, Tryz.ntmps18
      go_wp2_with fail
      refine (shrink_bad a _ hs HV.out).mono ?_
      rintro e w1 ⟨rfl, hm1⟩
      have hO1 := hO.keep hm1 (fun f => f)
      have c2 := hO1.c2
      go_wp2_with fail
      refine (rshrink_bad a _ hs HV.out).mono ?_
      rintro e w2 ⟨rfl, hm2⟩
      have hm := hm0.trans (hm1.trans hm2)
      clear hm0 hm1 hm2 c2 hO1 hO
      go_wp2_with (go_at_call 25; refine (num_any _ _).mono ?_; rintro e w' ⟨rfl, rfl⟩)
      go_ret
      exact ⟨rfl, hm⟩
    · have HV : Hid (vfy a = (0, 0)) := hv
      have HB : Hid (begunB a = true) := hbg
      clear hv hbg
      go_enter Tryz.func18, Tryz.ntmps18
      go_wp2_with fail
      refine (shrink_any a _ hs HV.out).mono ?_
      rintro e w1 ⟨rfl, hm1⟩
      have hO1 := hO.keep hm1 (fun f => f)
      have c2 := hO1.c2
      go_wp2_with fail
      refine (rshrink_any a _ hs HB.out HV.out).mono ?_
      rintro e w2 ⟨rfl, hm2⟩
      have hm := hm0.trans (hm1.trans hm2)
      clear hm0 hm1 hm2 c2 hO1 hO
      go_wp2_with (go_at_call 25; refine (num_any _ _).mono ?_; rintro e w' ⟨rfl, rfl⟩)
      go_ret
      exact ⟨rfl, hm⟩
  · go_enter Tryz.func18, Tryz.ntmps18
    go_wp2_with fail
    refine (shrink_long a _ (by omega) ha).mono ?_
    rintro e w1 ⟨rfl, hm1⟩
    have hO1 := hO.keep hm1 (fun f => f)
    have c2 := hO1.c2
    go_wp2_with fail
    refine (rshrink_long a _ (by omega) ha).mono ?_
    rintro e w2 ⟨rfl, rfl⟩
    have hm := hm0.trans hm1
    clear hm0 hm1 c2 hO1 hO
    go_wp2_with (go_at_call 25; refine (num_any _ _).mono ?_; rintro e w' ⟨rfl, rfl⟩)
    go_ret
    exact ⟨rfl, hm⟩

set_option maxHeartbeats 400000 in
theorem shrinks_walk (v : Value) (w : World) (hS : Scr w v) : Calls Tryz.prog 7 #[v] w fun e w' => e = .returned (.bool true) ∧ Mod (fun _ => False) w w' := by
  have HS : Hid (Scr w v) := hS
  clear hS
  go_enter Tryz.func7, Tryz.ntmps7
  go_wp2_with fail
  refine (upto_any v 5 5 w HS.out plays_shrink).mono ?_
  rintro e w1 ⟨rfl, hm1⟩
  go_wp2_with fail
  go_ret
  exact ⟨rfl, hm1⟩
end Go.Proofs.YtmnfndpbblpjiaaGreatDoor

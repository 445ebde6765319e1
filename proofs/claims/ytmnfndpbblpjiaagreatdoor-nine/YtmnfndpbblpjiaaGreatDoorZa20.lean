/- Right steps are good ones; the range of inputs: plain. -/
import Derived.Test.YtmnfndpbblpjiaaGreatDoorZa19
import Derived.Test.YtmnfndpbblpjiaaGreatDoorZa01
import Derived.Test.YtmnfndpbblpjiaaGreatDoorZa12
namespace Go.Proofs.YtmnfndpbblpjiaaGreatDoor
open Go.RowKit Pu
theorem Pu.vfy_right {s : ByteArray} (h : vfy s = (0, 0)) : begunB s = true ∧ ∀ j, j < nst s → rightB (steps s) j (stepAt s j) (g s 2) (g s 3) = true := by
  cases hb : begunB s with
  | false => rw [vfy_bad hb] at h; simp at h
  | true =>
    refine ⟨rfl, fun j hj => ?_⟩
    unfold vfy at h
    rw [hb] at h
    simp only [Bool.true_eq_false, if_false] at h
    split at h
    · simp at h
    · rename_i hf
      have := List.find?_eq_none.1 hf j (by simpa using hj)
      simpa using this
theorem Pu.right_good {l : List Stp} {k : Nat} {t : Stp} {regs ins : Nat} (hs : Small t) (hr : regs ≤ 128) (h : rightB l k t regs ins = true) : Good ins t := by
  unfold rightB at h
  rw [proper_fit] at h
  simp only [Bool.and_eq_true, decide_eq_true_eq, List.all_eq_true] at h
  obtain ⟨⟨ho, hx⟩, hr2⟩ := h
  have h7 : t.op ≤ 7 := by
    refine Nat.le_of_not_lt fun hh => ?_
    simp [opFit, show ¬ t.op = 0 by omega, show ¬ t.op = 1 by omega, show ¬ t.op = 2 by omega, show ¬ t.op = 3 by omega, show ¬ t.op = 4 by omega, show ¬ t.op = 5 by omega, show ¬ t.op = 6 by omega, show ¬ t.op = 7 by omega] at ho
  refine ⟨hs, h7, by omega, fun h => ?_, fun h => ?_, fun h => ?_, fun h => ?_⟩
  · have := (hr2 t.y (by simp [readsOf, h])).1; omega
  · have := (hr2 t.z (by simp [readsOf, h])).1; omega
  · simp [opFit, h] at ho; exact ho.1
  · simp [opFit, h] at ho; exact ho
theorem Pu.inpSt_range {s : ByteArray} : ∀ (k f : Nat) (l : List Int), inpSt s k = some (f, l) → ∀ x ∈ l, -99 ≤ x ∧ x ≤ 99 := by
  intro k
  induction k with
  | zero => intro f l h; simp [inpSt] at h; rw [h.2]; intro x hx; cases hx
  | succ k ih =>
    intro f l h
    simp only [inpSt] at h
    split at h
    · cases h
    · rename_i f' l' hk
      split at h
      · split at h
        · rename_i n hn
          simp at h
          obtain ⟨-, rfl⟩ := h
          intro x hx
          rcases List.mem_append.1 hx with hx | hx
          · exact ih f' l' hk x hx
          · simp at hx; subst hx; exact numer_range hn
        · cases h
      · simp at h
        obtain ⟨-, rfl⟩ := h
        exact ih f' l' hk
theorem Pu.inps_range {s : ByteArray} {l : List Int} (h : inps s = some l) : ∀ x ∈ l, -100 < x ∧ x < 100 := by
  unfold inps at h
  split at h
  · simp at h; subst h; intro x hx; cases hx
  · simp at h
    obtain ⟨f, hf⟩ := h
    intro x hx
    have := inpSt_range _ f l hf x hx
    omega
end Go.Proofs.YtmnfndpbblpjiaaGreatDoor

/- What the program's reader reads as a number: plain. -/
namespace Go.Proofs.YtmnfndpbblpjiaaGreatDoor.Pu
/-- The number at f, and where it ends. -/
def rdN (s : ByteArray) (f : Nat) : Option (Int × Nat) :=
  if g s f = 48 then some (0, f + 1)
  else if g s f = 45 then
    (if 49 ≤ g s (f + 1) ∧ g s (f + 1) ≤ 57 then
      (if 48 ≤ g s (f + 2) ∧ g s (f + 2) ≤ 57 then some (-((10 * (g s (f + 1) - 48) + (g s (f + 2) - 48) : Nat) : Int), f + 3) else some (-((g s (f + 1) - 48 : Nat) : Int), f + 2))
      else none)
  else if 49 ≤ g s f ∧ g s f ≤ 57 then
    (if 48 ≤ g s (f + 1) ∧ g s (f + 1) ≤ 57 then some (((10 * (g s f - 48) + (g s (f + 1) - 48) : Nat) : Int), f + 2) else some (((g s f - 48 : Nat) : Int), f + 1))
  else none
theorem dec_list (n : Int) : (dec n).data.toList = (if n < 0 then [45] else []) ++ decN n.natAbs := by simp [dec]
theorem ext_get {s : ByteArray} {f e : Nat} {l : List UInt8} (he : e ≤ s.size) (h : s.extract f e = ⟨l.toArray⟩) (hf : f ≤ e) : e = f + l.length ∧ ∀ j (hj : j < l.length), g s (f + j) = l[j].toNat := by
  have hsz : (s.extract f e).size = l.length := by rw [h]; rfl
  rw [ByteArray.size_extract] at hsz
  refine ⟨by omega, fun j hj => ?_⟩
  have hfj : f + j < s.size := by omega
  rw [g_in hfj]
  have h1 : (s.extract f e)[j]'(by rw [ByteArray.size_extract]; omega) = s[f + j] := by
    rw [ByteArray.getElem_extract]
  have h2 : ∀ hh, (⟨l.toArray⟩ : ByteArray)[j]'hh = l[j] := fun _ => rfl
  rw [← h1]
  congr 1
  simp only [h]
  exact h2 _
theorem ofNat_toNat {n : Nat} (h : n < 256) : (UInt8.ofNat n).toNat = n := UInt8.toNat_ofNat_of_lt' (by simpa using h)
theorem decN_get {n : Nat} (h : n ≤ 99) : (n ≤ 9 ∧ decN n = [UInt8.ofNat (48 + n)]) ∨ (9 < n ∧ decN n = [UInt8.ofNat (48 + n / 10), UInt8.ofNat (48 + n % 10)]) := by
  unfold decN
  by_cases h9 : 9 < n
  · exact .inr ⟨h9, by rw [if_pos h9]⟩
  · refine .inl ⟨by omega, ?_⟩
    rw [if_neg h9, Nat.mod_eq_of_lt (by omega)]
theorem rdN_of {s : ByteArray} {f e : Nat} {n : Int} (hf : f ≤ e) (he : e ≤ s.size) (hb : e = s.size ∨ g s e = 44) (h : s.extract f e = dec n) (h1 : -99 ≤ n) (h2 : n ≤ 99) : rdN s f = some (n, e) := by
  have hend : ¬ (48 ≤ g s e ∧ g s e ≤ 57) := by
    rcases hb with hb | hb
    · rw [g_out (by omega)]; omega
    · omega
  by_cases hn : n < 0
  · obtain ⟨m, rfl⟩ : ∃ m : Nat, n = -(m : Int) := ⟨n.natAbs, by omega⟩
    rw [dec_neg m (by omega)] at h
    obtain ⟨hlen, hget⟩ := ext_get he h hf
    rcases decN_get (show m ≤ 99 by omega) with ⟨hm, hd⟩ | ⟨hm, hd⟩
    · rw [hd] at hlen hget
      have g0 : g s f = 45 := by simpa using hget 0 (by simp)
      have g1 : g s (f + 1) = 48 + m := by have := hget 1 (by simp); rw [this]; exact ofNat_toNat (by omega)
      have hl : e = f + 2 := by simpa using hlen
      subst hl
      unfold rdN
      rw [if_neg (by omega), if_pos g0, if_pos (by omega), if_neg hend, g1]
      congr 3
      omega
    · rw [hd] at hlen hget
      have g0 : g s f = 45 := by simpa using hget 0 (by simp)
      have g1 : g s (f + 1) = 48 + m / 10 := by have := hget 1 (by simp); rw [this]; exact ofNat_toNat (by omega)
      have g2 : g s (f + 2) = 48 + m % 10 := by have := hget 2 (by simp); rw [this]; exact ofNat_toNat (by omega)
      have hl : e = f + 3 := by simpa using hlen
      subst hl
      unfold rdN
      rw [if_neg (by omega), if_pos g0, if_pos (by omega), if_pos (by omega), g1, g2]
      congr 3
      omega
  · obtain ⟨m, rfl⟩ : ∃ m : Nat, n = (m : Int) := ⟨n.toNat, by omega⟩
    rw [dec_nat m] at h
    obtain ⟨hlen, hget⟩ := ext_get he h hf
    rcases decN_get (show m ≤ 99 by omega) with ⟨hm, hd⟩ | ⟨hm, hd⟩
    · rw [hd] at hlen hget
      have g0 : g s f = 48 + m := by have := hget 0 (by simp); rw [Nat.add_zero] at this; rw [this]; exact ofNat_toNat (by omega)
      have hl : e = f + 1 := by simpa using hlen
      subst hl
      unfold rdN
      by_cases hz : m = 0
      · subst hz; rw [if_pos (by omega)]; rfl
      · rw [if_neg (by omega), if_neg (by omega), if_pos (by omega), if_neg hend, g0]
        congr 3
        omega
    · rw [hd] at hlen hget
      have g0 : g s f = 48 + m / 10 := by have := hget 0 (by simp); rw [Nat.add_zero] at this; rw [this]; exact ofNat_toNat (by omega)
      have g1 : g s (f + 1) = 48 + m % 10 := by have := hget 1 (by simp); rw [this]; exact ofNat_toNat (by omega)
      have hl : e = f + 2 := by simpa using hlen
      subst hl
      unfold rdN
      rw [if_neg (by omega), if_neg (by omega), if_pos (by omega), if_pos (by omega), g0, g1]
      congr 3
      omega
end Go.Proofs.YtmnfndpbblpjiaaGreatDoor.Pu

/- What the reader has read; the next comma; texts of inputs. -/
namespace Go.Proofs.YtmnfndpbblpjiaaGreatDoor.Pu
theorem ext_mk {s : ByteArray} {f : Nat} {l : List UInt8} (hl : f + l.length ≤ s.size) (h : ∀ j (hj : j < l.length), g s (f + j) = l[j].toNat) : s.extract f (f + l.length) = ⟨l.toArray⟩ := by
  have hsz : (s.extract f (f + l.length)).size = l.length := by rw [ByteArray.size_extract]; omega
  apply ByteArray.ext
  apply Array.ext
  · show (s.extract f (f + l.length)).size = _
    rw [hsz]; simp
  · intro i h1 h2
    have hi : i < l.length := by simpa using h2
    have h3 := h i hi
    rw [g_in (by omega)] at h3
    have h4 : s[f + i]'(by omega) = l[i] := UInt8.toNat_inj.1 h3
    have h5 : (s.extract f (f + l.length))[i]'(by rw [hsz]; exact hi) = s[f + i]'(by omega) := by rw [ByteArray.getElem_extract]
    show (s.extract f (f + l.length))[i]'(by rw [hsz]; exact hi) = _
    rw [h5, h4]; simp
theorem in_of {s : ByteArray} {i : Nat} (h : g s i ≠ 0) : i < s.size := by
  refine Nat.lt_of_not_le fun hh => h (g_out hh)
theorem rdN_dec {s : ByteArray} {f p : Nat} {n : Int} (h : rdN s f = some (n, p)) : f < p ∧ p ≤ s.size ∧ s.extract f p = dec n ∧ -99 ≤ n ∧ n ≤ 99 ∧ ∀ i, f ≤ i → i < p → g s i ≠ 44 := by
  unfold rdN at h
  split at h
  · rename_i h0
    simp at h
    obtain ⟨rfl, rfl⟩ := h
    have hs := in_of (s := s) (i := f) (by omega)
    refine ⟨by omega, by omega, ?_, by omega, by omega, fun i a b => by rw [show i = f by omega]; omega⟩
    refine ext_mk (l := [48]) (by simp; omega) (fun j hj => ?_)
    have : j = 0 := by simpa using hj
    subst this
    simpa using h0
  · split at h
    · rename_i h45
      split at h
      · rename_i h1
        have hs1 := in_of (s := s) (i := f + 1) (by omega)
        split at h
        · rename_i h2
          have hs2 := in_of (s := s) (i := f + 2) (by omega)
          simp only [Option.some.injEq, Prod.mk.injEq] at h
          obtain ⟨rfl, rfl⟩ := h
          generalize hm : 10 * (g s (f + 1) - 48) + (g s (f + 2) - 48) = m
          refine ⟨by omega, by omega, ?_, by omega, by omega, fun i a b => by
            have : i = f ∨ i = f + 1 ∨ i = f + 2 := by omega
            rcases this with rfl | rfl | rfl <;> omega⟩
          rw [dec_neg m (by omega)]
          have hd : decN m = [UInt8.ofNat (48 + m / 10), UInt8.ofNat (48 + m % 10)] := by unfold decN; rw [if_pos (by omega)]
          rw [hd]
          refine ext_mk (l := [45, UInt8.ofNat (48 + m / 10), UInt8.ofNat (48 + m % 10)]) (by simp; omega) (fun j hj => ?_)
          have : j = 0 ∨ j = 1 ∨ j = 2 := by simp at hj; omega
          rcases this with rfl | rfl | rfl
          · simpa using h45
          · show g s (f + 1) = (UInt8.ofNat (48 + m / 10)).toNat
            rw [ofNat_toNat (by omega)]; omega
          · show g s (f + 2) = (UInt8.ofNat (48 + m % 10)).toNat
            rw [ofNat_toNat (by omega)]; omega
        · simp only [Option.some.injEq, Prod.mk.injEq] at h
          obtain ⟨rfl, rfl⟩ := h
          generalize hm : g s (f + 1) - 48 = m
          refine ⟨by omega, by omega, ?_, by omega, by omega, fun i a b => by
            have : i = f ∨ i = f + 1 := by omega
            rcases this with rfl | rfl <;> omega⟩
          rw [dec_neg m (by omega)]
          have hd : decN m = [UInt8.ofNat (48 + m)] := by unfold decN; rw [if_neg (by omega), Nat.mod_eq_of_lt (by omega)]
          rw [hd]
          refine ext_mk (l := [45, UInt8.ofNat (48 + m)]) (by simp; omega) (fun j hj => ?_)
          have : j = 0 ∨ j = 1 := by simp at hj; omega
          rcases this with rfl | rfl
          · simpa using h45
          · show g s (f + 1) = (UInt8.ofNat (48 + m)).toNat
            rw [ofNat_toNat (by omega)]; omega
      · cases h
    · split at h
      · rename_i h1
        have hs1 := in_of (s := s) (i := f) (by omega)
        split at h
        · rename_i h2
          have hs2 := in_of (s := s) (i := f + 1) (by omega)
          simp only [Option.some.injEq, Prod.mk.injEq] at h
          obtain ⟨rfl, rfl⟩ := h
          generalize hm : 10 * (g s f - 48) + (g s (f + 1) - 48) = m
          refine ⟨by omega, by omega, ?_, by omega, by omega, fun i a b => by
            have : i = f ∨ i = f + 1 := by omega
            rcases this with rfl | rfl <;> omega⟩
          rw [dec_nat m]
          have hd : decN m = [UInt8.ofNat (48 + m / 10), UInt8.ofNat (48 + m % 10)] := by unfold decN; rw [if_pos (by omega)]
          rw [hd]
          refine ext_mk (l := [UInt8.ofNat (48 + m / 10), UInt8.ofNat (48 + m % 10)]) (by simp; omega) (fun j hj => ?_)
          have : j = 0 ∨ j = 1 := by simp at hj; omega
          rcases this with rfl | rfl
          · show g s (f + 0) = (UInt8.ofNat (48 + m / 10)).toNat
            rw [ofNat_toNat (by omega), Nat.add_zero]; omega
          · show g s (f + 1) = (UInt8.ofNat (48 + m % 10)).toNat
            rw [ofNat_toNat (by omega)]; omega
        · simp only [Option.some.injEq, Prod.mk.injEq] at h
          obtain ⟨rfl, rfl⟩ := h
          generalize hm : g s f - 48 = m
          refine ⟨by omega, by omega, ?_, by omega, by omega, fun i a b => by rw [show i = f by omega]; omega⟩
          rw [dec_nat m]
          have hd : decN m = [UInt8.ofNat (48 + m)] := by unfold decN; rw [if_neg (by omega), Nat.mod_eq_of_lt (by omega)]
          rw [hd]
          refine ext_mk (l := [UInt8.ofNat (48 + m)]) (by simp; omega) (fun j hj => ?_)
          have : j = 0 := by simpa using hj
          subst this
          show g s (f + 0) = (UInt8.ofNat (48 + m)).toNat
          rw [ofNat_toNat (by omega), Nat.add_zero]; omega
      · cases h
theorem numer_dec {t : ByteArray} {n : Int} (h : numer t = some n) : t = dec n ∧ -99 ≤ n ∧ n ≤ 99 := by
  have hr := numer_range h
  refine ⟨?_, hr⟩
  unfold numer at h
  obtain ⟨i, hi, rfl⟩ := Option.map_eq_some_iff.1 h
  simpa using List.find?_some hi
/-- Where the number ends at a comma or at the end, it is the piece's. -/
theorem numer_at {s : ByteArray} {f p : Nat} {n : Int} (h : rdN s f = some (n, p)) (hb : p = s.size ∨ g s p = 44) : numer (s.extract f p) = some n := by
  obtain ⟨h1, h2, h3, h4, h5, -⟩ := rdN_dec h
  cases hn : numer (s.extract f p) with
  | none =>
    exfalso
    unfold numer at hn
    rw [Option.map_eq_none_iff, List.find?_eq_none] at hn
    have := hn (n + 99).toNat (by simp; omega)
    simp at this
    exact this (by rw [h3]; congr 1; omega)
  | some m =>
    obtain ⟨k1, k2, k3⟩ := numer_dec hn
    have := rdN_of (by omega) h2 hb k1 k2 k3
    rw [h] at this
    simp at this
    rw [this]
theorem next_comma {s : ByteArray} (f : Nat) (hf : f ≤ s.size) : ∃ e, f ≤ e ∧ e ≤ s.size ∧ (e = s.size ∨ g s e = 44) ∧ ∀ i, f ≤ i → i < e → g s i ≠ 44 := by
  obtain ⟨d, hd⟩ : ∃ d, s.size - f = d := ⟨_, rfl⟩
  induction d generalizing f with
  | zero => exact ⟨f, by omega, hf, .inl (by omega), fun i a b => by omega⟩
  | succ d ih =>
    by_cases h : g s f = 44
    · exact ⟨f, by omega, hf, .inr h, fun i a b => by omega⟩
    · obtain ⟨e, h1, h2, h3, h4⟩ := ih (f + 1) (by omega) (by omega)
      refine ⟨e, by omega, h2, h3, fun i a b => ?_⟩
      by_cases e1 : i = f
      · subst e1; exact h
      · exact h4 i (by omega) b
theorem inpSt_stay {s : ByteArray} {f : Nat} {l : List Int} (h : inpSt s f = some (f, l)) : ∀ e, f ≤ e → e ≤ s.size → (∀ i, f ≤ i → i < e → g s i ≠ 44) → inpSt s e = some (f, l) := by
  intro e
  induction e with
  | zero =>
    intro h1 _ _; have : f = 0 := by omega
    subst this; exact h
  | succ e ih =>
    intro h1 h2 h3
    by_cases e1 : f = e + 1
    · subst e1; exact h
    · exact inpSt_on (ih (by omega) (by omega) (fun i a b => h3 i a (by omega))) (by have := h3 e (by omega) (by omega); omega)
/-- A number and a comma. -/
theorem inp_comma {s : ByteArray} {f p : Nat} {n : Int} {l : List Int} (h : inpSt s f = some (f, l)) (hr : rdN s f = some (n, p)) (hc : g s p = 44) : inpSt s (p + 1) = some (p + 1, l ++ [n]) := by
  obtain ⟨h1, h2, -, -, -, h6⟩ := rdN_dec hr
  exact inpSt_num (inpSt_stay h p (by omega) h2 h6) (.inr hc) (numer_at hr (.inr hc))
/-- A number and the end. -/
theorem inp_last {s : ByteArray} {f : Nat} {n : Int} {l : List Int} (h0 : s.size ≠ 0) (h : inpSt s f = some (f, l)) (hr : rdN s f = some (n, s.size)) : inps s = some (l ++ [n]) := by
  obtain ⟨h1, h2, -, -, -, h6⟩ := rdN_dec hr
  exact inps_good h0 (inpSt_num (inpSt_stay h s.size (by omega) h2 h6) (.inl rfl) (numer_at hr (.inl rfl)))
/-- No number, or something behind it. -/
theorem inp_bad {s : ByteArray} {f : Nat} {l : List Int} (h0 : s.size ≠ 0) (hf : f ≤ s.size) (h : inpSt s f = some (f, l)) (hr : ∀ n p, rdN s f = some (n, p) → p ≠ s.size ∧ g s p ≠ 44) : inps s = none := by
  obtain ⟨e, h1, h2, h3, h4⟩ := next_comma f hf
  refine inps_bad h0 h2 (inpSt_stay h e h1 h2 h4) h3 ?_
  cases hn : numer (s.extract f e) with
  | none => rfl
  | some m =>
    exfalso
    obtain ⟨k1, k2, k3⟩ := numer_dec hn
    have := hr m e (rdN_of h1 h2 h3 k1 k2 k3)
    rcases h3 with h3 | h3
    · exact this.1 h3
    · exact this.2 h3
end Go.Proofs.YtmnfndpbblpjiaaGreatDoor.Pu

/- The document's Exec. -/
namespace Go.Proofs.YtmnfndpbblpjiaaGreatDoor
open Go.RowKit Pu
/-- What is not a fault of the code. -/
theorem Pu.exe_bad {B : Nat} {s inp : ByteArray} (h : (vfy s).1 = 8) : exe B s inp = (⟨#[]⟩, 8) := by simp [exe, h]
theorem Pu.exe_none {B : Nat} {s inp : ByteArray} (h : vfy s = (0, 0)) (hi : inps inp = none) : exe B s inp = (⟨#[]⟩, 9) := by simp [exe, h, hi]
theorem Pu.exe_count {B : Nat} {s inp : ByteArray} {l : List Int} (h : vfy s = (0, 0)) (hi : inps inp = some l) (hl : l.length ≠ g s 3) : exe B s inp = (⟨#[]⟩, 9) := by simp [exe, h, hi, hl]
theorem Pu.exe_play {B : Nat} {s inp : ByteArray} {l : List Int} (h : vfy s = (0, 0)) (hi : inps inp = some l) (hl : l.length = g s 3) : exe B s inp = play B l (steps s) (List.replicate 128 0) ⟨#[]⟩ := by simp [exe, h, hi, hl]
end Go.Proofs.YtmnfndpbblpjiaaGreatDoor

/- Plain functions: the steps that a construction or a question is made into. -/
namespace Go.Proofs.YtmnfndpbblpjiaaGreatDoor.Pu
/-- The registers of a point or a line. -/
structure Tr where
  x : Nat
  y : Nat
  w : Nat
def prodS (s p q r t : Nat) : List Stp := [⟨4, s, p, q⟩, ⟨4, s + 1, r, t⟩, ⟨2, s + 2, s, s + 1⟩]
def prodD (s p q r t : Nat) : List Stp := [⟨4, s, p, q⟩, ⟨4, s + 1, r, t⟩, ⟨3, s + 2, s, s + 1⟩]
def negL (s y : Nat) : List Stp := [⟨1, s, 0, 0⟩, ⟨3, s + 1, s, y⟩]
def isnL (s y : Nat) : List Stp := [⟨5, s, y, 0⟩, ⟨4, s + 1, s, s⟩, ⟨1, s + 2, 1, 0⟩, ⟨3, s + 3, s + 2, s + 1⟩]
def crossR (s : Nat) : Tr := ⟨s + 2, s + 5, s + 8⟩
def crossL (s : Nat) (a b : Tr) : List Stp := prodD s a.y b.w a.w b.y ++ (prodD (s + 3) a.w b.x a.x b.w ++ prodD (s + 6) a.x b.y a.y b.x)
def dotL (s : Nat) (a b : Tr) : List Stp := prodS s a.x b.x a.y b.y ++ [⟨4, s + 3, a.w, b.w⟩, ⟨2, s + 4, s + 2, s + 3⟩]
def volL (s : Nat) (a b c : Tr) : List Stp := crossL s a b ++ dotL (s + 9) (crossR s) c
def givenR (s : Nat) : Tr := ⟨s, s + 1, s + 2⟩
def givenL (s i : Nat) : List Stp := [⟨0, s, i, 0⟩, ⟨0, s + 1, i + 1, 0⟩, ⟨1, s + 2, 1, 0⟩]
def midR (s : Nat) : Tr := ⟨s + 2, s + 5, s + 7⟩
def midL (s : Nat) (a b : Tr) : List Stp := prodS s a.x b.w b.x a.w ++ (prodS (s + 3) a.y b.w b.y a.w ++ [⟨4, s + 6, a.w, b.w⟩, ⟨2, s + 7, s + 6, s + 6⟩])
def parR (s : Nat) : Tr := ⟨s, s + 1, s + 6⟩
def parL (s : Nat) (p l : Tr) : List Stp := [⟨4, s, l.x, p.w⟩, ⟨4, s + 1, l.y, p.w⟩] ++ (prodS (s + 2) l.x p.x l.y p.y ++ negL (s + 5) (s + 4))
def uprR (s : Nat) : Tr := ⟨s + 2, s + 3, s + 8⟩
def uprL (s : Nat) (p l : Tr) : List Stp := negL s l.x ++ parL (s + 2) p ⟨l.y, s + 1, l.w⟩
def footR (s : Nat) : Tr := ⟨s + 11, s + 14, s + 17⟩
def footL (s : Nat) (p l : Tr) : List Stp := uprL s p l ++ crossL (s + 9) (uprR s) l
def mirR (s : Nat) : Tr := ⟨s + 22, s + 25, s + 26⟩
def mirL (s : Nat) (p l : Tr) : List Stp :=
  footL s p l ++ ([⟨2, s + 18, s + 11, s + 11⟩, ⟨2, s + 19, s + 14, s + 14⟩] ++ (prodD (s + 20) (s + 18) p.w p.x (s + 17) ++ (prodD (s + 23) (s + 19) p.w p.y (s + 17) ++ [⟨4, s + 26, s + 17, p.w⟩])))
def halR (s : Nat) : Tr := ⟨s + 19, s + 20, s + 25⟩
def halL (s : Nat) (a b : Tr) : List Stp := midL s a b ++ (crossL (s + 8) a b ++ uprL (s + 17) (midR s) (crossR (s + 8)))
def cenR (s : Nat) : Tr := ⟨s + 54, s + 57, s + 60⟩
def cenL (s : Nat) (a b c : Tr) : List Stp := halL s a b ++ (halL (s + 26) a c ++ crossL (s + 52) (halR s) (halR (s + 26)))
def wayR (s : Nat) : Tr := ⟨s + 2, s + 5, s + 6⟩
def wayL (s : Nat) (f t : Tr) : List Stp := prodD s t.x f.w f.x t.w ++ (prodD (s + 3) t.y f.w f.y t.w ++ [⟨4, s + 6, f.w, t.w⟩])
def lifR (s : Nat) : Tr := ⟨s, s + 1, s + 4⟩
def lifL (s : Nat) (p : Tr) : List Stp := [⟨4, s, p.x, p.w⟩, ⟨4, s + 1, p.y, p.w⟩] ++ prodS (s + 2) p.x p.x p.y p.y
def btwL (s : Nat) (a b c : Tr) : List Stp :=
  volL s a b c ++ (isnL (s + 14) (s + 13) ++ (wayL (s + 18) b a ++ (wayL (s + 25) b c ++ (prodS (s + 32) (s + 20) (s + 27) (s + 23) (s + 30) ++ (negL (s + 35) (s + 34) ++ [⟨4, s + 37, s + 17, s + 36⟩])))))
def rndL (s : Nat) (a b c d : Tr) : List Stp :=
  wayL s a b ++ (wayL (s + 7) a c ++ (wayL (s + 14) a d ++ (lifL (s + 21) (wayR s) ++ (lifL (s + 26) (wayR (s + 7)) ++ (lifL (s + 31) (wayR (s + 14)) ++ volL (s + 36) (lifR (s + 21)) (lifR (s + 26)) (lifR (s + 31)))))))
def samL (s : Nat) (a b : Tr) : List Stp := wayL s a b ++ prodS (s + 7) (s + 2) (s + 2) (s + 5) (s + 5)
/-- What the arguments of a statement stand for. -/
structure Th where
  a : Tr
  b : Tr
  c : Tr
  d : Tr
/-- Steps, the register they answer in, how many. -/
def gapL (wd : List UInt8) (s : Nat) (t : Th) : List Stp × Nat :=
  if wd == [115, 97, 109, 101] then (samL s t.a t.b, 9)
  else if wd == [99, 111, 110] then (rndL s t.a t.b t.c t.d, 49)
  else if wd == [111, 110] then (dotL s t.a t.b, 4)
  else if wd == [112, 108, 108] then (prodD s t.a.x t.b.y t.a.y t.b.x, 2)
  else if wd == [112, 114, 112] then (prodS s t.a.x t.b.x t.a.y t.b.y, 2)
  else (volL s t.a t.b t.c, 13)
def askL (wd : List UInt8) (s : Nat) (t : Th) : List Stp × Nat :=
  if wd == [99, 99, 119] then (volL s t.a t.b t.c, 13)
  else if wd == [98, 116, 119] then (btwL s t.a t.b t.c, 37)
  else ((gapL wd s t).1 ++ isnL (s + (gapL wd s t).2 + 1) (s + (gapL wd s t).2), (gapL wd s t).2 + 4)
def conL (wd : List UInt8) (s i : Nat) (t : Th) : List Stp × Tr × Nat :=
  if wd == [112, 116] then (givenL s i, givenR s, i + 2)
  else if wd == [109, 105, 100] then (midL s t.a t.b, midR s, i)
  else if wd == [112, 97, 114] then (parL s t.a t.b, parR s, i)
  else if wd == [112, 101, 114, 112] then (uprL s t.a t.b, uprR s, i)
  else if wd == [102, 111, 111, 116] then (footL s t.a t.b, footR s, i)
  else if wd == [109, 105, 114, 114, 111, 114] then (mirL s t.a t.b, mirR s, i)
  else if wd == [99, 101, 110, 116, 114, 101] then (cenL s t.a t.b t.c, cenR s, i)
  else (crossL s t.a t.b, crossR s, i)
def grdL (wd : List UInt8) (s : Nat) (m : Tr) (k : Nat) : List Stp :=
  if wd == [108, 105, 110, 101] then prodS s m.x m.x m.y m.y ++ [⟨7, s + 2, 0, k⟩]
  else if wd == [109, 101, 101, 116] then [⟨7, m.w, 1, k⟩]
  else if wd == [99, 101, 110, 116, 114, 101] then [⟨7, m.w, 2, k⟩] else []
def facL (wd : List UInt8) (s : Nat) (m : Tr) : List Stp := if sG wd = 80 then [⟨5, s, m.w, 0⟩] else [⟨1, s, 1, 0⟩]
def keepL (wd : List UInt8) (s : Nat) (m : Tr) (k : Nat) : List Stp := facL wd s m ++ [⟨4, 3 * k, m.x, s⟩, ⟨4, 3 * k + 1, m.y, s⟩, ⟨4, 3 * k + 2, m.w, s⟩]
end Go.Proofs.YtmnfndpbblpjiaaGreatDoor.Pu

/- What the made steps come to, in plain numbers. -/
namespace Go.Proofs.YtmnfndpbblpjiaaGreatDoor.Pu
structure T3 where
  x : Int
  y : Int
  w : Int
def crossV (a b : T3) : T3 := ⟨a.y * b.w - a.w * b.y, a.w * b.x - a.x * b.w, a.x * b.y - a.y * b.x⟩
def dotV (a b : T3) : Int := a.x * b.x + a.y * b.y + a.w * b.w
def volV (a b c : T3) : Int := dotV (crossV a b) c
def midV (a b : T3) : T3 := ⟨a.x * b.w + b.x * a.w, a.y * b.w + b.y * a.w, a.w * b.w + a.w * b.w⟩
def parV (p l : T3) : T3 := ⟨l.x * p.w, l.y * p.w, 0 - (l.x * p.x + l.y * p.y)⟩
def uprV (p l : T3) : T3 := parV p ⟨l.y, 0 - l.x, l.w⟩
def footV (p l : T3) : T3 := crossV (uprV p l) l
def mirV (p l : T3) : T3 := ⟨((footV p l).x + (footV p l).x) * p.w - p.x * (footV p l).w, ((footV p l).y + (footV p l).y) * p.w - p.y * (footV p l).w, (footV p l).w * p.w⟩
def halV (a b : T3) : T3 := uprV (midV a b) (crossV a b)
def cenV (a b c : T3) : T3 := crossV (halV a b) (halV a c)
def wayV (f t : T3) : T3 := ⟨t.x * f.w - f.x * t.w, t.y * f.w - f.y * t.w, f.w * t.w⟩
def lifV (p : T3) : T3 := ⟨p.x * p.w, p.y * p.w, p.x * p.x + p.y * p.y⟩
def isnV (y : Int) : Int := 1 - sgn y * sgn y
def btwV (a b c : T3) : Int := isnV (volV a b c) * (0 - ((wayV b a).x * (wayV b c).x + (wayV b a).y * (wayV b c).y))
def rndV (a b c d : T3) : Int := volV (lifV (wayV a b)) (lifV (wayV a c)) (lifV (wayV a d))
def samV (a b : T3) : Int := (wayV a b).x * (wayV a b).x + (wayV a b).y * (wayV a b).y
def Sm (M : Nat) (v : Int) : Prop := v.natAbs ≤ M
def qd (M : Nat) : Nat := 3 * (M * M)
theorem qd_le {M : Nat} (h : 1 ≤ M) : M ≤ qd M := by
  unfold qd
  have := Nat.le_mul_of_pos_right M h
  omega
theorem qd_pos {M : Nat} (h : 1 ≤ M) : 1 ≤ qd M := Nat.le_trans h (qd_le h)
theorem Sm.mono {M N : Nat} {v : Int} (h : Sm M v) (hn : M ≤ N) : Sm N v := Nat.le_trans h hn
theorem Sm.mul {M : Nat} {a b : Int} (h : Sm M a) (k : Sm M b) : Sm (M * M) (a * b) := by
  unfold Sm at *; rw [Int.natAbs_mul]; exact Nat.mul_le_mul h k
theorem Sm.add {M N : Nat} {a b : Int} (h : Sm M a) (k : Sm N b) : Sm (M + N) (a + b) := by unfold Sm at *; omega
theorem Sm.sub {M N : Nat} {a b : Int} (h : Sm M a) (k : Sm N b) : Sm (M + N) (a - b) := by unfold Sm at *; omega
theorem Sm.q {M : Nat} {a b : Int} (h : Sm M a) (k : Sm M b) : Sm (qd M) (a * b) := (h.mul k).mono (by unfold qd; omega)
theorem Sm.qs {M : Nat} {a b c d : Int} (h : Sm M a) (k : Sm M b) (i : Sm M c) (j : Sm M d) : Sm (qd M) (a * b + c * d) := ((h.mul k).add (i.mul j)).mono (by unfold qd; omega)
theorem Sm.qm {M : Nat} {a b c d : Int} (h : Sm M a) (k : Sm M b) (i : Sm M c) (j : Sm M d) : Sm (qd M) (a * b - c * d) := ((h.mul k).sub (i.mul j)).mono (by unfold qd; omega)
theorem Sm.q3 {M : Nat} {a b c d e f : Int} (h : Sm M a) (k : Sm M b) (i : Sm M c) (j : Sm M d) (m : Sm M e) (n : Sm M f) : Sm (qd M) (a * b + c * d + e * f) := (((h.mul k).add (i.mul j)).add (m.mul n)).mono (by unfold qd; omega)
theorem Sm.dbl {M : Nat} {a : Int} (h : Sm M a) (hm : 1 ≤ M) : Sm (qd M) (a + a) := (h.add h).mono (by unfold qd; have := Nat.le_mul_of_pos_right M hm; omega)
theorem sgn_cases (x : Int) : sgn x = -1 ∧ x < 0 ∨ sgn x = 0 ∧ x = 0 ∨ sgn x = 1 ∧ 0 < x := by
  unfold sgn; by_cases h : x < 0
  · simp [h]
  · by_cases k : x = 0
    · simp [k]
    · simp [h, k]; omega
theorem Sm.sgn {M : Nat} (x : Int) (hm : 1 ≤ M) : Sm M (Pu.sgn x) := by unfold Sm; rcases sgn_cases x with h | h | h <;> rw [h.1] <;> simp <;> omega
/-- The steps come to registers of which Q is so. -/
def Rn (B : Nat) (ins : List Int) (l : List Stp) (R : List Int) (Q : List Int → Prop) : Prop := ∃ R', Q R' ∧ ∀ rest s, play B ins (l ++ rest) R s = play B ins rest R' s
section
variable {B : Nat} {ins : List Int} {l l1 l2 : List Stp} {R R' : List Int} {Q : List Int → Prop}
theorem rn_nil (h : Q R) : Rn B ins [] R Q := ⟨R, h, fun _ _ => rfl⟩
theorem rn_app (h : Rn B ins l1 R (fun R1 => Rn B ins l2 R1 Q)) : Rn B ins (l1 ++ l2) R Q := by
  obtain ⟨R1, ⟨R2, h2, k2⟩, k1⟩ := h
  exact ⟨R2, h2, fun rest s => by rw [List.append_assoc, k1, k2]⟩
theorem rn_mono {P : List Int → Prop} (h : Rn B ins l R P) (k : ∀ R', P R' → Q R') : Rn B ins l R Q := by
  obtain ⟨R1, h1, k1⟩ := h
  exact ⟨R1, k _ h1, k1⟩
theorem reg_set_eq {i : Nat} {v : Int} (h : i < R.length) : reg (R.set i v) i = v := by simp [reg, h]
theorem reg_set_ne {i r : Nat} {v : Int} (h : r ≠ i) : reg (R.set i v) r = reg R r := by
  unfold reg; rw [List.getElem?_set_ne (fun e => h e.symm)]
/-- Below s nothing has turned. -/
def Lo (s : Nat) (R R' : List Int) : Prop := R'.length = 128 ∧ ∀ r, r < s → reg R' r = reg R r
theorem Lo.trans {s t : Nat} {A C D : List Int} (h : Lo s A C) (k : Lo t C D) (hs : s ≤ t) : Lo s A D := ⟨k.1, fun r hr => by rw [k.2 r (by omega), h.2 r hr]⟩
def Sv (s M : Nat) (R : List Int) (r : Nat) (v : Int) : Prop := r < s ∧ reg R r = v ∧ Sm M v
theorem Sv.lo {s M : Nat} {r : Nat} {v : Int} (h : Sv s M R r v) (k : Lo s R R') (t N : Nat) (ht : s ≤ t) (hN : M ≤ N) : Sv t N R' r v := ⟨by have := h.1; omega, by rw [k.2 r h.1, h.2.1], h.2.2.mono hN⟩
def Tv (s M : Nat) (R : List Int) (t : Tr) (v : T3) : Prop := Sv s M R t.x v.x ∧ Sv s M R t.y v.y ∧ Sv s M R t.w v.w
theorem Tv.lo {s M : Nat} {t : Tr} {v : T3} (h : Tv s M R t v) (k : Lo s R R') (t' N : Nat) (ht : s ≤ t') (hN : M ≤ N) : Tv t' N R' t v := ⟨h.1.lo k _ _ ht hN, h.2.1.lo k _ _ ht hN, h.2.2.lo k _ _ ht hN⟩
/-- One step that sets the next register. -/
theorem rn_work {op s y z : Nat} (v : Int) (M : Nat) (hR : R.length = 128) (hs : s < 128) (hop : op < 6) (hv : valOf ⟨op, s, y, z⟩ R ins = v) (hm : Sm M v) (hb : M < B) (k : ∀ R', Lo s R R' → Sv (s + 1) M R' s v → Rn B ins l R' Q) : Rn B ins (⟨op, s, y, z⟩ :: l) R Q := by
  have hb' : ¬ B ≤ (valOf ⟨op, s, y, z⟩ R ins).natAbs := by rw [hv]; unfold Sm at hm; omega
  obtain ⟨R2, h2, k2⟩ := k (R.set s v) ⟨by simpa using hR, fun r hr => reg_set_ne (by omega)⟩ ⟨by omega, reg_set_eq (by omega), hm⟩
  refine ⟨R2, h2, fun rest st => ?_⟩
  rw [List.cons_append, play_set hop hb', hv]
  exact k2 rest st
theorem val_mul {s y z : Nat} {a b : Int} (h : reg R y = a) (k : reg R z = b) : valOf ⟨4, s, y, z⟩ R ins = a * b := by simp [valOf, h, k]
theorem val_add {s y z : Nat} {a b : Int} (h : reg R y = a) (k : reg R z = b) : valOf ⟨2, s, y, z⟩ R ins = a + b := by simp [valOf, h, k]
theorem val_sub {s y z : Nat} {a b : Int} (h : reg R y = a) (k : reg R z = b) : valOf ⟨3, s, y, z⟩ R ins = a - b := by simp [valOf, h, k]
theorem val_con {s y : Nat} : valOf ⟨1, s, y, 0⟩ R ins = (y : Int) := by simp [valOf]
theorem val_sgn {s y : Nat} {a : Int} (h : reg R y = a) : valOf ⟨5, s, y, 0⟩ R ins = sgn a := by simp [valOf, h]
theorem val_in {s y : Nat} {a : Int} (h : ins[y]? = some a) : valOf ⟨0, s, y, 0⟩ R ins = a := by simp [valOf, h]
variable {s M : Nat}
theorem rn_prodS {p q r t : Nat} {a b c d : Int} (hR : R.length = 128) (hs : s + 3 ≤ 128) (hB : qd M < B) (hp : Sv s M R p a) (hq : Sv s M R q b) (hr : Sv s M R r c) (ht : Sv s M R t d)
    (k : ∀ R', Lo s R R' → Sv (s + 3) (qd M) R' (s + 2) (a * b + c * d) → Rn B ins l R' Q) : Rn B ins (prodS s p q r t ++ l) R Q := by
  refine rn_work (a * b) (qd M) hR (by omega) (by omega) (val_mul hp.2.1 hq.2.1) (hp.2.2.q hq.2.2) hB ?_
  intro R1 l1 v1
  have hr1 := hr.lo l1 (s + 1) M (by omega) (Nat.le_refl _)
  have ht1 := ht.lo l1 (s + 1) M (by omega) (Nat.le_refl _)
  refine rn_work (c * d) (qd M) l1.1 (by omega) (by omega) (val_mul hr1.2.1 ht1.2.1) (hr.2.2.q ht.2.2) hB ?_
  intro R2 l2 v2
  have v1' := v1.lo l2 (s + 2) _ (by omega) (Nat.le_refl _)
  refine rn_work (a * b + c * d) (qd M) l2.1 (by omega) (by omega) (val_add v1'.2.1 v2.2.1) (hp.2.2.qs hq.2.2 hr.2.2 ht.2.2) hB ?_
  intro R3 l3 v3
  exact k R3 ((l1.trans l2 (by omega)).trans l3 (by omega)) v3
theorem rn_prodD {p q r t : Nat} {a b c d : Int} (hR : R.length = 128) (hs : s + 3 ≤ 128) (hB : qd M < B) (hp : Sv s M R p a) (hq : Sv s M R q b) (hr : Sv s M R r c) (ht : Sv s M R t d)
    (k : ∀ R', Lo s R R' → Sv (s + 3) (qd M) R' (s + 2) (a * b - c * d) → Rn B ins l R' Q) : Rn B ins (prodD s p q r t ++ l) R Q := by
  refine rn_work (a * b) (qd M) hR (by omega) (by omega) (val_mul hp.2.1 hq.2.1) (hp.2.2.q hq.2.2) hB ?_
  intro R1 l1 v1
  have hr1 := hr.lo l1 (s + 1) M (by omega) (Nat.le_refl _)
  have ht1 := ht.lo l1 (s + 1) M (by omega) (Nat.le_refl _)
  refine rn_work (c * d) (qd M) l1.1 (by omega) (by omega) (val_mul hr1.2.1 ht1.2.1) (hr.2.2.q ht.2.2) hB ?_
  intro R2 l2 v2
  have v1' := v1.lo l2 (s + 2) _ (by omega) (Nat.le_refl _)
  refine rn_work (a * b - c * d) (qd M) l2.1 (by omega) (by omega) (val_sub v1'.2.1 v2.2.1) (hp.2.2.qm hq.2.2 hr.2.2 ht.2.2) hB ?_
  intro R3 l3 v3
  exact k R3 ((l1.trans l2 (by omega)).trans l3 (by omega)) v3
theorem rn_neg {y : Nat} {a : Int} (hR : R.length = 128) (hs : s + 2 ≤ 128) (hB : M < B) (hy : Sv s M R y a)
    (k : ∀ R', Lo s R R' → Sv (s + 2) M R' (s + 1) (0 - a) → Rn B ins l R' Q) : Rn B ins (negL s y ++ l) R Q := by
  refine rn_work 0 M hR (by omega) (by omega) val_con (by simp [Sm]) hB ?_
  intro R1 l1 v1
  have hy1 := hy.lo l1 (s + 1) M (by omega) (Nat.le_refl _)
  refine rn_work (0 - a) M l1.1 (by omega) (by omega) (val_sub v1.2.1 hy1.2.1) (by have := hy.2.2; unfold Sm at *; omega) hB ?_
  intro R2 l2 v2
  exact k R2 (l1.trans l2 (by omega)) v2
theorem isnV_cases (a : Int) : isnV a = 0 ∧ a ≠ 0 ∨ isnV a = 1 ∧ a = 0 := by
  unfold isnV; rcases sgn_cases a with h | h | h <;> rw [h.1] <;> simp <;> omega
theorem Sm.isn {M : Nat} (a : Int) (h : 1 ≤ M) : Sm M (isnV a) := by unfold Sm; rcases isnV_cases a with h | h <;> rw [h.1] <;> simp <;> omega
theorem rn_isn {y : Nat} {a : Int} (hR : R.length = 128) (hs : s + 4 ≤ 128) (hB : M < B) (h1 : 1 ≤ M) (hy : Sv s M R y a)
    (k : ∀ R', Lo s R R' → Sv (s + 4) M R' (s + 3) (isnV a) → Rn B ins l R' Q) : Rn B ins (isnL s y ++ l) R Q := by
  refine rn_work (sgn a) M hR (by omega) (by omega) (val_sgn hy.2.1) (.sgn a h1) hB ?_
  intro R1 l1 v1
  refine rn_work (sgn a * sgn a) M l1.1 (by omega) (by omega) (val_mul v1.2.1 v1.2.1) (by unfold Sm; rcases sgn_cases a with h | h | h <;> rw [h.1] <;> simp <;> omega) hB ?_
  intro R2 l2 v2
  refine rn_work 1 M l2.1 (by omega) (by omega) val_con (by simp [Sm]; omega) hB ?_
  intro R3 l3 v3
  have v2' := v2.lo l3 (s + 3) _ (by omega) (Nat.le_refl _)
  refine rn_work (isnV a) M l3.1 (by omega) (by omega) (val_sub v3.2.1 v2'.2.1) (.isn a h1) hB ?_
  intro R4 l4 v4
  exact k R4 (((l1.trans l2 (by omega)).trans l3 (by omega)).trans l4 (by omega)) v4
theorem rn_cross {a b : Tr} {u v : T3} (hR : R.length = 128) (hs : s + 9 ≤ 128) (hB : qd M < B) (ha : Tv s M R a u) (hb : Tv s M R b v)
    (k : ∀ R', Lo s R R' → Tv (s + 9) (qd M) R' (crossR s) (crossV u v) → Rn B ins l R' Q) : Rn B ins (crossL s a b ++ l) R Q := by
  unfold crossL
  rw [List.append_assoc, List.append_assoc]
  refine rn_prodD hR (by omega) hB ha.2.1 hb.2.2 ha.2.2 hb.2.1 ?_
  intro R1 l1 v1
  have ha1 := ha.lo l1 (s + 3) M (by omega) (Nat.le_refl _)
  have hb1 := hb.lo l1 (s + 3) M (by omega) (Nat.le_refl _)
  refine rn_prodD l1.1 (by omega) hB ha1.2.2 hb1.1 ha1.1 hb1.2.2 ?_
  intro R2 l2 v2
  have ha2 := ha1.lo l2 (s + 6) M (by omega) (Nat.le_refl _)
  have hb2 := hb1.lo l2 (s + 6) M (by omega) (Nat.le_refl _)
  refine rn_prodD l2.1 (by omega) hB ha2.1 hb2.2.1 ha2.2.1 hb2.1 ?_
  intro R3 l3 v3
  exact k R3 ((l1.trans l2 (by omega)).trans l3 (by omega)) ⟨(v1.lo l2 (s + 6) _ (by omega) (Nat.le_refl _)).lo l3 (s + 9) _ (by omega) (Nat.le_refl _), v2.lo l3 (s + 9) _ (by omega) (Nat.le_refl _), v3⟩
theorem rn_dot {a b : Tr} {u v : T3} (hR : R.length = 128) (hs : s + 5 ≤ 128) (hB : qd M < B) (ha : Tv s M R a u) (hb : Tv s M R b v)
    (k : ∀ R', Lo s R R' → Sv (s + 5) (qd M) R' (s + 4) (dotV u v) → Rn B ins l R' Q) : Rn B ins (dotL s a b ++ l) R Q := by
  unfold dotL
  rw [List.append_assoc]
  refine rn_prodS hR (by omega) hB ha.1 hb.1 ha.2.1 hb.2.1 ?_
  intro R1 l1 v1
  have ha1 := ha.lo l1 (s + 3) M (by omega) (Nat.le_refl _)
  have hb1 := hb.lo l1 (s + 3) M (by omega) (Nat.le_refl _)
  refine rn_work (u.w * v.w) (qd M) l1.1 (by omega) (by omega) (val_mul ha1.2.2.2.1 hb1.2.2.2.1) (ha.2.2.2.2.q hb.2.2.2.2) hB ?_
  intro R2 l2 v2
  have v1' := v1.lo l2 (s + 4) _ (by omega) (Nat.le_refl _)
  refine rn_work (dotV u v) (qd M) l2.1 (by omega) (by omega) (val_add v1'.2.1 v2.2.1) (ha.1.2.2.q3 hb.1.2.2 ha.2.1.2.2 hb.2.1.2.2 ha.2.2.2.2 hb.2.2.2.2) hB ?_
  intro R3 l3 v3
  exact k R3 ((l1.trans l2 (by omega)).trans l3 (by omega)) v3
theorem rn_vol {a b c : Tr} {u v t : T3} (hR : R.length = 128) (hs : s + 14 ≤ 128) (h1 : 1 ≤ M) (hB : qd (qd M) < B) (ha : Tv s M R a u) (hb : Tv s M R b v) (hc : Tv s M R c t)
    (k : ∀ R', Lo s R R' → Sv (s + 14) (qd (qd M)) R' (s + 13) (volV u v t) → Rn B ins l R' Q) : Rn B ins (volL s a b c ++ l) R Q := by
  unfold volL
  rw [List.append_assoc]
  have hq := qd_le (qd_pos h1)
  refine rn_cross hR (by omega) (by omega) ha hb ?_
  intro R1 l1 v1
  refine rn_dot l1.1 (by omega) hB v1 (hc.lo l1 (s + 9) _ (by omega) (qd_le h1)) ?_
  intro R2 l2 v2
  exact k R2 (l1.trans l2 (by omega)) v2
theorem rn_mid {a b : Tr} {u v : T3} (hR : R.length = 128) (hs : s + 8 ≤ 128) (hB : qd M < B) (ha : Tv s M R a u) (hb : Tv s M R b v)
    (k : ∀ R', Lo s R R' → Tv (s + 8) (qd M) R' (midR s) (midV u v) → Rn B ins l R' Q) : Rn B ins (midL s a b ++ l) R Q := by
  unfold midL
  rw [List.append_assoc, List.append_assoc]
  refine rn_prodS hR (by omega) hB ha.1 hb.2.2 hb.1 ha.2.2 ?_
  intro R1 l1 v1
  have ha1 := ha.lo l1 (s + 3) M (by omega) (Nat.le_refl _)
  have hb1 := hb.lo l1 (s + 3) M (by omega) (Nat.le_refl _)
  refine rn_prodS l1.1 (by omega) hB ha1.2.1 hb1.2.2 hb1.2.1 ha1.2.2 ?_
  intro R2 l2 v2
  have ha2 := ha1.lo l2 (s + 6) M (by omega) (Nat.le_refl _)
  have hb2 := hb1.lo l2 (s + 6) M (by omega) (Nat.le_refl _)
  refine rn_work (u.w * v.w) (qd M) l2.1 (by omega) (by omega) (val_mul ha2.2.2.2.1 hb2.2.2.2.1) (ha.2.2.2.2.q hb.2.2.2.2) hB ?_
  intro R3 l3 v3
  refine rn_work (u.w * v.w + u.w * v.w) (qd M) l3.1 (by omega) (by omega) (val_add v3.2.1 v3.2.1) (ha.2.2.2.2.qs hb.2.2.2.2 ha.2.2.2.2 hb.2.2.2.2) hB ?_
  intro R4 l4 v4
  have l34 := l3.trans l4 (by omega)
  have l24 := l2.trans l34 (by omega)
  exact k R4 (l1.trans l24 (by omega)) ⟨v1.lo l24 (s + 8) _ (by omega) (Nat.le_refl _), v2.lo l34 (s + 8) _ (by omega) (Nat.le_refl _), v4⟩
theorem rn_par {p l' : Tr} {u v : T3} (hR : R.length = 128) (hs : s + 7 ≤ 128) (hB : qd M < B) (hp : Tv s M R p u) (hl : Tv s M R l' v)
    (k : ∀ R', Lo s R R' → Tv (s + 7) (qd M) R' (parR s) (parV u v) → Rn B ins l R' Q) : Rn B ins (parL s p l' ++ l) R Q := by
  unfold parL
  rw [List.append_assoc, List.append_assoc]
  refine rn_work (v.x * u.w) (qd M) hR (by omega) (by omega) (val_mul hl.1.2.1 hp.2.2.2.1) (hl.1.2.2.q hp.2.2.2.2) hB ?_
  intro R1 l1 v1
  have hp1 := hp.lo l1 (s + 1) M (by omega) (Nat.le_refl _)
  have hl1 := hl.lo l1 (s + 1) M (by omega) (Nat.le_refl _)
  refine rn_work (v.y * u.w) (qd M) l1.1 (by omega) (by omega) (val_mul hl1.2.1.2.1 hp1.2.2.2.1) (hl.2.1.2.2.q hp.2.2.2.2) hB ?_
  intro R2 l2 v2
  have hp2 := hp1.lo l2 (s + 2) M (by omega) (Nat.le_refl _)
  have hl2 := hl1.lo l2 (s + 2) M (by omega) (Nat.le_refl _)
  refine rn_prodS l2.1 (by omega) hB hl2.1 hp2.1 hl2.2.1 hp2.2.1 ?_
  intro R3 l3 v3
  refine rn_neg l3.1 (by omega) hB v3 ?_
  intro R4 l4 v4
  have l34 := l3.trans l4 (by omega)
  have l24 := l2.trans l34 (by omega)
  exact k R4 (l1.trans l24 (by omega)) ⟨v1.lo l24 (s + 7) _ (by omega) (Nat.le_refl _), v2.lo l34 (s + 7) _ (by omega) (Nat.le_refl _), v4⟩
theorem rn_upr {p l' : Tr} {u v : T3} (hR : R.length = 128) (hs : s + 9 ≤ 128) (h1 : 1 ≤ M) (hB : qd M < B) (hp : Tv s M R p u) (hl : Tv s M R l' v)
    (k : ∀ R', Lo s R R' → Tv (s + 9) (qd M) R' (uprR s) (uprV u v) → Rn B ins l R' Q) : Rn B ins (uprL s p l' ++ l) R Q := by
  unfold uprL
  rw [List.append_assoc]
  have hq := qd_le h1
  refine rn_neg hR (by omega) (by omega) hl.1 ?_
  intro R1 l1 v1
  have hl1 := hl.lo l1 (s + 2) M (by omega) (Nat.le_refl _)
  refine rn_par l1.1 (by omega) hB (hp.lo l1 (s + 2) M (by omega) (Nat.le_refl _)) (v := ⟨v.y, 0 - v.x, v.w⟩) ⟨hl1.2.1, v1, hl1.2.2⟩ ?_
  intro R2 l2 v2
  exact k R2 (l1.trans l2 (by omega)) v2
theorem rn_foot {p l' : Tr} {u v : T3} (hR : R.length = 128) (hs : s + 18 ≤ 128) (h1 : 1 ≤ M) (hB : qd (qd M) < B) (hp : Tv s M R p u) (hl : Tv s M R l' v)
    (k : ∀ R', Lo s R R' → Tv (s + 18) (qd (qd M)) R' (footR s) (footV u v) → Rn B ins l R' Q) : Rn B ins (footL s p l' ++ l) R Q := by
  unfold footL
  rw [List.append_assoc]
  have hq := qd_le (qd_pos h1)
  refine rn_upr hR (by omega) h1 (by omega) hp hl ?_
  intro R1 l1 v1
  refine rn_cross l1.1 (by omega) hB v1 (hl.lo l1 (s + 9) _ (by omega) (qd_le h1)) ?_
  intro R2 l2 v2
  exact k R2 (l1.trans l2 (by omega)) v2
theorem rn_mir {p l' : Tr} {u v : T3} (hR : R.length = 128) (hs : s + 27 ≤ 128) (h1 : 1 ≤ M) (hB : qd (qd (qd (qd M))) < B) (hp : Tv s M R p u) (hl : Tv s M R l' v)
    (k : ∀ R', Lo s R R' → Tv (s + 27) (qd (qd (qd (qd M)))) R' (mirR s) (mirV u v) → Rn B ins l R' Q) : Rn B ins (mirL s p l' ++ l) R Q := by
  unfold mirL
  simp only [List.append_assoc]
  have q1 := qd_le h1
  have q2 := qd_le (qd_pos h1)
  have q3 := qd_le (qd_pos (qd_pos h1))
  have q4 := qd_le (qd_pos (qd_pos (qd_pos h1)))
  refine rn_foot hR (by omega) h1 (by omega) hp hl ?_
  intro R1 l1 f1
  refine rn_work ((footV u v).x + (footV u v).x) (qd (qd (qd M))) l1.1 (by omega) (by omega) (val_add f1.1.2.1 f1.1.2.1) (f1.1.2.2.dbl (qd_pos (qd_pos h1))) (by omega) ?_
  intro R2 l2 v2
  have f2 := f1.lo l2 (s + 19) _ (by omega) (Nat.le_refl _)
  refine rn_work ((footV u v).y + (footV u v).y) (qd (qd (qd M))) l2.1 (by omega) (by omega) (val_add f2.2.1.2.1 f2.2.1.2.1) (f2.2.1.2.2.dbl (qd_pos (qd_pos h1))) (by omega) ?_
  intro R3 l3 v3
  have f3 := f2.lo l3 (s + 20) (qd (qd (qd M))) (by omega) (by omega)
  have v2' := v2.lo l3 (s + 20) _ (by omega) (Nat.le_refl _)
  have v3' := v3
  have p3 := hp.lo (l1.trans (l2.trans l3 (by omega)) (by omega)) (s + 20) (qd (qd (qd M))) (by omega) (by omega)
  refine rn_prodD l3.1 (by omega) hB v2' p3.2.2 p3.1 f3.2.2 ?_
  intro R4 l4 v4
  have f4 := f3.lo l4 (s + 23) _ (by omega) (Nat.le_refl _)
  have p4 := p3.lo l4 (s + 23) _ (by omega) (Nat.le_refl _)
  refine rn_prodD l4.1 (by omega) hB (v3.lo l4 (s + 23) _ (by omega) (Nat.le_refl _)) p4.2.2 p4.2.1 f4.2.2 ?_
  intro R5 l5 v5
  have f5 := f4.lo l5 (s + 26) _ (by omega) (Nat.le_refl _)
  have p5 := p4.lo l5 (s + 26) _ (by omega) (Nat.le_refl _)
  refine rn_work ((footV u v).w * u.w) (qd (qd (qd (qd M)))) l5.1 (by omega) (by omega) (val_mul f5.2.2.2.1 p5.2.2.2.1) (f5.2.2.2.2.q p5.2.2.2.2) hB ?_
  intro R6 l6 v6
  have l56 := l5.trans l6 (by omega)
  have l46 := l4.trans l56 (by omega)
  exact k R6 (l1.trans (l2.trans (l3.trans l46 (by omega)) (by omega)) (by omega)) ⟨v4.lo l56 (s + 27) _ (by omega) (Nat.le_refl _), v5.lo l6 (s + 27) _ (by omega) (Nat.le_refl _), v6⟩
theorem rn_hal {a b : Tr} {u v : T3} (hR : R.length = 128) (hs : s + 26 ≤ 128) (h1 : 1 ≤ M) (hB : qd (qd M) < B) (ha : Tv s M R a u) (hb : Tv s M R b v)
    (k : ∀ R', Lo s R R' → Tv (s + 26) (qd (qd M)) R' (halR s) (halV u v) → Rn B ins l R' Q) : Rn B ins (halL s a b ++ l) R Q := by
  unfold halL
  simp only [List.append_assoc]
  have q2 := qd_le (qd_pos h1)
  refine rn_mid hR (by omega) (by omega) ha hb ?_
  intro R1 l1 v1
  refine rn_cross l1.1 (by omega) (by omega) (ha.lo l1 (s + 8) M (by omega) (Nat.le_refl _)) (hb.lo l1 (s + 8) M (by omega) (Nat.le_refl _)) ?_
  intro R2 l2 v2
  refine rn_upr l2.1 (by omega) (qd_pos h1) hB (v1.lo l2 (s + 17) _ (by omega) (Nat.le_refl _)) v2 ?_
  intro R3 l3 v3
  exact k R3 (l1.trans (l2.trans l3 (by omega)) (by omega)) v3
theorem rn_cen {a b c : Tr} {u v t : T3} (hR : R.length = 128) (hs : s + 61 ≤ 128) (h1 : 1 ≤ M) (hB : qd (qd (qd M)) < B) (ha : Tv s M R a u) (hb : Tv s M R b v) (hc : Tv s M R c t)
    (k : ∀ R', Lo s R R' → Tv (s + 61) (qd (qd (qd M))) R' (cenR s) (cenV u v t) → Rn B ins l R' Q) : Rn B ins (cenL s a b c ++ l) R Q := by
  unfold cenL
  simp only [List.append_assoc]
  have q3 := qd_le (qd_pos (qd_pos h1))
  refine rn_hal hR (by omega) h1 (by omega) ha hb ?_
  intro R1 l1 v1
  refine rn_hal l1.1 (by omega) h1 (by omega) (ha.lo l1 (s + 26) M (by omega) (Nat.le_refl _)) (hc.lo l1 (s + 26) M (by omega) (Nat.le_refl _)) ?_
  intro R2 l2 v2
  refine rn_cross l2.1 (by omega) hB (v1.lo l2 (s + 52) _ (by omega) (Nat.le_refl _)) v2 ?_
  intro R3 l3 v3
  exact k R3 (l1.trans (l2.trans l3 (by omega)) (by omega)) v3
theorem rn_way {a b : Tr} {u v : T3} (hR : R.length = 128) (hs : s + 7 ≤ 128) (hB : qd M < B) (ha : Tv s M R a u) (hb : Tv s M R b v)
    (k : ∀ R', Lo s R R' → Tv (s + 7) (qd M) R' (wayR s) (wayV u v) → Rn B ins l R' Q) : Rn B ins (wayL s a b ++ l) R Q := by
  unfold wayL
  simp only [List.append_assoc]
  refine rn_prodD hR (by omega) hB hb.1 ha.2.2 ha.1 hb.2.2 ?_
  intro R1 l1 v1
  have ha1 := ha.lo l1 (s + 3) M (by omega) (Nat.le_refl _)
  have hb1 := hb.lo l1 (s + 3) M (by omega) (Nat.le_refl _)
  refine rn_prodD l1.1 (by omega) hB hb1.2.1 ha1.2.2 ha1.2.1 hb1.2.2 ?_
  intro R2 l2 v2
  have ha2 := ha1.lo l2 (s + 6) M (by omega) (Nat.le_refl _)
  have hb2 := hb1.lo l2 (s + 6) M (by omega) (Nat.le_refl _)
  refine rn_work (u.w * v.w) (qd M) l2.1 (by omega) (by omega) (val_mul ha2.2.2.2.1 hb2.2.2.2.1) (ha.2.2.2.2.q hb.2.2.2.2) hB ?_
  intro R3 l3 v3
  have l23 := l2.trans l3 (by omega)
  exact k R3 (l1.trans l23 (by omega)) ⟨v1.lo l23 (s + 7) _ (by omega) (Nat.le_refl _), v2.lo l3 (s + 7) _ (by omega) (Nat.le_refl _), v3⟩
theorem rn_lif {p : Tr} {u : T3} (hR : R.length = 128) (hs : s + 5 ≤ 128) (hB : qd M < B) (hp : Tv s M R p u)
    (k : ∀ R', Lo s R R' → Tv (s + 5) (qd M) R' (lifR s) (lifV u) → Rn B ins l R' Q) : Rn B ins (lifL s p ++ l) R Q := by
  unfold lifL
  rw [List.append_assoc]
  refine rn_work (u.x * u.w) (qd M) hR (by omega) (by omega) (val_mul hp.1.2.1 hp.2.2.2.1) (hp.1.2.2.q hp.2.2.2.2) hB ?_
  intro R1 l1 v1
  have hp1 := hp.lo l1 (s + 1) M (by omega) (Nat.le_refl _)
  refine rn_work (u.y * u.w) (qd M) l1.1 (by omega) (by omega) (val_mul hp1.2.1.2.1 hp1.2.2.2.1) (hp.2.1.2.2.q hp.2.2.2.2) hB ?_
  intro R2 l2 v2
  have hp2 := hp1.lo l2 (s + 2) M (by omega) (Nat.le_refl _)
  refine rn_prodS l2.1 (by omega) hB hp2.1 hp2.1 hp2.2.1 hp2.2.1 ?_
  intro R3 l3 v3
  have l23 := l2.trans l3 (by omega)
  exact k R3 (l1.trans l23 (by omega)) ⟨v1.lo l23 (s + 5) _ (by omega) (Nat.le_refl _), v2.lo l3 (s + 5) _ (by omega) (Nat.le_refl _), v3⟩
theorem rn_btw {a b c : Tr} {u v t : T3} (hR : R.length = 128) (hs : s + 38 ≤ 128) (h1 : 1 ≤ M) (hB : qd (qd (qd M)) < B) (ha : Tv s M R a u) (hb : Tv s M R b v) (hc : Tv s M R c t)
    (k : ∀ R', Lo s R R' → Sv (s + 38) (qd (qd (qd M))) R' (s + 37) (btwV u v t) → Rn B ins l R' Q) : Rn B ins (btwL s a b c ++ l) R Q := by
  unfold btwL
  simp only [List.append_assoc]
  have q1 := qd_le h1
  have q2 := qd_le (qd_pos h1)
  have q3 := qd_le (qd_pos (qd_pos h1))
  refine rn_vol hR (by omega) h1 (by omega) ha hb hc ?_
  intro R1 l1 v1
  refine rn_isn l1.1 (by omega) (by omega) (qd_pos (qd_pos h1)) v1 ?_
  intro R2 l2 v2
  have l12 := l1.trans l2 (by omega)
  have a2 := ha.lo l12 (s + 18) M (by omega) (Nat.le_refl _)
  have b2 := hb.lo l12 (s + 18) M (by omega) (Nat.le_refl _)
  have c2 := hc.lo l12 (s + 18) M (by omega) (Nat.le_refl _)
  refine rn_way l2.1 (by omega) (by omega) b2 a2 ?_
  intro R3 l3 v3
  refine rn_way l3.1 (by omega) (by omega) (b2.lo l3 (s + 25) M (by omega) (Nat.le_refl _)) (c2.lo l3 (s + 25) M (by omega) (Nat.le_refl _)) ?_
  intro R4 l4 v4
  have w3 := v3.lo l4 (s + 32) _ (by omega) (Nat.le_refl _)
  refine rn_prodS l4.1 (by omega) (by omega) w3.1 v4.1 w3.2.1 v4.2.1 ?_
  intro R5 l5 v5
  refine rn_neg l5.1 (by omega) (by omega) v5 ?_
  intro R6 l6 v6
  have l36 := l3.trans (l4.trans (l5.trans l6 (by omega)) (by omega)) (by omega)
  have z2 := v2.lo l36 (s + 37) _ (by omega) (Nat.le_refl _)
  refine rn_work (btwV u v t) (qd (qd (qd M))) l6.1 (by omega) (by omega) (val_mul z2.2.1 v6.2.1) (z2.2.2.q v6.2.2) hB ?_
  intro R7 l7 v7
  exact k R7 (l12.trans (l36.trans l7 (by omega)) (by omega)) v7
theorem rn_rnd {a b c d : Tr} {u v t x : T3} (hR : R.length = 128) (hs : s + 50 ≤ 128) (h1 : 1 ≤ M) (hB : qd (qd (qd (qd M))) < B) (ha : Tv s M R a u) (hb : Tv s M R b v) (hc : Tv s M R c t) (hd : Tv s M R d x)
    (k : ∀ R', Lo s R R' → Sv (s + 50) (qd (qd (qd (qd M)))) R' (s + 49) (rndV u v t x) → Rn B ins l R' Q) : Rn B ins (rndL s a b c d ++ l) R Q := by
  unfold rndL
  simp only [List.append_assoc]
  have q1 := qd_le h1
  have q2 := qd_le (qd_pos h1)
  have q3 := qd_le (qd_pos (qd_pos h1))
  have q4 := qd_le (qd_pos (qd_pos (qd_pos h1)))
  refine rn_way hR (by omega) (by omega) ha hb ?_
  intro R1 l1 v1
  refine rn_way l1.1 (by omega) (by omega) (ha.lo l1 (s + 7) M (by omega) (Nat.le_refl _)) (hc.lo l1 (s + 7) M (by omega) (Nat.le_refl _)) ?_
  intro R2 l2 v2
  have l12 := l1.trans l2 (by omega)
  refine rn_way l2.1 (by omega) (by omega) (ha.lo l12 (s + 14) M (by omega) (Nat.le_refl _)) (hd.lo l12 (s + 14) M (by omega) (Nat.le_refl _)) ?_
  intro R3 l3 v3
  have l23 := l2.trans l3 (by omega)
  refine rn_lif l3.1 (by omega) (by omega) (v1.lo l23 (s + 21) _ (by omega) (Nat.le_refl _)) ?_
  intro R4 l4 v4
  refine rn_lif l4.1 (by omega) (by omega) (v2.lo (l3.trans l4 (by omega)) (s + 26) _ (by omega) (Nat.le_refl _)) ?_
  intro R5 l5 v5
  have l45 := l4.trans l5 (by omega)
  refine rn_lif l5.1 (by omega) (by omega) (v3.lo l45 (s + 31) _ (by omega) (Nat.le_refl _)) ?_
  intro R6 l6 v6
  have l56 := l5.trans l6 (by omega)
  refine rn_vol l6.1 (by omega) (qd_pos (qd_pos h1)) (by omega) (v4.lo l56 (s + 36) _ (by omega) (Nat.le_refl _)) (v5.lo l6 (s + 36) _ (by omega) (Nat.le_refl _)) v6 ?_
  intro R7 l7 v7
  exact k R7 (l12.trans (l3.trans (l45.trans (l6.trans l7 (by omega)) (by omega)) (by omega)) (by omega)) v7
theorem rn_sam {a b : Tr} {u v : T3} (hR : R.length = 128) (hs : s + 10 ≤ 128) (h1 : 1 ≤ M) (hB : qd (qd M) < B) (ha : Tv s M R a u) (hb : Tv s M R b v)
    (k : ∀ R', Lo s R R' → Sv (s + 10) (qd (qd M)) R' (s + 9) (samV u v) → Rn B ins l R' Q) : Rn B ins (samL s a b ++ l) R Q := by
  unfold samL
  rw [List.append_assoc]
  have q2 := qd_le (qd_pos h1)
  refine rn_way hR (by omega) (by omega) ha hb ?_
  intro R1 l1 v1
  refine rn_prodS l1.1 (by omega) hB v1.1 v1.1 v1.2.1 v1.2.1 ?_
  intro R2 l2 v2
  exact k R2 (l1.trans l2 (by omega)) v2
end
end Go.Proofs.YtmnfndpbblpjiaaGreatDoor.Pu

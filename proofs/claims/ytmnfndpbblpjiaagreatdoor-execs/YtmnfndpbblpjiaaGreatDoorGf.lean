/- What the program's reader reads as a number: plain. -/
import Derived.Test.YtmnfndpbblpjiaaGreatDoorPx
import Derived.Test.YtmnfndpbblpjiaaGreatDoorRd1
import Derived.Test.YtmnfndpbblpjiaaGreatDoorRx3
import Derived.Deep.AppendLies
import Derived.Test.YtmnfndpbblpjiaaGreatDoorGe
import Derived.Test.YtmnfndpbblpjiaaGreatDoorRe5
import Derived.Test.YtmnfndpbblpjiaaGreatDoorGs
namespace Go.Proofs.YtmnfndpbblpjiaaGreatDoor.Pu

/-- The number at f, and where it ends. -/
def rdN (s : ByteArray) (f : Nat) : Option (Int × Nat) :=
  if g s f = 48 then some (0, f + 1)
  else if g s f = 45 then
    (if 49 ≤ g s (f + 1) ∧ g s (f + 1) ≤ 57 then
      (if 48 ≤ g s (f + 2) ∧ g s (f + 2) ≤ 57 then some (-((10 * (g s (f + 1) - 48) + (g s (f + 2) - 48) : Nat) : Int), f + 3) else some (-((g s (f + 1) - 48 : Nat) : Int), f + 2))
      else none)
  else if 49 ≤ g s f ∧ g s f ≤ 57 then
    (if 48 ≤ g s (f + 1) ∧ g s (f + 1) ≤ 57 then some (((10 * (g s f - 48) + (g s (f + 1) - 48) : Nat) : Int), f + 2) else some (((g s f - 48 : Nat) : Int), f + 1))
  else none
theorem dec_list (n : Int) : (dec n).data.toList = (if n < 0 then [45] else []) ++ decN n.natAbs := by simp [dec]
theorem ext_get {s : ByteArray} {f e : Nat} {l : List UInt8} (he : e ≤ s.size) (h : s.extract f e = ⟨l.toArray⟩) (hf : f ≤ e) : e = f + l.length ∧ ∀ j (hj : j < l.length), g s (f + j) = l[j].toNat := by
  have hsz : (s.extract f e).size = l.length := by rw [h]; rfl
  rw [ByteArray.size_extract] at hsz
  refine ⟨by omega, fun j hj => ?_⟩
  have hfj : f + j < s.size := by omega
  rw [g_in hfj]
  have h1 : (s.extract f e)[j]'(by rw [ByteArray.size_extract]; omega) = s[f + j] := by
    rw [ByteArray.getElem_extract]
  have h2 : ∀ hh, (⟨l.toArray⟩ : ByteArray)[j]'hh = l[j] := fun _ => rfl
  rw [← h1]
  congr 1
  simp only [h]
  exact h2 _
theorem ofNat_toNat {n : Nat} (h : n < 256) : (UInt8.ofNat n).toNat = n := UInt8.toNat_ofNat_of_lt' (by simpa using h)
theorem decN_get {n : Nat} (h : n ≤ 99) : (n ≤ 9 ∧ decN n = [UInt8.ofNat (48 + n)]) ∨ (9 < n ∧ decN n = [UInt8.ofNat (48 + n / 10), UInt8.ofNat (48 + n % 10)]) := by
  unfold decN
  by_cases h9 : 9 < n
  · exact .inr ⟨h9, by rw [if_pos h9]⟩
  · refine .inl ⟨by omega, ?_⟩
    rw [if_neg h9, Nat.mod_eq_of_lt (by omega)]
theorem rdN_of {s : ByteArray} {f e : Nat} {n : Int} (hf : f ≤ e) (he : e ≤ s.size) (hb : e = s.size ∨ g s e = 44) (h : s.extract f e = dec n) (h1 : -99 ≤ n) (h2 : n ≤ 99) : rdN s f = some (n, e) := by
  have hend : ¬ (48 ≤ g s e ∧ g s e ≤ 57) := by
    rcases hb with hb | hb
    · rw [g_out (by omega)]; omega
    · omega
  by_cases hn : n < 0
  · obtain ⟨m, rfl⟩ : ∃ m : Nat, n = -(m : Int) := ⟨n.natAbs, by omega⟩
    rw [dec_neg m (by omega)] at h
    obtain ⟨hlen, hget⟩ := ext_get he h hf
    rcases decN_get (show m ≤ 99 by omega) with ⟨hm, hd⟩ | ⟨hm, hd⟩
    · rw [hd] at hlen hget
      have g0 : g s f = 45 := by simpa using hget 0 (by simp)
      have g1 : g s (f + 1) = 48 + m := by have := hget 1 (by simp); rw [this]; exact ofNat_toNat (by omega)
      have hl : e = f + 2 := by simpa using hlen
      subst hl
      unfold rdN
      rw [if_neg (by omega), if_pos g0, if_pos (by omega), if_neg hend, g1]
      congr 3
      omega
    · rw [hd] at hlen hget
      have g0 : g s f = 45 := by simpa using hget 0 (by simp)
      have g1 : g s (f + 1) = 48 + m / 10 := by have := hget 1 (by simp); rw [this]; exact ofNat_toNat (by omega)
      have g2 : g s (f + 2) = 48 + m % 10 := by have := hget 2 (by simp); rw [this]; exact ofNat_toNat (by omega)
      have hl : e = f + 3 := by simpa using hlen
      subst hl
      unfold rdN
      rw [if_neg (by omega), if_pos g0, if_pos (by omega), if_pos (by omega), g1, g2]
      congr 3
      omega
  · obtain ⟨m, rfl⟩ : ∃ m : Nat, n = (m : Int) := ⟨n.toNat, by omega⟩
    rw [dec_nat m] at h
    obtain ⟨hlen, hget⟩ := ext_get he h hf
    rcases decN_get (show m ≤ 99 by omega) with ⟨hm, hd⟩ | ⟨hm, hd⟩
    · rw [hd] at hlen hget
      have g0 : g s f = 48 + m := by have := hget 0 (by simp); rw [Nat.add_zero] at this; rw [this]; exact ofNat_toNat (by omega)
      have hl : e = f + 1 := by simpa using hlen
      subst hl
      unfold rdN
      by_cases hz : m = 0
      · subst hz; rw [if_pos (by omega)]; rfl
      · rw [if_neg (by omega), if_neg (by omega), if_pos (by omega), if_neg hend, g0]
        congr 3
        omega
    · rw [hd] at hlen hget
      have g0 : g s f = 48 + m / 10 := by have := hget 0 (by simp); rw [Nat.add_zero] at this; rw [this]; exact ofNat_toNat (by omega)
      have g1 : g s (f + 1) = 48 + m % 10 := by have := hget 1 (by simp); rw [this]; exact ofNat_toNat (by omega)
      have hl : e = f + 2 := by simpa using hlen
      subst hl
      unfold rdN
      rw [if_neg (by omega), if_neg (by omega), if_pos (by omega), if_pos (by omega), g0, g1]
      congr 3
      omega
end Go.Proofs.YtmnfndpbblpjiaaGreatDoor.Pu

/- What the reader has read; the next comma; texts of inputs. -/
namespace Go.Proofs.YtmnfndpbblpjiaaGreatDoor.Pu

theorem ext_mk {s : ByteArray} {f : Nat} {l : List UInt8} (hl : f + l.length ≤ s.size) (h : ∀ j (hj : j < l.length), g s (f + j) = l[j].toNat) : s.extract f (f + l.length) = ⟨l.toArray⟩ := by
  have hsz : (s.extract f (f + l.length)).size = l.length := by rw [ByteArray.size_extract]; omega
  apply ByteArray.ext
  apply Array.ext
  · show (s.extract f (f + l.length)).size = _
    rw [hsz]; simp
  · intro i h1 h2
    have hi : i < l.length := by simpa using h2
    have h3 := h i hi
    rw [g_in (by omega)] at h3
    have h4 : s[f + i]'(by omega) = l[i] := UInt8.toNat_inj.1 h3
    have h5 : (s.extract f (f + l.length))[i]'(by rw [hsz]; exact hi) = s[f + i]'(by omega) := by rw [ByteArray.getElem_extract]
    show (s.extract f (f + l.length))[i]'(by rw [hsz]; exact hi) = _
    rw [h5, h4]; simp
theorem in_of {s : ByteArray} {i : Nat} (h : g s i ≠ 0) : i < s.size := by
  refine Nat.lt_of_not_le fun hh => h (g_out hh)
theorem rdN_dec {s : ByteArray} {f p : Nat} {n : Int} (h : rdN s f = some (n, p)) : f < p ∧ p ≤ s.size ∧ s.extract f p = dec n ∧ -99 ≤ n ∧ n ≤ 99 ∧ ∀ i, f ≤ i → i < p → g s i ≠ 44 := by
  unfold rdN at h
  split at h
  · rename_i h0
    simp at h
    obtain ⟨rfl, rfl⟩ := h
    have hs := in_of (s := s) (i := f) (by omega)
    refine ⟨by omega, by omega, ?_, by omega, by omega, fun i a b => by rw [show i = f by omega]; omega⟩
    refine ext_mk (l := [48]) (by simp; omega) (fun j hj => ?_)
    have : j = 0 := by simpa using hj
    subst this
    simpa using h0
  · split at h
    · rename_i h45
      split at h
      · rename_i h1
        have hs1 := in_of (s := s) (i := f + 1) (by omega)
        split at h
        · rename_i h2
          have hs2 := in_of (s := s) (i := f + 2) (by omega)
          simp only [Option.some.injEq, Prod.mk.injEq] at h
          obtain ⟨rfl, rfl⟩ := h
          generalize hm : 10 * (g s (f + 1) - 48) + (g s (f + 2) - 48) = m
          refine ⟨by omega, by omega, ?_, by omega, by omega, fun i a b => by
            have : i = f ∨ i = f + 1 ∨ i = f + 2 := by omega
            rcases this with rfl | rfl | rfl <;> omega⟩
          rw [dec_neg m (by omega)]
          have hd : decN m = [UInt8.ofNat (48 + m / 10), UInt8.ofNat (48 + m % 10)] := by unfold decN; rw [if_pos (by omega)]
          rw [hd]
          refine ext_mk (l := [45, UInt8.ofNat (48 + m / 10), UInt8.ofNat (48 + m % 10)]) (by simp; omega) (fun j hj => ?_)
          have : j = 0 ∨ j = 1 ∨ j = 2 := by simp at hj; omega
          rcases this with rfl | rfl | rfl
          · simpa using h45
          · show g s (f + 1) = (UInt8.ofNat (48 + m / 10)).toNat
            rw [ofNat_toNat (by omega)]; omega
          · show g s (f + 2) = (UInt8.ofNat (48 + m % 10)).toNat
            rw [ofNat_toNat (by omega)]; omega
        · simp only [Option.some.injEq, Prod.mk.injEq] at h
          obtain ⟨rfl, rfl⟩ := h
          generalize hm : g s (f + 1) - 48 = m
          refine ⟨by omega, by omega, ?_, by omega, by omega, fun i a b => by
            have : i = f ∨ i = f + 1 := by omega
            rcases this with rfl | rfl <;> omega⟩
          rw [dec_neg m (by omega)]
          have hd : decN m = [UInt8.ofNat (48 + m)] := by unfold decN; rw [if_neg (by omega), Nat.mod_eq_of_lt (by omega)]
          rw [hd]
          refine ext_mk (l := [45, UInt8.ofNat (48 + m)]) (by simp; omega) (fun j hj => ?_)
          have : j = 0 ∨ j = 1 := by simp at hj; omega
          rcases this with rfl | rfl
          · simpa using h45
          · show g s (f + 1) = (UInt8.ofNat (48 + m)).toNat
            rw [ofNat_toNat (by omega)]; omega
      · cases h
    · split at h
      · rename_i h1
        have hs1 := in_of (s := s) (i := f) (by omega)
        split at h
        · rename_i h2
          have hs2 := in_of (s := s) (i := f + 1) (by omega)
          simp only [Option.some.injEq, Prod.mk.injEq] at h
          obtain ⟨rfl, rfl⟩ := h
          generalize hm : 10 * (g s f - 48) + (g s (f + 1) - 48) = m
          refine ⟨by omega, by omega, ?_, by omega, by omega, fun i a b => by
            have : i = f ∨ i = f + 1 := by omega
            rcases this with rfl | rfl <;> omega⟩
          rw [dec_nat m]
          have hd : decN m = [UInt8.ofNat (48 + m / 10), UInt8.ofNat (48 + m % 10)] := by unfold decN; rw [if_pos (by omega)]
          rw [hd]
          refine ext_mk (l := [UInt8.ofNat (48 + m / 10), UInt8.ofNat (48 + m % 10)]) (by simp; omega) (fun j hj => ?_)
          have : j = 0 ∨ j = 1 := by simp at hj; omega
          rcases this with rfl | rfl
          · show g s (f + 0) = (UInt8.ofNat (48 + m / 10)).toNat
            rw [ofNat_toNat (by omega), Nat.add_zero]; omega
          · show g s (f + 1) = (UInt8.ofNat (48 + m % 10)).toNat
            rw [ofNat_toNat (by omega)]; omega
        · simp only [Option.some.injEq, Prod.mk.injEq] at h
          obtain ⟨rfl, rfl⟩ := h
          generalize hm : g s f - 48 = m
          refine ⟨by omega, by omega, ?_, by omega, by omega, fun i a b => by rw [show i = f by omega]; omega⟩
          rw [dec_nat m]
          have hd : decN m = [UInt8.ofNat (48 + m)] := by unfold decN; rw [if_neg (by omega), Nat.mod_eq_of_lt (by omega)]
          rw [hd]
          refine ext_mk (l := [UInt8.ofNat (48 + m)]) (by simp; omega) (fun j hj => ?_)
          have : j = 0 := by simpa using hj
          subst this
          show g s (f + 0) = (UInt8.ofNat (48 + m)).toNat
          rw [ofNat_toNat (by omega), Nat.add_zero]; omega
      · cases h
theorem numer_dec {t : ByteArray} {n : Int} (h : numer t = some n) : t = dec n ∧ -99 ≤ n ∧ n ≤ 99 := by
  have hr := numer_range h
  refine ⟨?_, hr⟩
  unfold numer at h
  obtain ⟨i, hi, rfl⟩ := Option.map_eq_some_iff.1 h
  simpa using List.find?_some hi
/-- Where the number ends at a comma or at the end, it is the piece's. -/
theorem numer_at {s : ByteArray} {f p : Nat} {n : Int} (h : rdN s f = some (n, p)) (hb : p = s.size ∨ g s p = 44) : numer (s.extract f p) = some n := by
  obtain ⟨h1, h2, h3, h4, h5, -⟩ := rdN_dec h
  cases hn : numer (s.extract f p) with
  | none =>
    exfalso
    unfold numer at hn
    rw [Option.map_eq_none_iff, List.find?_eq_none] at hn
    have := hn (n + 99).toNat (by simp; omega)
    simp at this
    exact this (by rw [h3]; congr 1; omega)
  | some m =>
    obtain ⟨k1, k2, k3⟩ := numer_dec hn
    have := rdN_of (by omega) h2 hb k1 k2 k3
    rw [h] at this
    simp at this
    rw [this]
theorem next_comma {s : ByteArray} (f : Nat) (hf : f ≤ s.size) : ∃ e, f ≤ e ∧ e ≤ s.size ∧ (e = s.size ∨ g s e = 44) ∧ ∀ i, f ≤ i → i < e → g s i ≠ 44 := by
  obtain ⟨d, hd⟩ : ∃ d, s.size - f = d := ⟨_, rfl⟩
  induction d generalizing f with
  | zero => exact ⟨f, by omega, hf, .inl (by omega), fun i a b => by omega⟩
  | succ d ih =>
    by_cases h : g s f = 44
    · exact ⟨f, by omega, hf, .inr h, fun i a b => by omega⟩
    · obtain ⟨e, h1, h2, h3, h4⟩ := ih (f + 1) (by omega) (by omega)
      refine ⟨e, by omega, h2, h3, fun i a b => ?_⟩
      by_cases e1 : i = f
      · subst e1; exact h
      · exact h4 i (by omega) b
theorem inpSt_stay {s : ByteArray} {f : Nat} {l : List Int} (h : inpSt s f = some (f, l)) : ∀ e, f ≤ e → e ≤ s.size → (∀ i, f ≤ i → i < e → g s i ≠ 44) → inpSt s e = some (f, l) := by
  intro e
  induction e with
  | zero => intro h1 _ _; have : f = 0 := by omega
            subst this; exact h
  | succ e ih =>
    intro h1 h2 h3
    by_cases e1 : f = e + 1
    · subst e1; exact h
    · exact inpSt_on (ih (by omega) (by omega) (fun i a b => h3 i a (by omega))) (by have := h3 e (by omega) (by omega); omega)
/-- A number and a comma. -/
theorem inp_comma {s : ByteArray} {f p : Nat} {n : Int} {l : List Int} (h : inpSt s f = some (f, l)) (hr : rdN s f = some (n, p)) (hc : g s p = 44) : inpSt s (p + 1) = some (p + 1, l ++ [n]) := by
  obtain ⟨h1, h2, -, -, -, h6⟩ := rdN_dec hr
  exact inpSt_num (inpSt_stay h p (by omega) h2 h6) (.inr hc) (numer_at hr (.inr hc))
/-- A number and the end. -/
theorem inp_last {s : ByteArray} {f : Nat} {n : Int} {l : List Int} (h0 : s.size ≠ 0) (h : inpSt s f = some (f, l)) (hr : rdN s f = some (n, s.size)) : inps s = some (l ++ [n]) := by
  obtain ⟨h1, h2, -, -, -, h6⟩ := rdN_dec hr
  exact inps_good h0 (inpSt_num (inpSt_stay h s.size (by omega) h2 h6) (.inl rfl) (numer_at hr (.inl rfl)))
/-- No number, or something behind it. -/
theorem inp_bad {s : ByteArray} {f : Nat} {l : List Int} (h0 : s.size ≠ 0) (hf : f ≤ s.size) (h : inpSt s f = some (f, l)) (hr : ∀ n p, rdN s f = some (n, p) → p ≠ s.size ∧ g s p ≠ 44) : inps s = none := by
  obtain ⟨e, h1, h2, h3, h4⟩ := next_comma f hf
  refine inps_bad h0 h2 (inpSt_stay h e h1 h2 h4) h3 ?_
  cases hn : numer (s.extract f e) with
  | none => rfl
  | some m =>
    exfalso
    obtain ⟨k1, k2, k3⟩ := numer_dec hn
    have := hr m e (rdN_of h1 h2 h3 k1 k2 k3)
    rcases h3 with h3 | h3
    · exact this.1 h3
    · exact this.2 h3
end Go.Proofs.YtmnfndpbblpjiaaGreatDoor.Pu

/- The program's readNumber. -/
namespace Go.Proofs.YtmnfndpbblpjiaaGreatDoor
open Go.RowKit Pu

/-- What readNumber answers. -/
def NumRd (w : World) (rb : Nat) (s : ByteArray) (k : Nat) (e : Ending) (w' : World) : Prop := Mod (fun q => q = rb) w w' ∧
  ((∃ n p, rdN s k = some (n, p) ∧ e = .returned (.tuple #[.int .i64 n, .bool true]) ∧ Rd w' rb s p) ∨ (rdN s k = none ∧ e = .returned (.tuple #[.int .i64 0, .bool false])))

/-- The digits behind the sign. -/
def tailN (s : ByteArray) (k : Nat) (neg : Bool) : Option (Int × Nat) :=
  if 49 ≤ g s k ∧ g s k ≤ 57 then
    (if 48 ≤ g s (k + 1) ∧ g s (k + 1) ≤ 57 then some ((if neg then -((10 * (g s k - 48) + (g s (k + 1) - 48) : Nat) : Int) else ((10 * (g s k - 48) + (g s (k + 1) - 48) : Nat) : Int)), k + 2) else some ((if neg then -((g s k - 48 : Nat) : Int) else ((g s k - 48 : Nat) : Int)), k + 1))
  else none
theorem rdN_zero {s : ByteArray} {k : Nat} (h : g s k = 48) : rdN s k = some (0, k + 1) := by unfold rdN; rw [if_pos h]
theorem rdN_neg {s : ByteArray} {k : Nat} (h : g s k = 45) : rdN s k = tailN s (k + 1) true := by unfold rdN tailN; rw [if_neg (by omega), if_pos h]; simp
theorem rdN_pos {s : ByteArray} {k : Nat} (h : g s k ≠ 48) (h2 : g s k ≠ 45) : rdN s k = tailN s k false := by unfold rdN tailN; rw [if_neg h, if_neg h2]; simp

set_option maxHeartbeats 800000 in
set_option maxRecDepth 4000 in
theorem readnum_any (rb : Nat) (s : ByteArray) (k : Nat) (w : World) (hs : s.size ≤ 300) (hk : k ≤ s.size) (hr : Rd w rb s k) :
    Calls Tryz.prog 108 #[.pointer (some ⟨rb, 0, none⟩)] w (NumRd w rb s k) := by
  by_cases h48 : g s k = 48
  · have HR : Hid _ := rdN_zero h48
    go_enter Tryz.func108, Tryz.ntmps108
    go_wp2_with fail
    refine (take_yes rb s k 48 w hs hk hr (by omega) h48).mono ?_
    rintro e w1 ⟨rfl, hr1, hk1, hm1⟩
    go_wp2_with fail
    go_ret2
    exact ⟨hm1, .inl ⟨0, k + 1, HR.out, rfl, hr1⟩⟩
  · by_cases h45 : g s k = 45
    · have HR : Hid (rdN s k = tailN s (k + 1) true) := rdN_neg h45
      go_enter Tryz.func108, Tryz.ntmps108
      go_wp2_with fail
      refine (take_no rb s k 48 w hs hk hr h48).mono ?_
      rintro e w1 ⟨rfl, hr1, hm1⟩
      go_wp2_with fail
      refine (take_yes rb s k 45 w1 hs hk hr1 (by omega) h45).mono ?_
      rintro e w2 ⟨rfl, hr2, hkk, hm2'⟩
      have hm2 := hm1.trans hm2'
      clear hm1 hm2' hr1 h48 h45
      generalize k + 1 = kk at *
      have hpk := fun (w : World) (j : Nat) (hj : j ≤ s.size) (h : Rd w rb s j) => peek_any rb s j w hs hj h
      go_wp2_with fail
      refine (hpk w2 kk hkk hr2).mono ?_
      rintro e w3 ⟨rfl, n3, rfl⟩
      have hm3 : Mod (fun q => q = rb) w (w2.drewN n3) := hm2.drewN n3
      have hr3 := hr2.drewN n3
      have gl := g_lt s kk
      have gl2 := g_lt s (kk + 1)
      clear hm2 hr2
      generalize w2.drewN n3 = w3 at *
      by_cases ha : 49 ≤ g s kk ∧ g s kk ≤ 57
      · have hkl : kk < s.size := in_of (by omega)
        have q1 : ¬ (g s kk : Int) < 49 := by omega
        have q2 : ¬ (57 : Int) < (g s kk : Int) := by omega
        have t1 := hr3.c1
        have f1 := hr3.f1
        have hr4 := hr3.set (kk + 1)
        have hm4 : Mod (fun q => q = rb) w (w3.setCell ⟨rb, 1, none⟩ (.int .i64 ((kk + 1 : Nat) : Int))) := hm3.setCell ⟨rb, 1, none⟩ _ (fun _ => rfl)
        have e4 : ((kk + 1 : Nat) : Int) = (kk : Int) + 1 := by omega
        rw [e4] at hr4 hm4
        have HX : Hid _ := And.intro hr4 hm4
        have w5 : IntKind.u8.wrap ((g s kk : Int) - 48) = (g s kk : Int) - 48 := by simp [IntKind.wrap, IntKind.signed, IntKind.bits]; omega
        have w6 : IntKind.i64.wrap ((g s kk : Int) - 48) = (g s kk : Int) - 48 := by simp [IntKind.wrap, IntKind.signed, IntKind.bits]; omega
        clear hr4 hm4 e4
        go_wp2_with fail
        obtain ⟨hr4, hm4⟩ := HX.out
        refine (hpk _ (kk + 1) (by omega) hr4).mono ?_
        rintro e w5' ⟨rfl, n5, rfl⟩
        have hm5 := hm4.drewN n5
        have hr5 := hr4.drewN n5
        clear hr4 hm4 HX t1 f1 hr3 hm3
        generalize (w3.setCell ⟨rb, 1, none⟩ (.int .i64 ((kk : Int) + 1))).drewN n5 = w6' at *
        by_cases hb : 48 ≤ g s (kk + 1) ∧ g s (kk + 1) ≤ 57
        · have q3 : (48 : Int) ≤ (g s (kk + 1) : Int) := by omega
          have q4 : (g s (kk + 1) : Int) ≤ 57 := by omega
          have hkl2 : kk + 1 < s.size := in_of (by omega)
          have t1 := hr5.c1
          have f1 := hr5.f1
          have hr7 := hr5.set (kk + 2)
          have hm7 : Mod (fun q => q = rb) w (w6'.setCell ⟨rb, 1, none⟩ (.int .i64 ((kk + 2 : Nat) : Int))) := hm5.setCell ⟨rb, 1, none⟩ _ (fun _ => rfl)
          have e4 : ((kk + 2 : Nat) : Int) = (kk : Int) + 1 + 1 := by omega
          rw [e4] at hr7 hm7
          have HX : Hid _ := And.intro hr7 hm7
          have w7 : IntKind.u8.wrap ((g s (kk + 1) : Int) - 48) = (g s (kk + 1) : Int) - 48 := by simp [IntKind.wrap, IntKind.signed, IntKind.bits]; omega
          have w8 : IntKind.i64.wrap ((g s (kk + 1) : Int) - 48) = (g s (kk + 1) : Int) - 48 := by simp [IntKind.wrap, IntKind.signed, IntKind.bits]; omega
          have HT : Hid (tailN s kk true = some (-((10 : Int) * ((g s kk : Int) - 48) + ((g s (kk + 1) : Int) - 48)), kk + 2)) := show _ = _ by
            unfold tailN; rw [if_pos ha, if_pos hb]; simp; omega
          clear hr7 hm7 hm5 hr5 e4
          go_wp2_with fail
          go_ret2
          exact ⟨HX.out.2, .inl ⟨_, kk + 2, HR.out.trans HT.out, rfl, HX.out.1⟩⟩
        · have HT : Hid (tailN s kk true = some (-((g s kk : Int) - 48), kk + 1)) := show _ = _ by
            unfold tailN; rw [if_pos ha, if_neg hb]; simp; omega
          by_cases hb1 : 48 ≤ g s (kk + 1)
          · have q3 : (48 : Int) ≤ (g s (kk + 1) : Int) := by omega
            have q4 : ¬ (g s (kk + 1) : Int) ≤ 57 := by omega
            go_wp2_with fail
            go_ret2
            exact ⟨hm5, .inl ⟨_, kk + 1, HR.out.trans HT.out, rfl, hr5⟩⟩
          · have q3 : ¬ (48 : Int) ≤ (g s (kk + 1) : Int) := by omega
            go_wp2_with fail
            go_ret2
            exact ⟨hm5, .inl ⟨_, kk + 1, HR.out.trans HT.out, rfl, hr5⟩⟩
      · have HT : Hid (tailN s kk true = none) := show _ = _ by unfold tailN; rw [if_neg ha]
        by_cases ha1 : g s kk < 49
        · have q1 : (g s kk : Int) < 49 := by omega
          go_wp2_with fail
          go_ret2
          exact ⟨hm3, .inr ⟨HR.out.trans HT.out, rfl⟩⟩
        · have q1 : ¬ (g s kk : Int) < 49 := by omega
          have q2 : (57 : Int) < (g s kk : Int) := by omega
          go_wp2_with fail
          go_ret2
          exact ⟨hm3, .inr ⟨HR.out.trans HT.out, rfl⟩⟩
    · have HR : Hid (rdN s k = tailN s k false) := rdN_pos h48 h45
      go_enter Tryz.func108, Tryz.ntmps108
      go_wp2_with fail
      refine (take_no rb s k 48 w hs hk hr h48).mono ?_
      rintro e w1 ⟨rfl, hr1, hm1⟩
      go_wp2_with fail
      refine (take_no rb s k 45 w1 hs hk hr1 h45).mono ?_
      rintro e w2 ⟨rfl, hr2, hm2'⟩
      have hm2 := hm1.trans hm2'
      clear hm1 hm2' hr1 h48 h45
      have hpk := fun (w : World) (j : Nat) (hj : j ≤ s.size) (h : Rd w rb s j) => peek_any rb s j w hs hj h
      go_wp2_with fail
      refine (hpk w2 k hk hr2).mono ?_
      rintro e w3 ⟨rfl, n3, rfl⟩
      have hm3 : Mod (fun q => q = rb) w (w2.drewN n3) := hm2.drewN n3
      have hr3 := hr2.drewN n3
      have gl := g_lt s k
      have gl2 := g_lt s (k + 1)
      clear hm2 hr2
      generalize w2.drewN n3 = w3 at *
      by_cases ha : 49 ≤ g s k ∧ g s k ≤ 57
      · have hkl : k < s.size := in_of (by omega)
        have q1 : ¬ (g s k : Int) < 49 := by omega
        have q2 : ¬ (57 : Int) < (g s k : Int) := by omega
        have t1 := hr3.c1
        have f1 := hr3.f1
        have hr4 := hr3.set (k + 1)
        have hm4 : Mod (fun q => q = rb) w (w3.setCell ⟨rb, 1, none⟩ (.int .i64 ((k + 1 : Nat) : Int))) := hm3.setCell ⟨rb, 1, none⟩ _ (fun _ => rfl)
        have e4 : ((k + 1 : Nat) : Int) = (k : Int) + 1 := by omega
        rw [e4] at hr4 hm4
        have HX : Hid _ := And.intro hr4 hm4
        have w5 : IntKind.u8.wrap ((g s k : Int) - 48) = (g s k : Int) - 48 := by simp [IntKind.wrap, IntKind.signed, IntKind.bits]; omega
        have w6 : IntKind.i64.wrap ((g s k : Int) - 48) = (g s k : Int) - 48 := by simp [IntKind.wrap, IntKind.signed, IntKind.bits]; omega
        clear hr4 hm4 e4
        go_wp2_with fail
        obtain ⟨hr4, hm4⟩ := HX.out
        refine (hpk _ (k + 1) (by omega) hr4).mono ?_
        rintro e w5' ⟨rfl, n5, rfl⟩
        have hm5 := hm4.drewN n5
        have hr5 := hr4.drewN n5
        clear hr4 hm4 HX t1 f1 hr3 hm3
        generalize (w3.setCell ⟨rb, 1, none⟩ (.int .i64 ((k : Int) + 1))).drewN n5 = w6' at *
        by_cases hb : 48 ≤ g s (k + 1) ∧ g s (k + 1) ≤ 57
        · have q3 : (48 : Int) ≤ (g s (k + 1) : Int) := by omega
          have q4 : (g s (k + 1) : Int) ≤ 57 := by omega
          have hkl2 : k + 1 < s.size := in_of (by omega)
          have t1 := hr5.c1
          have f1 := hr5.f1
          have hr7 := hr5.set (k + 2)
          have hm7 : Mod (fun q => q = rb) w (w6'.setCell ⟨rb, 1, none⟩ (.int .i64 ((k + 2 : Nat) : Int))) := hm5.setCell ⟨rb, 1, none⟩ _ (fun _ => rfl)
          have e4 : ((k + 2 : Nat) : Int) = (k : Int) + 1 + 1 := by omega
          rw [e4] at hr7 hm7
          have HX : Hid _ := And.intro hr7 hm7
          have w7 : IntKind.u8.wrap ((g s (k + 1) : Int) - 48) = (g s (k + 1) : Int) - 48 := by simp [IntKind.wrap, IntKind.signed, IntKind.bits]; omega
          have w8 : IntKind.i64.wrap ((g s (k + 1) : Int) - 48) = (g s (k + 1) : Int) - 48 := by simp [IntKind.wrap, IntKind.signed, IntKind.bits]; omega
          have HT : Hid (tailN s k false = some ((10 : Int) * ((g s k : Int) - 48) + ((g s (k + 1) : Int) - 48), k + 2)) := show _ = _ by
            unfold tailN; rw [if_pos ha, if_pos hb]; simp; omega
          clear hr7 hm7 hm5 hr5 e4
          go_wp2_with fail
          go_ret2
          exact ⟨HX.out.2, .inl ⟨_, k + 2, HR.out.trans HT.out, rfl, HX.out.1⟩⟩
        · have HT : Hid (tailN s k false = some ((g s k : Int) - 48, k + 1)) := show _ = _ by
            unfold tailN; rw [if_pos ha, if_neg hb]; simp; omega
          by_cases hb1 : 48 ≤ g s (k + 1)
          · have q3 : (48 : Int) ≤ (g s (k + 1) : Int) := by omega
            have q4 : ¬ (g s (k + 1) : Int) ≤ 57 := by omega
            go_wp2_with fail
            go_ret2
            exact ⟨hm5, .inl ⟨_, k + 1, HR.out.trans HT.out, rfl, hr5⟩⟩
          · have q3 : ¬ (48 : Int) ≤ (g s (k + 1) : Int) := by omega
            go_wp2_with fail
            go_ret2
            exact ⟨hm5, .inl ⟨_, k + 1, HR.out.trans HT.out, rfl, hr5⟩⟩
      · have HT : Hid (tailN s k false = none) := show _ = _ by unfold tailN; rw [if_neg ha]
        by_cases ha1 : g s k < 49
        · have q1 : (g s k : Int) < 49 := by omega
          go_wp2_with fail
          go_ret2
          exact ⟨hm3, .inr ⟨HR.out.trans HT.out, rfl⟩⟩
        · have q1 : ¬ (g s k : Int) < 49 := by omega
          have q2 : (57 : Int) < (g s k : Int) := by omega
          go_wp2_with fail
          go_ret2
          exact ⟨hm3, .inr ⟨HR.out.trans HT.out, rfl⟩⟩
end Go.Proofs.YtmnfndpbblpjiaaGreatDoor

/- The program's parseInputs. -/
namespace Go.Proofs.YtmnfndpbblpjiaaGreatDoor
open Go.RowKit Pu

/-- What has been read: more may follow, or the reading is over. -/
def PI (s : ByteArray) (more : Bool) (f : Nat) (l : List Int) : Prop :=
  (more = true → inpSt s f = some (f, l) ∧ s.size ≠ 0) ∧ (more = false → (f = s.size → inps s = some l) ∧ (f ≠ s.size → inps s = none))
def moreOf : Value → Nat
  | .bool true => 1
  | _ => 0

set_option maxHeartbeats 800000 in
set_option maxRecDepth 4000 in
theorem pinputs_any (s : ByteArray) (w : World) (hs : s.size ≤ 140) : Calls Tryz.prog 63 #[.string s] w (InpEnd w (inps s)) := by
  obtain ⟨i0, hii, hz0, hz1, hz2⟩ := info_parts Tryz.info3
  have hR0 : Rd (w.alloc (.cells #[.string s, .int .i64 0] 138)) w.heap.size s 0 := by unfold Rd; show (w.heap.push _)[w.heap.size]? = _; simp
  have hm0 : Mod (fun _ => False) w (w.alloc (.cells #[.string s, .int .i64 0] 138)) := (Mod.refl _ w).alloc _
  have HH : Hid _ := And.intro hR0 hm0
  clear hR0 hm0
  obtain ⟨mb, hmb, HPI⟩ : ∃ mb : Bool, (!s.toList.isEmpty) = mb ∧ Hid (PI s mb 0 []) := by
    refine ⟨_, rfl, ?_⟩
    by_cases h0 : s.size = 0
    · have : s.toList = [] := by
        have e : s = ⟨#[]⟩ := by apply ByteArray.ext; exact Array.eq_empty_of_size_eq_zero h0
        rw [e, show (⟨#[]⟩ : ByteArray) = ⟨([] : List UInt8).toArray⟩ from rfl, ByteArray.toList_mk]
      rw [this]
      exact ⟨fun h => by simp at h, fun _ => ⟨fun _ => by simp [inps, h0], fun h => absurd h0.symm h⟩⟩
    · have : (!s.toList.isEmpty) = true := by
        simp
        intro h
        obtain ⟨l, rfl⟩ : ∃ l : List UInt8, s = ⟨l.toArray⟩ := ⟨s.data.toList, by simp⟩
        rw [ByteArray.toList_mk] at h
        exact h0 (by rw [h]; rfl)
      rw [this]
      exact ⟨fun _ => ⟨rfl, h0⟩, fun h => by cases h⟩
  go_enter Tryz.func63, Tryz.ntmps63
  go_wp2_with fail
  generalize w.alloc (.cells #[.string s, .int .i64 0] 138) = W at *
  obtain ⟨hR0, hm0⟩ := HH.out
  clear HH
  have hW := hm0.size
  have hWl := hR0.lt
  go_loopw [5, 6] (fun lv mv wr => ∃ (f : Nat) (l : List Int) (more : Bool), mv = .bool more ∧ f ≤ s.size ∧ l.length ≤ f ∧ Rd wr w.heap.size s f ∧ wr.ownsRow (w.heap.size + 1) 3 1 lv l.length (zvs l) ∧ Hid (PI s more f l) ∧ Mod (fun _ => False) w wr) (fun lv mv _ => moreOf mv * (1000 - sliceLen lv))
  case atStart => exact ⟨0, [], mb, rfl, by omega, by simp, hR0, World.ownsRow_nil _ _ _ _, HPI, hm0⟩
  case round =>
    clear hR0 hm0 HPI hmb
    obtain ⟨f, l, more, rfl, hf, hlf, hr, hO, HP, hm⟩ := hrel
    obtain ⟨lo, lcap, rfl, -⟩ := owns_form hO
    have hrl := hr.lt
    cases more with
    | false =>
      obtain ⟨p1, p2⟩ := HP.out.2 rfl
      have c1 := hr.c1
      by_cases he : f = s.size
      · have HI : Hid _ := p1 he
        have q1 : ((f : Int) != (s.size : Int)) = false := by rw [he]; simp
        have hE := owns_base (base' := w.heap.size) hO (by omega)
        clear he p1 p2
        go_wp2_with fail
        go_ret2
        rw [HI.out]
        exact inpEnd_some hm hE
      · have HI : Hid _ := p2 he
        have q1 : ((f : Int) != (s.size : Int)) = true := by simp; omega
        clear he p1 p2
        go_wp2_with fail
        go_ret2
        rw [HI.out]
        exact inpEnd_none hm
    | true =>
      obtain ⟨hst, hs0⟩ := HP.out.1 rfl
      have HST : Hid _ := hst
      clear hst
      go_wp2_with fail
      refine (readnum_any w.heap.size s f wr (by omega) hf hr).mono ?_
      rintro e w2 ⟨hm2, ⟨n, p, hrd, rfl, hr2⟩ | ⟨hrd, rfl⟩⟩
      · obtain ⟨g1, g2, -, g4, g5, -⟩ := rdN_dec hrd
        have hm2w : Mod (fun _ => False) w w2 := ((hm.mono (q := fun q => q = w.heap.size) (fun _ _ f => f.elim)).trans hm2).mono (fun q hq h => by omega)
        have hO2 := owns_mod hO hm2 (fun g h1 h2 => by omega)
        have hrl2 := hr2.lt
        have HRD : Hid _ := hrd
        clear hrd hm hO hm2 hr
        go_wp2_with (at_builtin; refine wpList_append_own _ rfl _ _ 39 rfl (w.heap.size + 1) 3 i0 _ 1 8 Tryz.underlying39 hii hz0 hz1 hz2 rfl (by decide) _ _ _ rfl (hO2.alloc _) ⟨w2.heap.size, 0, none⟩ 1 1 [.int .i64 n] rfl rfl ?c1 ?c2 ?c3 ?c4 ?c5 ?_)
        case c1 => exact World.news_of_block (cs := #[.int .i64 n]) (t := 3) (fr := (0, 0)) (heap_alloc_new w2 _)
        case c2 => simp [Value.oneCell']
        case c3 => unfold maxLen; omega
        case c4 => omega
        case c5 => simp; omega
        intro v' w4 hown4 hgrow _
        have hgm : Mod (fun i => w.heap.size + 1 ≤ i) w2 w4 := ((Mod.refl _ w2).alloc _).grown hgrow (fun i hi _ => (hO2.lt i hi).1)
        have hr4 : Rd w4 w.heap.size s p := hr2.keep hgm (by omega)
        have hm4 : Mod (fun _ => False) w w4 := ⟨hgm.os.trans hm2w.os, hgm.tape.trans hm2w.tape, hgm.output.trans hm2w.output, Nat.le_trans hm2w.size hgm.size, fun i hi _ => (hgm.block i (by omega) (by omega)).trans (hm2w.block i hi (fun f => f))⟩
        have hO4 : w4.ownsRow (w.heap.size + 1) 3 1 v' (l ++ [n]).length (zvs (l ++ [n])) := by
          have : zvs (l ++ [n]) = zvs l ++ [.int .i64 n] := by simp [zvs]
          rw [this]; simpa using hown4
        obtain ⟨lo4, lcap4, rfl, -⟩ := owns_form hO4
        have hln : (l ++ [n]).length = l.length + 1 := by simp
        have HLN : Hid _ := hln
        have hl4 : (l ++ [n]).length ≤ p := by omega
        clear hown4 hgrow hgm hO2 hm2w hr2 hln
        generalize hnl : (l ++ [n]).length = nl at *
        have HNL : Hid ((l ++ [n]).length = nl) := hnl
        clear hnl
        by_cases hc : g s p = 44
        · have HPI2 : Hid (PI s true (p + 1) (l ++ [n])) := ⟨fun _ => ⟨inp_comma HST.out HRD.out hc, hs0⟩, fun h => by cases h⟩
          go_wp2_with fail
          refine (take_yes w.heap.size s p 44 w4 (by omega) g2 hr4 (by omega) hc).mono ?_
          rintro e w5 ⟨rfl, hr5, hk5, hm5⟩
          have hm5w : Mod (fun _ => False) w w5 := ((hm4.mono (q := fun q => q = w.heap.size) (fun _ _ f => f.elim)).trans hm5).mono (fun q hq h => by omega)
          have hO5 := owns_mod hO4 hm5 (fun g h1 h2 => by omega)
          clear hm4 hm5 hO4 hr4 hc
          go_wp2_with fail
          go_roundw
          case rel => exact ⟨p + 1, l ++ [n], true, rfl, hk5, by rw [HNL.out]; omega, hr5, by rw [HNL.out]; exact hO5, HPI2, hm5w⟩
          case measure => have := HLN.out; have := HNL.out; simp [moreOf, sliceLen]; omega
        · have HPI2 : Hid (PI s false p (l ++ [n])) := ⟨fun h => (by cases h), fun _ => ⟨fun he => inp_last hs0 HST.out (by rw [← he]; exact HRD.out), fun hne => inp_bad hs0 hf HST.out (fun n' p' h => by
            have := HRD.out
            rw [h] at this
            simp at this
            rw [this.2]; exact ⟨hne, hc⟩)⟩⟩
          go_wp2_with fail
          refine (take_no w.heap.size s p 44 w4 (by omega) g2 hr4 hc).mono ?_
          rintro e w5 ⟨rfl, hr5, hm5⟩
          have hm5w : Mod (fun _ => False) w w5 := ((hm4.mono (q := fun q => q = w.heap.size) (fun _ _ f => f.elim)).trans hm5).mono (fun q hq h => by omega)
          have hO5 := owns_mod hO4 hm5 (fun g h1 h2 => by omega)
          clear hm4 hm5 hO4 hr4 hc
          go_wp2_with fail
          go_roundw
          case rel => exact ⟨p, l ++ [n], false, rfl, g2, by rw [HNL.out]; omega, hr5, by rw [HNL.out]; exact hO5, HPI2, hm5w⟩
          case measure => simp [moreOf, sliceLen]; omega
      · have HI : Hid (inps s = none) := inp_bad hs0 hf HST.out (fun n p h => by rw [hrd] at h; cases h)
        have hm2w : Mod (fun _ => False) w w2 := ((hm.mono (q := fun q => q = w.heap.size) (fun _ _ f => f.elim)).trans hm2).mono (fun q hq h => by omega)
        clear hrd hm2 hm hO hr
        go_wp2_with fail
        go_ret2
        rw [HI.out]
        exact inpEnd_none hm2w
end Go.Proofs.YtmnfndpbblpjiaaGreatDoor

/- What running a code and running a source have in common: start. -/
namespace Go.Proofs.YtmnfndpbblpjiaaGreatDoor
open Go.RowKit Pu

/-- What start tells of right steps that want n inputs. -/
def stt (B n : Nat) (l : List Stp) (inp : ByteArray) : ByteArray × Nat :=
  match inps inp with
  | none => (⟨#[]⟩, 9)
  | some ins => if ins.length ≠ n then (⟨#[]⟩, 9) else play B ins l (List.replicate 128 0) ⟨#[]⟩
theorem stt_none {B n : Nat} {l : List Stp} {inp : ByteArray} (h : inps inp = none) : stt B n l inp = (⟨#[]⟩, 9) := by unfold stt; rw [h]
theorem stt_count {B n : Nat} {l : List Stp} {inp : ByteArray} {ins : List Int} (h : inps inp = some ins) (k : ¬ ins.length = n) : stt B n l inp = (⟨#[]⟩, 9) := by unfold stt; rw [h]; simp [k]
theorem stt_play {B n : Nat} {l : List Stp} {inp : ByteArray} {ins : List Int} (h : inps inp = some ins) (k : ins.length = n) : stt B n l inp = play B ins l (List.replicate 128 0) ⟨#[]⟩ := by unfold stt; rw [h]; simp [k]
theorem exe_stt {B : Nat} {s inp : ByteArray} (h : vfy s = (0, 0)) : exe B s inp = stt B (g s 3) (steps s) inp := by unfold exe; rw [h]; rfl

set_option maxHeartbeats 800000 in
set_option maxRecDepth 4000 in
theorem start_any (B nn : Nat) (hB : B = 10 ^ nn) (hnn : nn = 8000) (r i : Nat) (v : Value) (l : List Stp) (base : Nat) (inp : ByteArray) (w : World) (hl : l.length ≤ 3000) (hL : PLst w base v l) (hi : inp.size ≤ 140) (h256 : i < 256) (hg : ∀ t ∈ l, Good i t) :
    Calls Tryz.prog 34 #[.agg #[.int .u8 r, .int .u8 i, v], .string inp] w fun e w' => e = .returned (.tuple #[.string (stt B i l inp).1, .int .i64 (stt B i l inp).2]) ∧ Mod (fun _ => False) w w' := by
  obtain ⟨ao, cap, rfl, -⟩ := owns_form hL
  have HB : Hid (B = 10 ^ nn) := hB
  have HNN : Hid (nn = 8000) := hnn
  have HG : Hid (∀ t ∈ l, Good i t) := hg
  have HLen : Hid (l.length ≤ 3000) := hl
  clear hB hnn hg
  have w3 : IntKind.i64.wrap (i : Int) = (i : Int) := by simp [IntKind.wrap, IntKind.signed, IntKind.bits]; omega
  have hpa := heap_alloc_new w (.cells #[.int .u8 r, .int .u8 i, .slice ao l.length cap] 52)
  have hma := (Mod.refl (fun _ => False) w).alloc (.cells #[.int .u8 r, .int .u8 i, .slice ao l.length cap] 52)
  have hLa := PLst.mod hL ((Mod.refl (fun _ => False) w).alloc (.cells #[.int .u8 r, .int .u8 i, .slice ao l.length cap] 52))
  have HH : Hid _ := And.intro hpa (And.intro hma hLa)
  clear hpa hma hLa hL hl
  go_enter Tryz.func34, Tryz.ntmps34
  go_wp2_with fail
  generalize w.alloc (.cells #[.int .u8 r, .int .u8 i, .slice ao l.length cap] 52) = w2 at *
  obtain ⟨hpa, hma, hLa⟩ := HH.out
  clear HH
  refine (pinputs_any inp w2 hi).mono ?_
  rintro e w3 ⟨hm3, he⟩
  have hp3 := hm3.keep hpa (fun f => f)
  have hm3w := hma.trans hm3
  have hL3 := hLa.mod hm3
  obtain ⟨c0, c1, c2⟩ := cells3 hp3
  clear hpa hma hLa hp3
  cases hin : inps inp with
  | none =>
    rw [hin] at he
    simp only at he
    subst he
    have HE : Hid (stt B i l inp = (⟨#[]⟩, 9)) := stt_none hin
    clear hm3 hL3 hin
    go_wp2_with fail
    go_ret2
    exact ⟨by rw [HE.out]; rfl, hm3w⟩
  | some ins =>
    rw [hin] at he
    simp only at he
    obtain ⟨v, rfl, hown⟩ := he
    obtain ⟨vo, vcap, rfl, -⟩ := owns_form hown
    have HR : Hid (∀ x ∈ ins, -100 < x ∧ x < 100) := inps_range hin
    by_cases hl : ins.length = i
    · have HE : Hid (stt B i l inp = play B ins l (List.replicate 128 0) ⟨#[]⟩) := stt_play hin hl
      have hbq : ((ins.length : Int) != (i : Int)) = false := bne_f hl
      have hx := execute_any B nn HB.out HNN.out r i (.slice ao l.length cap) (.slice vo ins.length vcap) l ins _ _ w3 HLen.out hL3 hown (by omega) HR.out (fun t ht => by rw [hl]; exact HG.out t ht)
      clear hl hin hm3 hL3 hown
      go_wp2_with fail
      refine hx.mono ?_
      rintro e w4 ⟨rfl, hm4⟩
      have hmE := hm3w.trans hm4
      clear hx hm4 hm3w
      go_wp2_with fail
      go_ret2
      exact ⟨by rw [HE.out]; rfl, hmE⟩
    · have HE : Hid (stt B i l inp = (⟨#[]⟩, 9)) := stt_count hin hl
      have hbq : ((ins.length : Int) != (i : Int)) = true := bne_t hl
      clear hl hin hm3 hL3 hown
      go_wp2_with fail
      go_ret2
      exact ⟨by rw [HE.out]; rfl, hm3w⟩
end Go.Proofs.YtmnfndpbblpjiaaGreatDoor

/- The program's Exec, and a step that asks for it. -/
namespace Go.Proofs.YtmnfndpbblpjiaaGreatDoor
open Go.RowKit Pu

set_option maxHeartbeats 400000 in
theorem exec_long (s inp : ByteArray) (w : World) (hs : 8006 < s.size ∨ 140 < inp.size) (hm : s.size ≤ maxLen) (hm2 : inp.size ≤ maxLen) : Calls Tryz.prog 23 #[.string s, .string inp] w fun e w' => e = .returned (.tuple #[.string ⟨#[]⟩, .int .i64 1]) ∧ w = w' := by
  unfold maxLen at hm hm2
  by_cases h1 : 8006 < s.size
  · have i1 : (8006 : Int) < (s.size : Int) := by omega
    clear hs
    go_enter Tryz.func23, Tryz.ntmps23
    go_wp2_with fail
    go_ret2
    exact ⟨rfl, rfl⟩
  · have i1 : ¬ (8006 : Int) < (s.size : Int) := by omega
    have i2 : (140 : Int) < (inp.size : Int) := by omega
    clear hs
    go_enter Tryz.func23, Tryz.ntmps23
    go_wp2_with fail
    go_ret2
    exact ⟨rfl, rfl⟩

set_option maxHeartbeats 800000 in
set_option maxRecDepth 4000 in
theorem exec_any (B nn : Nat) (hB : B = 10 ^ nn) (hnn : nn = 8000) (s inp : ByteArray) (w : World) (hs : s.size ≤ 8006) (hi : inp.size ≤ 140) : Calls Tryz.prog 23 #[.string s, .string inp] w fun e w' => e = .returned (.tuple #[.string (exe B s inp).1, .int .i64 (exe B s inp).2]) ∧ Mod (fun _ => False) w w' := by
  have i1 : ¬ (8006 : Int) < (s.size : Int) := by omega
  have i2 : ¬ (140 : Int) < (inp.size : Int) := by omega
  have HB : Hid (B = 10 ^ nn) := hB
  have HNN : Hid (nn = 8000) := hnn
  clear hB hnn
  rcases vfy_or s with hv | ⟨hv, hbg⟩
  · have HE : Hid (exe B s inp = (⟨#[]⟩, 8)) := exe_bad hv
    have HV : Hid ((vfy s).1 = 8) := hv
    clear hv
    generalize exe B s inp = ex at *
    go_enter Tryz.func23, Tryz.ntmps23
    go_wp2_with fail
    refine (dec_any s w hs).mono ?_
    rintro e w1 ⟨⟨a, b, ao, n, cap, he, -⟩, hm1⟩
    rw [HV.out] at he
    generalize (vfy s).2 = v2 at *
    subst he
    have hm := hm1.alloc (.cells #[.int .u8 a, .int .u8 b, .slice ao n cap] 52)
    go_wp2_with fail
    go_ret2
    exact ⟨by rw [HE.out]; rfl, hm⟩
  · have HV : Hid (vfy s = (0, 0)) := hv
    have hn2 : nst s ≤ 2000 := (nst_of hbg).2.2.1
    have hr2 : g s 2 ≤ 128 := (nst_of hbg).2.2.2.2.2.1
    have HLen : Hid ((steps s).length = nst s) := stepsTo_len s _
    have HG : Hid (∀ t ∈ steps s, Good (g s 3) t) := fun t ht => by
      obtain ⟨j, hj, rfl⟩ := List.getElem_of_mem ht
      rw [steps_at]
      exact right_good (stepAt_small s j) hr2 ((vfy_right HV.out).2 j (by rw [steps, stepsTo_len] at hj; exact hj))
    have l3 := g_lt s 3
    have w3 : IntKind.i64.wrap (g s 3 : Int) = (g s 3 : Int) := by simp [IntKind.wrap, IntKind.signed, IntKind.bits]; omega
    clear hv hbg hr2
    go_enter Tryz.func23, Tryz.ntmps23
    go_wp2_with fail
    refine (dec_any s w hs).mono ?_
    rintro e w1 ⟨⟨a, b, ao, n, cap, he, hok⟩, hm1⟩
    rw [HV.out] at he hok
    subst he
    obtain ⟨rfl, rfl, -, -, hL⟩ := hok rfl
    clear hok
    have hpa := heap_alloc_new w1 (.cells #[.int .u8 (g s 2), .int .u8 (g s 3), .slice ao n cap] 52)
    have hma := hm1.alloc (.cells #[.int .u8 (g s 2), .int .u8 (g s 3), .slice ao n cap] 52)
    have hLa := hL.mod ((Mod.refl (fun _ => False) w1).alloc (.cells #[.int .u8 (g s 2), .int .u8 (g s 3), .slice ao n cap] 52))
    obtain ⟨c0, c1, c2⟩ := cells3 hpa
    have HH : Hid _ := And.intro hpa (And.intro hma hLa)
    clear hpa hma hLa hL hm1
    go_wp2_with fail
    generalize w1.alloc (.cells #[.int .u8 (g s 2), .int .u8 (g s 3), .slice ao n cap] 52) = w2 at *
    obtain ⟨hpa, hma, hLa⟩ := HH.out
    clear HH
    refine (start_any B nn HB.out HNN.out (g s 2) (g s 3) (.slice ao n cap) (steps s) _ inp w2 (by rw [HLen.out]; omega) hLa hi l3 HG.out).mono ?_
    rintro e w3 ⟨rfl, hm3⟩
    have HE : Hid (exe B s inp = stt B (g s 3) (steps s) inp) := exe_stt HV.out
    have hmE := hma.trans hm3
    generalize stt B (g s 3) (steps s) inp = st at *
    clear hpa hma hLa hm3
    go_wp2_with fail
    go_ret2
    exact ⟨by rw [HE.out]; rfl, hmE⟩

set_option maxHeartbeats 800000 in
set_option maxRecDepth 100000 in
theorem plays_exec : Plays 4 4 := by
  intro kd n a b w h1 h2 ha hb hn
  obtain rfl : kd = 4 := by omega
  have hm0 : Mod (fun _ => False) w (w.alloc (.cells #[.int .i64 4, .int .i64 n, .string a, .string b] 32)) := (Mod.refl _ w).alloc _
  have hO := ope_new w 4 n a b
  clear h1 h2 hn
  obtain ⟨nn, hnn⟩ : ∃ nn : Nat, nn = 8000 := ⟨8000, rfl⟩
  obtain ⟨B, hB⟩ : ∃ B : Nat, B = 10 ^ nn := ⟨_, rfl⟩
  by_cases hs : a.size ≤ 8006 ∧ b.size ≤ 140
  · have hex := fun w => exec_any B nn hB hnn a b w hs.1 hs.2
    have hrx := fun w => rexec_any B nn hB hnn a b w hs.1 hs.2
    generalize exe B a b = ex at *
    clear hB hnn hs
    go_enter Tryz.func18, Tryz.ntmps18
    go_wp2_with fail
    refine (hex _).mono ?_
    rintro e w1 ⟨rfl, hm1⟩
    have hO1 := hO.keep hm1 (fun f => f)
    have c2 := hO1.c2
    have c3 := hO1.c3
    go_wp2_with fail
    refine (hrx _).mono ?_
    rintro e w2 ⟨rfl, hm2⟩
    have hm := hm0.trans (hm1.trans hm2)
    clear hm0 hm1 hm2 c2 c3 hO1 hO hex hrx
    go_wp2_with (go_at_call 25; refine (num_any _ _).mono ?_; rintro e w' ⟨rfl, rfl⟩)
    go_ret
    exact ⟨rfl, hm⟩
  · clear hB hnn
    have hs' : 8006 < a.size ∨ 140 < b.size := by omega
    clear hs
    have hex := fun w => exec_long a b w hs' ha hb
    have hrx := fun w => rexec_long a b w hs' ha hb
    clear hs'
    go_enter Tryz.func18, Tryz.ntmps18
    go_wp2_with fail
    refine (hex _).mono ?_
    rintro e w1 ⟨rfl, rfl⟩
    have c2 := hO.c2
    have c3 := hO.c3
    go_wp2_with fail
    refine (hrx _).mono ?_
    rintro e w2 ⟨rfl, rfl⟩
    clear c2 c3 hO hex hrx
    go_wp2_with (go_at_call 25; refine (num_any _ _).mono ?_; rintro e w' ⟨rfl, rfl⟩)
    go_ret
    exact ⟨rfl, hm0⟩

set_option maxHeartbeats 400000 in
theorem execs_walk (v : Value) (w : World) (hS : Scr w v) : Calls Tryz.prog 6 #[v] w fun e w' => e = .returned (.bool true) ∧ Mod (fun _ => False) w w' := by
  have HS : Hid (Scr w v) := hS
  clear hS
  go_enter Tryz.func6, Tryz.ntmps6
  go_wp2_with fail
  refine (upto_any v 4 4 w HS.out plays_exec).mono ?_
  rintro e w1 ⟨rfl, hm1⟩
  go_wp2_with fail
  go_ret
  exact ⟨rfl, hm1⟩
end Go.Proofs.YtmnfndpbblpjiaaGreatDoor

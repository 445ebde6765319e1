/- Codes: the steps that are kept, and the bytes of a code. -/
import Derived.Test.YtmnfndpbblpjiabGreatDoorZb04
import Derived.Test.YtmnfndpbblpjiabGreatDoorZb02
import Derived.Test.YtmnfndpbblpjiabGreatDoorZb01
namespace Go.Proofs.YtmnfndpbblpjiabGreatDoor.Pu

def stB (t : Stp) : List UInt8 := [UInt8.ofNat t.op, UInt8.ofNat t.x, UInt8.ofNat t.y, UInt8.ofNat t.z]
def keepTo (l : List Stp) (nd : List Bool) : Nat → List Stp
  | 0 => []
  | k + 1 => if nd[k]?.getD false then keepTo l nd k ++ [l[k]?.getD ⟨0, 0, 0, 0⟩] else keepTo l nd k
theorem keepTo_yes {l : List Stp} {nd : List Bool} {k : Nat} (h : k < nd.length) (hl : k < l.length) (hb : nd[k] = true) : keepTo l nd (k + 1) = keepTo l nd k ++ [l[k]] := by simp [keepTo, h, hb, hl]
theorem keepTo_no {l : List Stp} {nd : List Bool} {k : Nat} (h : k < nd.length) (hb : nd[k] = false) : keepTo l nd (k + 1) = keepTo l nd k := by simp [keepTo, h, hb]
theorem keepTo_len (l : List Stp) (nd : List Bool) (k : Nat) : (keepTo l nd k).length = cntTo nd k := by
  induction k with
  | zero => rfl
  | succ k ih => simp only [keepTo, cntTo]; split <;> simp [ih]
theorem keepTo_mem {l : List Stp} {nd : List Bool} {k : Nat} (hk : k ≤ l.length) : ∀ t ∈ keepTo l nd k, t ∈ l := by
  induction k with
  | zero => intro t ht; cases ht
  | succ k ih =>
    intro t ht
    have hl : k < l.length := by omega
    simp only [keepTo] at ht
    split at ht
    · rcases List.mem_append.1 ht with ht | ht
      · exact ih (by omega) t ht
      · simp [hl] at ht; subst ht; exact List.getElem_mem hl
    · exact ih (by omega) t ht
def joined (r i : Nat) (q : List Stp) : List UInt8 := [82, 85, UInt8.ofNat r, UInt8.ofNat i, UInt8.ofNat (q.length % 256), UInt8.ofNat (q.length / 256)] ++ q.flatMap stB
theorem ext4 {s : ByteArray} {a : Nat} (h : a + 4 ≤ s.size) : s.extract a (a + 4) = ⟨[UInt8.ofNat (g s a), UInt8.ofNat (g s (a + 1)), UInt8.ofNat (g s (a + 2)), UInt8.ofNat (g s (a + 3))].toArray⟩ := by
  have h0 : a < s.size := by omega
  have h1 : a + 1 < s.size := by omega
  have h2 : a + 2 < s.size := by omega
  have h3 : a + 3 < s.size := by omega
  rw [g_in h0, g_in h1, g_in h2, g_in h3]
  simp only [UInt8.ofNat_toNat]
  apply ByteArray.ext
  rw [ByteArray.data_extract]
  apply Array.ext
  · have : s.data.size = s.size := rfl
    simp; omega
  · intro i h1' h2'
    have hi : i < 4 := by simpa using h2'
    match i, hi with
    | 0, _ => simp; rfl
    | 1, _ => simp; rfl
    | 2, _ => simp; rfl
    | 3, _ => simp; rfl
theorem app_bytes (x y : List UInt8) : (⟨x.toArray⟩ : ByteArray) ++ (⟨y.toArray⟩ : ByteArray) = ⟨(x ++ y).toArray⟩ := by
  apply ByteArray.ext
  rw [ByteArray.data_append]
  simp
theorem body_bytes {s : ByteArray} (nd : List Bool) (hs : s.size = 6 + 4 * nst s) : ∀ k, k ≤ nst s → bodyTo s nd k = ⟨((keepTo (steps s) nd k).flatMap stB).toArray⟩ := by
  intro k
  induction k with
  | zero => intro _; rfl
  | succ k ih =>
    intro hk
    have hl : k < (steps s).length := by rw [steps, stepsTo_len]; omega
    simp only [bodyTo, keepTo]
    split
    · rw [ih (by omega), show 10 + 4 * k = (6 + 4 * k) + 4 by omega, ext4 (by omega), app_bytes]
      congr 2
      simp [hl, steps_at, stepAt, stB]
    · exact ih (by omega)
theorem shr_joined {s : ByteArray} (hb : begunB s = true) : shr s = ⟨(joined (g s 2) (g s 3) (keepTo (steps s) (neededL (steps s)) (nst s))).toArray⟩ := by
  obtain ⟨h6, -, -, hs, -, -, -⟩ := nst_of hb
  have h0 : g s 0 = 82 ∧ g s 1 = 85 := by simp [begunB] at hb; omega
  unfold shr joined
  rw [body_bytes _ hs _ (Nat.le_refl _), show s.extract 0 4 = s.extract 0 (0 + 4) by rfl, ext4 (by omega), keepTo_len, h0.1, show g s (0 + 1) = 85 from h0.2]
  rw [show (⟨#[UInt8.ofNat (cntTo (neededL (steps s)) (nst s) % 256), UInt8.ofNat (cntTo (neededL (steps s)) (nst s) / 256)]⟩ : ByteArray) = ⟨[UInt8.ofNat (cntTo (neededL (steps s)) (nst s) % 256), UInt8.ofNat (cntTo (neededL (steps s)) (nst s) / 256)].toArray⟩ by rfl, app_bytes, app_bytes]
  rfl
end Go.Proofs.YtmnfndpbblpjiabGreatDoor.Pu

/- rulerkeep's small helpers. -/
namespace Go.Proofs.YtmnfndpbblpjiabGreatDoor
open Go.RowKit Pu

/-- The number that a raw one picks. -/
def pk (c n : Int) : Int := (if c < 0 then -(c + 1) else c) % n
def plc (c : Int) : Int := pk c 199 - 99
theorem pk_range (c n : Int) (h : 0 < n) : 0 ≤ pk c n ∧ pk c n < n := ⟨Int.emod_nonneg _ (by omega), Int.emod_lt_of_pos _ h⟩
theorem plc_range (c : Int) : -99 ≤ plc c ∧ plc c ≤ 99 := by
  have := pk_range c 199 (by omega)
  unfold plc
  omega
def isI (c : Int) : Prop := -9223372036854775808 ≤ c ∧ c ≤ 9223372036854775807
set_option maxHeartbeats 400000 in
theorem kpick_any (c n : Int) (w : World) (hc : isI c) (hn : 0 < n) (hn2 : n < 1000) : Calls Tryz.prog 19 #[.int .i64 c, .int .i64 n] w fun e w' => e = .returned (.int .i64 (pk c n)) ∧ w = w' := by
  obtain ⟨c1, c2⟩ := hc
  have hne : (n == 0) = false := by rw [beq_eq_false_iff_ne]; omega
  have hn0 : n ≠ 0 := by omega
  by_cases h : c < 0
  · have HP : Hid (pk c n = (-(c + 1)) % n) := show pk c n = _ by unfold pk; rw [if_pos h]
    have w1 : IntKind.i64.wrap (c + 1) = c + 1 := by simp [IntKind.wrap, IntKind.signed, IntKind.bits]; omega
    have w2 : IntKind.i64.wrap (-(c + 1)) = -(c + 1) := by simp [IntKind.wrap, IntKind.signed, IntKind.bits]; omega
    have hb := Int.emod_nonneg (-(c + 1)) hn0
    have hb2 := Int.emod_lt_of_pos (-(c + 1)) hn
    have ht : (-(c + 1)).tmod n = (-(c + 1)) % n := Int.tmod_eq_emod_of_nonneg (by omega)
    have w3 : IntKind.i64.wrap ((-(c + 1)).tmod n) = (-(c + 1)) % n := by rw [ht]; simp [IntKind.wrap, IntKind.signed, IntKind.bits]; omega
    go_enter Tryz.func19, Tryz.ntmps19
    go_wp2_with fail
    go_ret
    exact ⟨by rw [HP.out]; rfl, rfl⟩
  · have HP : Hid (pk c n = c % n) := show pk c n = _ by unfold pk; rw [if_neg h]
    have hb := Int.emod_nonneg c hn0
    have hb2 := Int.emod_lt_of_pos c hn
    have ht : c.tmod n = c % n := Int.tmod_eq_emod_of_nonneg (by omega)
    have w3 : IntKind.i64.wrap (c.tmod n) = c % n := by rw [ht]; simp [IntKind.wrap, IntKind.signed, IntKind.bits]; omega
    go_enter Tryz.func19, Tryz.ntmps19
    go_wp2_with fail
    go_ret
    exact ⟨by rw [HP.out]; rfl, rfl⟩
set_option maxHeartbeats 400000 in
theorem kplace_any (c : Int) (w : World) (hc : isI c) : Calls Tryz.prog 21 #[.int .i64 c] w fun e w' => e = .returned (.int .i64 (plc c)) ∧ w = w' := by
  have hp := kpick_any c 199 w hc (by omega) (by omega)
  have hr := pk_range c 199 (by omega)
  have HP : Hid (plc c = pk c 199 - 99) := rfl
  generalize pk c 199 = p at *
  have w1 : IntKind.i64.wrap (p - 99) = p - 99 := by simp [IntKind.wrap, IntKind.signed, IntKind.bits]; omega
  go_enter Tryz.func21, Tryz.ntmps21
  go_wp2_with fail
  refine hp.mono ?_
  rintro e w1 ⟨rfl, rfl⟩
  clear hp
  go_wp2_with fail
  go_ret
  exact ⟨by rw [HP.out]; rfl, rfl⟩
set_option maxHeartbeats 800000 in
theorem joined_any (v : Value) (l : List Int) (base : Nat) (w : World) (hl : l.length ≤ 34) (hI : w.ownsRow base 3 1 v l.length (zvs l)) (hr : ∀ x ∈ l, -99 ≤ x ∧ x ≤ 99) (hT : Tab w) :
    Calls Tryz.prog 27 #[v] w fun e w' => e = .returned (.string (jnL l)) ∧ Mod (fun _ => False) w w' := by
  obtain ⟨ao, cap, rfl, -⟩ := owns_form hI
  have HR : Hid (∀ x ∈ l, -99 ≤ x ∧ x ≤ 99) := hr
  have HT : Hid (Tab w) := hT
  clear hr hT
  go_enter Tryz.func27, Tryz.ntmps27
  go_wp2_with fail
  go_loopw [3, 4] (fun sv iv wr => ∃ (k : Nat) (sk : ByteArray), k ≤ l.length ∧ iv = .int .i64 k ∧ sv = .string sk ∧ Hid (sk = ⟨(jnT l k).toArray⟩) ∧ sk.size ≤ 4 * k ∧ Mod (fun _ => False) w wr) (fun _ iv _ => l.length - (intOf iv).toNat)
  case atStart => exact ⟨0, ⟨#[]⟩, by omega, rfl, rfl, rfl, Nat.le_refl _, Mod.refl _ _⟩
  case round =>
    obtain ⟨k, sk, hk, rfl, rfl, HS, hsz, hm⟩ := hrel
    by_cases hlt : k < l.length
    · have hIr := owns_mod hI hm (fun _ _ f => f)
      obtain ⟨gb, rfl, ck⟩ := zvs_cell hIr rfl hlt
      have hx := HR.out l[k] (List.getElem_mem hlt)
      have HX : Hid (l[k]?.getD 0 = l[k]) := show l[k]?.getD 0 = l[k] by simp [hlt]
      have hds := dec_size l[k]
      have HT' : Hid _ := HT.out.mod hm
      have HN : Hid (∀ b : Bool, (b = true ↔ 0 < k) → sk ++ (if b then ⟨#[44]⟩ else ⟨#[]⟩) ++ dec l[k] = ⟨(jnT l (k + 1)).toArray⟩) := fun b hb => by
        rw [HS.out, jnT, HX.out, dec_B]
        cases b
        · rw [if_neg (by decide), if_neg (fun e => by have := hb.2 e; cases this)]
          exact (congrArg (· ++ _) (app_bytes _ [])).trans (app_bytes _ _)
        · rw [if_pos rfl, if_pos (hb.1 rfl)]
          exact (congrArg (· ++ _) (app_bytes _ [44])).trans (app_bytes _ _)
      generalize l[k] = x at *
      by_cases h0 : 0 < k
      · have HN2 := HN.out true (by simpa using h0)
        simp only [if_true] at HN2
        have HN2 : Hid (sk ++ ⟨#[44]⟩ ++ dec x = ⟨(jnT l (k + 1)).toArray⟩) := HN2
        have hit := itoaN_any x hx.1 hx.2 wr HT'.out
        clear HN HS
        go_wp2_with (go_at_call 36; refine hit.mono ?_; rintro e w2 ⟨rfl, k2⟩)
        go_roundw
        case rel => exact ⟨k + 1, _, by omega, by go_num, rfl, rfl, by rw [ba_size]; exact jnT_len l (k + 1), hm.trans k2⟩
        case measure => simp [intOf]; omega
      · have HN2 := HN.out false (by simpa using h0)
        simp only [Bool.false_eq_true, if_false] at HN2
        have HN2 : Hid (sk ++ dec x = ⟨(jnT l (k + 1)).toArray⟩) := by
          have e : sk ++ (⟨#[]⟩ : ByteArray) = sk := by apply ba_ext; simp
          rwa [e] at HN2
        have hit := itoaN_any x hx.1 hx.2 wr HT'.out
        clear HN HS
        go_wp2_with (go_at_call 36; refine hit.mono ?_; rintro e w2 ⟨rfl, k2⟩)
        go_roundw
        case rel => exact ⟨k + 1, _, by omega, by go_num, rfl, HN2, by rw [HN2.out, ba_size]; exact jnT_len l (k + 1), hm.trans k2⟩
        case measure => simp [intOf]; omega
    · have hks : k = l.length := by omega
      subst hks
      go_wp2_with fail
      go_ret
      exact ⟨by rw [HS.out]; rfl, hm⟩
end Go.Proofs.YtmnfndpbblpjiabGreatDoor

/- Words, sorts, weights, faults: plain functions. -/
namespace Go.Proofs.YtmnfndpbblpjiabGreatDoor.Pu

/-- A word's arguments and what it gives (80 a point, 76 a line, 63 an answer, 0: there is none). -/
def fm (w : List UInt8) : List UInt8 × Nat :=
  if w == [112, 116] then ([], 80) else
  if w == [109, 105, 100] then ([80, 80], 80) else
  if w == [108, 105, 110, 101] then ([80, 80], 76) else
  if w == [112, 97, 114] then ([80, 76], 76) else
  if w == [112, 101, 114, 112] then ([80, 76], 76) else
  if w == [109, 101, 101, 116] then ([76, 76], 80) else
  if w == [102, 111, 111, 116] then ([80, 76], 80) else
  if w == [109, 105, 114, 114, 111, 114] then ([80, 76], 80) else
  if w == [99, 101, 110, 116, 114, 101] then ([80, 80, 80], 80) else
  if w == [115, 97, 109, 101] then ([80, 80], 63) else
  if w == [99, 111, 108] then ([80, 80, 80], 63) else
  if w == [99, 99, 119] then ([80, 80, 80], 63) else
  if w == [98, 116, 119] then ([80, 80, 80], 63) else
  if w == [99, 111, 110] then ([80, 80, 80, 80], 63) else
  if w == [111, 110] then ([80, 76], 63) else
  if w == [112, 108, 108] then ([76, 76], 63) else
  if w == [112, 114, 112] then ([76, 76], 63) else
  if w == [99, 99] then ([76, 76, 76], 63) else ([], 0)
def qT (w : List UInt8) : List UInt8 × Bool :=
  if w == [115, 97, 109, 101] then ([80, 80], true) else
  if w == [99, 111, 108] then ([80, 80, 80], true) else
  if w == [99, 99, 119] then ([80, 80, 80], true) else
  if w == [98, 116, 119] then ([80, 80, 80], true) else
  if w == [99, 111, 110] then ([80, 80, 80, 80], true) else
  if w == [111, 110] then ([80, 76], true) else
  if w == [112, 108, 108] then ([76, 76], true) else
  if w == [112, 114, 112] then ([76, 76], true) else
  if w == [99, 99] then ([76, 76, 76], true) else ([], false)
def cT (w : List UInt8) : List UInt8 × Bool :=
  if w == [112, 116] then ([], true) else
  if w == [109, 105, 100] then ([80, 80], true) else
  if w == [108, 105, 110, 101] then ([80, 80], true) else
  if w == [112, 97, 114] then ([80, 76], true) else
  if w == [112, 101, 114, 112] then ([80, 76], true) else
  if w == [109, 101, 101, 116] then ([76, 76], true) else
  if w == [102, 111, 111, 116] then ([80, 76], true) else
  if w == [109, 105, 114, 114, 111, 114] then ([80, 76], true) else
  if w == [99, 101, 110, 116, 114, 101] then ([80, 80, 80], true) else ([], false)
def sG (w : List UInt8) : Nat :=
  if w == [108, 105, 110, 101] then 76 else if w == [112, 97, 114] then 76 else if w == [112, 101, 114, 112] then 76 else 80
def wG (w : List UInt8) (sum last : Nat) : Nat :=
  if w == [112, 116] then 1 else if w == [102, 111, 111, 116] then sum + last else if w == [109, 105, 114, 114, 111, 114] then 2 * sum else if w == [99, 101, 110, 116, 114, 101] then 4 * sum else sum

theorem qT_fm (w : List UInt8) : ((qT w).2 = true ↔ (fm w).2 = 63) ∧ ((qT w).2 = true → (qT w).1 = (fm w).1) := by
  by_cases h0 : w = [112, 116]
  · subst h0; first | decide | (intros; decide)
  by_cases h1 : w = [109, 105, 100]
  · subst h1; first | decide | (intros; decide)
  by_cases h2 : w = [108, 105, 110, 101]
  · subst h2; first | decide | (intros; decide)
  by_cases h3 : w = [112, 97, 114]
  · subst h3; first | decide | (intros; decide)
  by_cases h4 : w = [112, 101, 114, 112]
  · subst h4; first | decide | (intros; decide)
  by_cases h5 : w = [109, 101, 101, 116]
  · subst h5; first | decide | (intros; decide)
  by_cases h6 : w = [102, 111, 111, 116]
  · subst h6; first | decide | (intros; decide)
  by_cases h7 : w = [109, 105, 114, 114, 111, 114]
  · subst h7; first | decide | (intros; decide)
  by_cases h8 : w = [99, 101, 110, 116, 114, 101]
  · subst h8; first | decide | (intros; decide)
  by_cases h9 : w = [115, 97, 109, 101]
  · subst h9; first | decide | (intros; decide)
  by_cases h10 : w = [99, 111, 108]
  · subst h10; first | decide | (intros; decide)
  by_cases h11 : w = [99, 99, 119]
  · subst h11; first | decide | (intros; decide)
  by_cases h12 : w = [98, 116, 119]
  · subst h12; first | decide | (intros; decide)
  by_cases h13 : w = [99, 111, 110]
  · subst h13; first | decide | (intros; decide)
  by_cases h14 : w = [111, 110]
  · subst h14; first | decide | (intros; decide)
  by_cases h15 : w = [112, 108, 108]
  · subst h15; first | decide | (intros; decide)
  by_cases h16 : w = [112, 114, 112]
  · subst h16; first | decide | (intros; decide)
  by_cases h17 : w = [99, 99]
  · subst h17; first | decide | (intros; decide)
  simp [qT, fm, show (w == [112, 116]) = false from beq_eq_false_iff_ne.2 h0, show (w == [109, 105, 100]) = false from beq_eq_false_iff_ne.2 h1, show (w == [108, 105, 110, 101]) = false from beq_eq_false_iff_ne.2 h2, show (w == [112, 97, 114]) = false from beq_eq_false_iff_ne.2 h3, show (w == [112, 101, 114, 112]) = false from beq_eq_false_iff_ne.2 h4, show (w == [109, 101, 101, 116]) = false from beq_eq_false_iff_ne.2 h5, show (w == [102, 111, 111, 116]) = false from beq_eq_false_iff_ne.2 h6, show (w == [109, 105, 114, 114, 111, 114]) = false from beq_eq_false_iff_ne.2 h7, show (w == [99, 101, 110, 116, 114, 101]) = false from beq_eq_false_iff_ne.2 h8, show (w == [115, 97, 109, 101]) = false from beq_eq_false_iff_ne.2 h9, show (w == [99, 111, 108]) = false from beq_eq_false_iff_ne.2 h10, show (w == [99, 99, 119]) = false from beq_eq_false_iff_ne.2 h11, show (w == [98, 116, 119]) = false from beq_eq_false_iff_ne.2 h12, show (w == [99, 111, 110]) = false from beq_eq_false_iff_ne.2 h13, show (w == [111, 110]) = false from beq_eq_false_iff_ne.2 h14, show (w == [112, 108, 108]) = false from beq_eq_false_iff_ne.2 h15, show (w == [112, 114, 112]) = false from beq_eq_false_iff_ne.2 h16, show (w == [99, 99]) = false from beq_eq_false_iff_ne.2 h17]
theorem cT_fm (w : List UInt8) : ((cT w).2 = true ↔ (fm w).2 ≠ 63 ∧ (fm w).2 ≠ 0) ∧ ((cT w).2 = true → (cT w).1 = (fm w).1) := by
  by_cases h0 : w = [112, 116]
  · subst h0; first | decide | (intros; decide)
  by_cases h1 : w = [109, 105, 100]
  · subst h1; first | decide | (intros; decide)
  by_cases h2 : w = [108, 105, 110, 101]
  · subst h2; first | decide | (intros; decide)
  by_cases h3 : w = [112, 97, 114]
  · subst h3; first | decide | (intros; decide)
  by_cases h4 : w = [112, 101, 114, 112]
  · subst h4; first | decide | (intros; decide)
  by_cases h5 : w = [109, 101, 101, 116]
  · subst h5; first | decide | (intros; decide)
  by_cases h6 : w = [102, 111, 111, 116]
  · subst h6; first | decide | (intros; decide)
  by_cases h7 : w = [109, 105, 114, 114, 111, 114]
  · subst h7; first | decide | (intros; decide)
  by_cases h8 : w = [99, 101, 110, 116, 114, 101]
  · subst h8; first | decide | (intros; decide)
  by_cases h9 : w = [115, 97, 109, 101]
  · subst h9; first | decide | (intros; decide)
  by_cases h10 : w = [99, 111, 108]
  · subst h10; first | decide | (intros; decide)
  by_cases h11 : w = [99, 99, 119]
  · subst h11; first | decide | (intros; decide)
  by_cases h12 : w = [98, 116, 119]
  · subst h12; first | decide | (intros; decide)
  by_cases h13 : w = [99, 111, 110]
  · subst h13; first | decide | (intros; decide)
  by_cases h14 : w = [111, 110]
  · subst h14; first | decide | (intros; decide)
  by_cases h15 : w = [112, 108, 108]
  · subst h15; first | decide | (intros; decide)
  by_cases h16 : w = [112, 114, 112]
  · subst h16; first | decide | (intros; decide)
  by_cases h17 : w = [99, 99]
  · subst h17; first | decide | (intros; decide)
  simp [cT, fm, show (w == [112, 116]) = false from beq_eq_false_iff_ne.2 h0, show (w == [109, 105, 100]) = false from beq_eq_false_iff_ne.2 h1, show (w == [108, 105, 110, 101]) = false from beq_eq_false_iff_ne.2 h2, show (w == [112, 97, 114]) = false from beq_eq_false_iff_ne.2 h3, show (w == [112, 101, 114, 112]) = false from beq_eq_false_iff_ne.2 h4, show (w == [109, 101, 101, 116]) = false from beq_eq_false_iff_ne.2 h5, show (w == [102, 111, 111, 116]) = false from beq_eq_false_iff_ne.2 h6, show (w == [109, 105, 114, 114, 111, 114]) = false from beq_eq_false_iff_ne.2 h7, show (w == [99, 101, 110, 116, 114, 101]) = false from beq_eq_false_iff_ne.2 h8, show (w == [115, 97, 109, 101]) = false from beq_eq_false_iff_ne.2 h9, show (w == [99, 111, 108]) = false from beq_eq_false_iff_ne.2 h10, show (w == [99, 99, 119]) = false from beq_eq_false_iff_ne.2 h11, show (w == [98, 116, 119]) = false from beq_eq_false_iff_ne.2 h12, show (w == [99, 111, 110]) = false from beq_eq_false_iff_ne.2 h13, show (w == [111, 110]) = false from beq_eq_false_iff_ne.2 h14, show (w == [112, 108, 108]) = false from beq_eq_false_iff_ne.2 h15, show (w == [112, 114, 112]) = false from beq_eq_false_iff_ne.2 h16, show (w == [99, 99]) = false from beq_eq_false_iff_ne.2 h17]
theorem sG_fm (w : List UInt8) : (fm w).2 ≠ 63 → (fm w).2 ≠ 0 → sG w = (fm w).2 := by
  by_cases h0 : w = [112, 116]
  · subst h0; first | decide | (intros; decide)
  by_cases h1 : w = [109, 105, 100]
  · subst h1; first | decide | (intros; decide)
  by_cases h2 : w = [108, 105, 110, 101]
  · subst h2; first | decide | (intros; decide)
  by_cases h3 : w = [112, 97, 114]
  · subst h3; first | decide | (intros; decide)
  by_cases h4 : w = [112, 101, 114, 112]
  · subst h4; first | decide | (intros; decide)
  by_cases h5 : w = [109, 101, 101, 116]
  · subst h5; first | decide | (intros; decide)
  by_cases h6 : w = [102, 111, 111, 116]
  · subst h6; first | decide | (intros; decide)
  by_cases h7 : w = [109, 105, 114, 114, 111, 114]
  · subst h7; first | decide | (intros; decide)
  by_cases h8 : w = [99, 101, 110, 116, 114, 101]
  · subst h8; first | decide | (intros; decide)
  by_cases h9 : w = [115, 97, 109, 101]
  · subst h9; first | decide | (intros; decide)
  by_cases h10 : w = [99, 111, 108]
  · subst h10; first | decide | (intros; decide)
  by_cases h11 : w = [99, 99, 119]
  · subst h11; first | decide | (intros; decide)
  by_cases h12 : w = [98, 116, 119]
  · subst h12; first | decide | (intros; decide)
  by_cases h13 : w = [99, 111, 110]
  · subst h13; first | decide | (intros; decide)
  by_cases h14 : w = [111, 110]
  · subst h14; first | decide | (intros; decide)
  by_cases h15 : w = [112, 108, 108]
  · subst h15; first | decide | (intros; decide)
  by_cases h16 : w = [112, 114, 112]
  · subst h16; first | decide | (intros; decide)
  by_cases h17 : w = [99, 99]
  · subst h17; first | decide | (intros; decide)
  simp [sG, fm, show (w == [112, 116]) = false from beq_eq_false_iff_ne.2 h0, show (w == [109, 105, 100]) = false from beq_eq_false_iff_ne.2 h1, show (w == [108, 105, 110, 101]) = false from beq_eq_false_iff_ne.2 h2, show (w == [112, 97, 114]) = false from beq_eq_false_iff_ne.2 h3, show (w == [112, 101, 114, 112]) = false from beq_eq_false_iff_ne.2 h4, show (w == [109, 101, 101, 116]) = false from beq_eq_false_iff_ne.2 h5, show (w == [102, 111, 111, 116]) = false from beq_eq_false_iff_ne.2 h6, show (w == [109, 105, 114, 114, 111, 114]) = false from beq_eq_false_iff_ne.2 h7, show (w == [99, 101, 110, 116, 114, 101]) = false from beq_eq_false_iff_ne.2 h8, show (w == [115, 97, 109, 101]) = false from beq_eq_false_iff_ne.2 h9, show (w == [99, 111, 108]) = false from beq_eq_false_iff_ne.2 h10, show (w == [99, 99, 119]) = false from beq_eq_false_iff_ne.2 h11, show (w == [98, 116, 119]) = false from beq_eq_false_iff_ne.2 h12, show (w == [99, 111, 110]) = false from beq_eq_false_iff_ne.2 h13, show (w == [111, 110]) = false from beq_eq_false_iff_ne.2 h14, show (w == [112, 108, 108]) = false from beq_eq_false_iff_ne.2 h15, show (w == [112, 114, 112]) = false from beq_eq_false_iff_ne.2 h16, show (w == [99, 99]) = false from beq_eq_false_iff_ne.2 h17]

/-- Which gave the name: the first, or -1. -/
def gvI (l : List St) (nm : Nat) : Int := match l.findIdx? (fun x => x.name == nm) with
  | some k => (k : Int)
  | none => -1
theorem gvI_none {l : List St} {nm : Nat} (h : ∀ j (hj : j < l.length), l[j].name ≠ nm) : gvI l nm = -1 := by
  have : l.findIdx? (fun x => x.name == nm) = none := by
    rw [List.findIdx?_eq_none_iff]
    intro x hx
    obtain ⟨j, hj, rfl⟩ := List.getElem_of_mem hx
    simpa using h j hj
  simp [gvI, this]
theorem gvI_some {l : List St} {nm k : Nat} (hk : k < l.length) (he : l[k].name = nm) (h : ∀ j (hj : j < k), l[j].name ≠ nm) : gvI l nm = k := by
  have : l.findIdx? (fun x => x.name == nm) = some k := by
    rw [List.findIdx?_eq_some_iff_getElem]
    exact ⟨hk, by simpa using he, fun j hj => by simpa using h j hj⟩
  simp [gvI, this]
theorem gvI_cases (l : List St) (nm : Nat) : (gvI l nm = -1 ∧ ∀ j (hj : j < l.length), l[j].name ≠ nm) ∨ (∃ k, ∃ hk : k < l.length, gvI l nm = (k : Int) ∧ l[k].name = nm ∧ ∀ j (hj : j < k), l[j].name ≠ nm) := by
  cases h : l.findIdx? (fun x => x.name == nm) with
  | none =>
    refine .inl ⟨by simp [gvI, h], fun j hj => ?_⟩
    rw [List.findIdx?_eq_none_iff] at h
    simpa using h l[j] (List.getElem_mem hj)
  | some k =>
    rw [List.findIdx?_eq_some_iff_getElem] at h
    obtain ⟨hk, h1, h2⟩ := h
    have h2' : ∀ j (hj : j < k), l[j].name ≠ nm := fun j hj => by simpa using h2 j hj
    exact .inr ⟨k, hk, gvI_some hk (by simpa using h1) h2', by simpa using h1, h2'⟩

end Go.Proofs.YtmnfndpbblpjiabGreatDoor.Pu

/- Plain functions: the steps that a construction or a question is made into. -/
namespace Go.Proofs.YtmnfndpbblpjiabGreatDoor.Pu

/-- The registers of a point or a line. -/
structure Tr where
  x : Nat
  y : Nat
  w : Nat
def prodS (s p q r t : Nat) : List Stp := [⟨4, s, p, q⟩, ⟨4, s + 1, r, t⟩, ⟨2, s + 2, s, s + 1⟩]
def prodD (s p q r t : Nat) : List Stp := [⟨4, s, p, q⟩, ⟨4, s + 1, r, t⟩, ⟨3, s + 2, s, s + 1⟩]
def negL (s y : Nat) : List Stp := [⟨1, s, 0, 0⟩, ⟨3, s + 1, s, y⟩]
def isnL (s y : Nat) : List Stp := [⟨5, s, y, 0⟩, ⟨4, s + 1, s, s⟩, ⟨1, s + 2, 1, 0⟩, ⟨3, s + 3, s + 2, s + 1⟩]
def crossR (s : Nat) : Tr := ⟨s + 2, s + 5, s + 8⟩
def crossL (s : Nat) (a b : Tr) : List Stp := prodD s a.y b.w a.w b.y ++ (prodD (s + 3) a.w b.x a.x b.w ++ prodD (s + 6) a.x b.y a.y b.x)
def dotL (s : Nat) (a b : Tr) : List Stp := prodS s a.x b.x a.y b.y ++ [⟨4, s + 3, a.w, b.w⟩, ⟨2, s + 4, s + 2, s + 3⟩]
def volL (s : Nat) (a b c : Tr) : List Stp := crossL s a b ++ dotL (s + 9) (crossR s) c
def givenR (s : Nat) : Tr := ⟨s, s + 1, s + 2⟩
def givenL (s i : Nat) : List Stp := [⟨0, s, i, 0⟩, ⟨0, s + 1, i + 1, 0⟩, ⟨1, s + 2, 1, 0⟩]
def midR (s : Nat) : Tr := ⟨s + 2, s + 5, s + 7⟩
def midL (s : Nat) (a b : Tr) : List Stp := prodS s a.x b.w b.x a.w ++ (prodS (s + 3) a.y b.w b.y a.w ++ [⟨4, s + 6, a.w, b.w⟩, ⟨2, s + 7, s + 6, s + 6⟩])
def parR (s : Nat) : Tr := ⟨s, s + 1, s + 6⟩
def parL (s : Nat) (p l : Tr) : List Stp := [⟨4, s, l.x, p.w⟩, ⟨4, s + 1, l.y, p.w⟩] ++ (prodS (s + 2) l.x p.x l.y p.y ++ negL (s + 5) (s + 4))
def uprR (s : Nat) : Tr := ⟨s + 2, s + 3, s + 8⟩
def uprL (s : Nat) (p l : Tr) : List Stp := negL s l.x ++ parL (s + 2) p ⟨l.y, s + 1, l.w⟩
def footR (s : Nat) : Tr := ⟨s + 11, s + 14, s + 17⟩
def footL (s : Nat) (p l : Tr) : List Stp := uprL s p l ++ crossL (s + 9) (uprR s) l
def mirR (s : Nat) : Tr := ⟨s + 22, s + 25, s + 26⟩
def mirL (s : Nat) (p l : Tr) : List Stp :=
  footL s p l ++ ([⟨2, s + 18, s + 11, s + 11⟩, ⟨2, s + 19, s + 14, s + 14⟩] ++ (prodD (s + 20) (s + 18) p.w p.x (s + 17) ++ (prodD (s + 23) (s + 19) p.w p.y (s + 17) ++ [⟨4, s + 26, s + 17, p.w⟩])))
def halR (s : Nat) : Tr := ⟨s + 19, s + 20, s + 25⟩
def halL (s : Nat) (a b : Tr) : List Stp := midL s a b ++ (crossL (s + 8) a b ++ uprL (s + 17) (midR s) (crossR (s + 8)))
def cenR (s : Nat) : Tr := ⟨s + 54, s + 57, s + 60⟩
def cenL (s : Nat) (a b c : Tr) : List Stp := halL s a b ++ (halL (s + 26) a c ++ crossL (s + 52) (halR s) (halR (s + 26)))
def wayR (s : Nat) : Tr := ⟨s + 2, s + 5, s + 6⟩
def wayL (s : Nat) (f t : Tr) : List Stp := prodD s t.x f.w f.x t.w ++ (prodD (s + 3) t.y f.w f.y t.w ++ [⟨4, s + 6, f.w, t.w⟩])
def lifR (s : Nat) : Tr := ⟨s, s + 1, s + 4⟩
def lifL (s : Nat) (p : Tr) : List Stp := [⟨4, s, p.x, p.w⟩, ⟨4, s + 1, p.y, p.w⟩] ++ prodS (s + 2) p.x p.x p.y p.y
def btwL (s : Nat) (a b c : Tr) : List Stp :=
  volL s a b c ++ (isnL (s + 14) (s + 13) ++ (wayL (s + 18) b a ++ (wayL (s + 25) b c ++ (prodS (s + 32) (s + 20) (s + 27) (s + 23) (s + 30) ++ (negL (s + 35) (s + 34) ++ [⟨4, s + 37, s + 17, s + 36⟩])))))
def rndL (s : Nat) (a b c d : Tr) : List Stp :=
  wayL s a b ++ (wayL (s + 7) a c ++ (wayL (s + 14) a d ++ (lifL (s + 21) (wayR s) ++ (lifL (s + 26) (wayR (s + 7)) ++ (lifL (s + 31) (wayR (s + 14)) ++ volL (s + 36) (lifR (s + 21)) (lifR (s + 26)) (lifR (s + 31)))))))
def samL (s : Nat) (a b : Tr) : List Stp := wayL s a b ++ prodS (s + 7) (s + 2) (s + 2) (s + 5) (s + 5)
/-- What the arguments of a statement stand for. -/
structure Th where
  a : Tr
  b : Tr
  c : Tr
  d : Tr
/-- Steps, the register they answer in, how many. -/
def gapL (wd : List UInt8) (s : Nat) (t : Th) : List Stp × Nat :=
  if wd == [115, 97, 109, 101] then (samL s t.a t.b, 9)
  else if wd == [99, 111, 110] then (rndL s t.a t.b t.c t.d, 49)
  else if wd == [111, 110] then (dotL s t.a t.b, 4)
  else if wd == [112, 108, 108] then (prodD s t.a.x t.b.y t.a.y t.b.x, 2)
  else if wd == [112, 114, 112] then (prodS s t.a.x t.b.x t.a.y t.b.y, 2)
  else (volL s t.a t.b t.c, 13)
def askL (wd : List UInt8) (s : Nat) (t : Th) : List Stp × Nat :=
  if wd == [99, 99, 119] then (volL s t.a t.b t.c, 13)
  else if wd == [98, 116, 119] then (btwL s t.a t.b t.c, 37)
  else ((gapL wd s t).1 ++ isnL (s + (gapL wd s t).2 + 1) (s + (gapL wd s t).2), (gapL wd s t).2 + 4)
def conL (wd : List UInt8) (s i : Nat) (t : Th) : List Stp × Tr × Nat :=
  if wd == [112, 116] then (givenL s i, givenR s, i + 2)
  else if wd == [109, 105, 100] then (midL s t.a t.b, midR s, i)
  else if wd == [112, 97, 114] then (parL s t.a t.b, parR s, i)
  else if wd == [112, 101, 114, 112] then (uprL s t.a t.b, uprR s, i)
  else if wd == [102, 111, 111, 116] then (footL s t.a t.b, footR s, i)
  else if wd == [109, 105, 114, 114, 111, 114] then (mirL s t.a t.b, mirR s, i)
  else if wd == [99, 101, 110, 116, 114, 101] then (cenL s t.a t.b t.c, cenR s, i)
  else (crossL s t.a t.b, crossR s, i)
def grdL (wd : List UInt8) (s : Nat) (m : Tr) (k : Nat) : List Stp :=
  if wd == [108, 105, 110, 101] then prodS s m.x m.x m.y m.y ++ [⟨7, s + 2, 0, k⟩]
  else if wd == [109, 101, 101, 116] then [⟨7, m.w, 1, k⟩]
  else if wd == [99, 101, 110, 116, 114, 101] then [⟨7, m.w, 2, k⟩] else []
def facL (wd : List UInt8) (s : Nat) (m : Tr) : List Stp := if sG wd = 80 then [⟨5, s, m.w, 0⟩] else [⟨1, s, 1, 0⟩]
def keepL (wd : List UInt8) (s : Nat) (m : Tr) (k : Nat) : List Stp := facL wd s m ++ [⟨4, 3 * k, m.x, s⟩, ⟨4, 3 * k + 1, m.y, s⟩, ⟨4, 3 * k + 2, m.w, s⟩]
end Go.Proofs.YtmnfndpbblpjiabGreatDoor.Pu

/- Codes: plain functions: execution. B is the bound of a number's size. -/
namespace Go.Proofs.YtmnfndpbblpjiabGreatDoor.Pu

def sgn (x : Int) : Int := if x < 0 then -1 else if x = 0 then 0 else 1
def reg (regs : List Int) (r : Nat) : Int := regs[r]?.getD 0
/-- To which a step sets its register. -/
def valOf (t : Stp) (regs ins : List Int) : Int :=
  if t.op = 0 then ins[t.y]?.getD 0
  else if t.op = 1 then (t.y : Int)
  else if t.op = 2 then reg regs t.y + reg regs t.z
  else if t.op = 3 then reg regs t.y - reg regs t.z
  else if t.op = 4 then reg regs t.y * reg regs t.z
  else sgn (reg regs t.y)
def spc (y : Nat) : UInt8 := if y = 0 then 115 else if y = 1 then 112 else 99
/-- The report of right steps, and the error. -/
def play (B : Nat) (ins : List Int) : List Stp → List Int → ByteArray → ByteArray × Nat
  | [], _, s => (s, 0)
  | t :: l, regs, s =>
    if t.op < 6 then (if B ≤ (valOf t regs ins).natAbs then (⟨#[]⟩, 10) else play B ins l (regs.set t.x (valOf t regs ins)) s)
    else if t.op = 6 then play B ins l regs (s ++ ⟨#[if 0 < reg regs t.x then 49 else 48]⟩)
    else if reg regs t.x = 0 then (s ++ ⟨#[spc t.y]⟩ ++ dec (t.z : Int), 0)
    else play B ins l regs s
theorem play_big {B : Nat} {ins : List Int} {t : Stp} {l : List Stp} {regs : List Int} {s : ByteArray} (h : t.op < 6) (hb : B ≤ (valOf t regs ins).natAbs) : play B ins (t :: l) regs s = (⟨#[]⟩, 10) := by simp [play, h, hb]
theorem play_set {B : Nat} {ins : List Int} {t : Stp} {l : List Stp} {regs : List Int} {s : ByteArray} (h : t.op < 6) (hb : ¬ B ≤ (valOf t regs ins).natAbs) : play B ins (t :: l) regs s = play B ins l (regs.set t.x (valOf t regs ins)) s := by simp [play, h, hb]
theorem play_out {B : Nat} {ins : List Int} {t : Stp} {l : List Stp} {regs : List Int} {s : ByteArray} (h : t.op = 6) : play B ins (t :: l) regs s = play B ins l regs (s ++ ⟨#[if 0 < reg regs t.x then 49 else 48]⟩) := by simp [play, h]
theorem play_end {B : Nat} {ins : List Int} {t : Stp} {l : List Stp} {regs : List Int} {s : ByteArray} (h : 6 < t.op) (h0 : reg regs t.x = 0) : play B ins (t :: l) regs s = (s ++ ⟨#[spc t.y]⟩ ++ dec (t.z : Int), 0) := by
  rw [play, if_neg (by omega), if_neg (by omega), if_pos h0]
theorem play_on {B : Nat} {ins : List Int} {t : Stp} {l : List Stp} {regs : List Int} {s : ByteArray} (h : 6 < t.op) (h0 : reg regs t.x ≠ 0) : play B ins (t :: l) regs s = play B ins l regs s := by
  rw [play, if_neg (by omega), if_neg (by omega), if_neg h0]
/-- What Exec answers of texts that are not too long. -/
def exe (B : Nat) (s inp : ByteArray) : ByteArray × Nat :=
  if (vfy s).1 ≠ 0 then (⟨#[]⟩, (vfy s).1)
  else match inps inp with
    | none => (⟨#[]⟩, 9)
    | some ins => if ins.length ≠ g s 3 then (⟨#[]⟩, 9) else play B ins (steps s) (List.replicate 128 0) ⟨#[]⟩
end Go.Proofs.YtmnfndpbblpjiabGreatDoor.Pu

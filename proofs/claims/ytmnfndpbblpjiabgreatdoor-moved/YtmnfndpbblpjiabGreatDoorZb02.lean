/- Numbers joined to a text of inputs, and read again: plain. -/
import Derived.Lib.LaidTab
import Derived.Test.YtmnfndpbblpjiabGreatDoorRows
import Derived.Test.YtmnfndpbblpjiabGreatDoorZb01
namespace Go.Proofs.YtmnfndpbblpjiabGreatDoor.Pu

def decB (n : Int) : List UInt8 := (if n < 0 then [45] else []) ++ decN n.natAbs
theorem dec_B (n : Int) : dec n = ⟨(decB n).toArray⟩ := rfl
/-- The first k numbers, joined. -/
def jnT (l : List Int) : Nat → List UInt8
  | 0 => []
  | k + 1 => jnT l k ++ (if 0 < k then [44] else []) ++ decB (l[k]?.getD 0)
def jnL (l : List Int) : ByteArray := ⟨(jnT l l.length).toArray⟩
theorem decB_len (n : Int) : (decB n).length ≤ 3 := by
  unfold decB decN
  split <;> split <;> simp
theorem decB_pos (n : Int) : 0 < (decB n).length := by
  unfold decB decN
  split <;> split <;> simp
theorem jnT_len (l : List Int) (k : Nat) : (jnT l k).length ≤ 4 * k := by
  induction k with
  | zero => simp [jnT]
  | succ k ih =>
    have := decB_len (l[k]?.getD 0)
    simp only [jnT, List.length_append]
    split <;> simp <;> omega
theorem decB_byte {n : Int} (h1 : -99 ≤ n) (h2 : n ≤ 99) : ∀ c ∈ decB n, c.toNat ≠ 44 := by
  intro c hc
  unfold decB at hc
  rcases List.mem_append.1 hc with hc | hc
  · split at hc
    · simp at hc; subst hc; decide
    · cases hc
  · rcases decN_get (n := n.natAbs) (by omega) with ⟨h, e⟩ | ⟨h, e⟩ <;> rw [e] at hc
    · rw [List.mem_singleton] at hc; rw [hc, ofNat_toNat (by omega)]; omega
    · rcases List.mem_cons.1 hc with hc | hc
      · rw [hc, ofNat_toNat (by omega)]; omega
      · rw [List.mem_singleton] at hc; rw [hc, ofNat_toNat (by omega)]; omega
theorem g_bytes (l : List UInt8) (i : Nat) : g ⟨l.toArray⟩ i = (l[i]?.getD 0).toNat := by
  unfold g bt
  have hs : (⟨l.toArray⟩ : ByteArray).size = l.length := by simp [ByteArray.size]
  by_cases h : i < l.length
  · rw [dif_pos (by rw [hs]; exact h), List.getElem?_eq_getElem h]
    rfl
  · rw [dif_neg (by rw [hs]; exact h), List.getElem?_eq_none (by omega)]
    rfl
theorem ba_ext {x y : ByteArray} (h : x.data.toList = y.data.toList) : x = y := by
  cases x; cases y
  simp only [ByteArray.mk.injEq]
  exact Array.toList_inj.1 h
theorem ba_size (l : List UInt8) : (⟨l.toArray⟩ : ByteArray).size = l.length := by simp [ByteArray.size]
theorem dec_inj {n m : Int} (h1 : -99 ≤ n) (h2 : n ≤ 99) (h3 : -99 ≤ m) (h4 : m ≤ 99) (h : dec n = dec m) : n = m := by
  have hx : (dec n).extract 0 (dec n).size = dec n := by apply ba_ext; simp
  have a := rdN_of (s := dec n) (f := 0) (e := (dec n).size) (by omega) (Nat.le_refl _) (.inl rfl) hx h1 h2
  have b := rdN_of (s := dec n) (f := 0) (e := (dec n).size) (by omega) (Nat.le_refl _) (.inl rfl) (hx.trans h) h3 h4
  rw [a] at b
  cases b; rfl
theorem numer_dec' {n : Int} (h1 : -99 ≤ n) (h2 : n ≤ 99) : numer (dec n) = some n := by
  obtain ⟨j, rfl⟩ : ∃ j : Nat, n = (j : Int) - 99 := ⟨(n + 99).toNat, by omega⟩
  refine numer_some (by omega) rfl (fun i hi e => ?_)
  have := dec_inj h1 h2 (by omega) (by omega) e
  omega
theorem inpSt_go {s : ByteArray} {f : Nat} {r : Nat × List Int} (m : Nat) (h : inpSt s f = some r) (hc : ∀ i, f ≤ i → i < f + m → i < s.size ∧ g s i ≠ 44) : inpSt s (f + m) = some r := by
  induction m with
  | zero => exact h
  | succ m ih =>
    have hh := ih (fun i a b => hc i a (by omega))
    have h2 := hc (f + m) (by omega) (by omega)
    obtain ⟨a, b⟩ := r
    show inpSt s (f + m + 1) = _
    refine inpSt_on hh (fun e => ?_)
    rcases e with e | e
    · have := h2.1; omega
    · exact h2.2 e
theorem jnT_pre (l : List Int) : ∀ d k, ∃ r, jnT l (k + d) = jnT l k ++ r ∧ (0 < k → 0 < d → ∃ r', r = 44 :: r') := by
  intro d
  induction d with
  | zero => intro k; exact ⟨[], by simp, fun _ h => by omega⟩
  | succ d ih =>
    intro k
    obtain ⟨r, hr, h44⟩ := ih k
    refine ⟨r ++ (if 0 < k + d then [44] else []) ++ decB (l[k + d]?.getD 0), ?_, fun hk _ => ?_⟩
    · rw [← Nat.add_assoc, jnT, hr]; simp
    · rw [if_pos (by omega)]
      by_cases hd : 0 < d
      · obtain ⟨r', rfl⟩ := h44 hk hd
        exact ⟨r' ++ ([44] ++ decB (l[k + d]?.getD 0)), by simp⟩
      · have : d = 0 := by omega
        subst this
        have hr0 : r = [] := by
          have := congrArg List.length hr
          simp at this
          exact this
        subst hr0
        exact ⟨_, rfl⟩
theorem ext_list (a b c : List UInt8) : (⟨(a ++ b ++ c).toArray⟩ : ByteArray).extract a.length (a.length + b.length) = ⟨b.toArray⟩ := by
  apply ba_ext
  simp
theorem jn_step {l : List Int} (hl : ∀ x ∈ l, -99 ≤ x ∧ x ≤ 99) {k : Nat} (hk : k < l.length) (f : Nat) (hf : f = (jnT l k).length + (if 0 < k then 1 else 0)) (h : inpSt (jnL l) f = some (f, l.take k)) :
    inpSt (jnL l) ((jnT l (k + 1)).length + 1) = some ((jnT l (k + 1)).length + 1, l.take (k + 1)) ∧ (k + 1 = l.length → (jnT l (k + 1)).length = (jnL l).size) := by
  obtain ⟨r, hr, h44⟩ := jnT_pre l (l.length - (k + 1)) (k + 1)
  rw [show k + 1 + (l.length - (k + 1)) = l.length by omega] at hr
  have hg : l[k]?.getD 0 = l[k] := by simp [hk]
  have hx := hl l[k] (List.getElem_mem hk)
  have hA : jnT l (k + 1) = (jnT l k ++ (if 0 < k then [44] else [])) ++ decB l[k] := by rw [jnT, hg]
  have hfl : f = (jnT l k ++ (if 0 < k then [44] else [])).length := by rw [hf]; split <;> simp
  generalize hP : jnT l k ++ (if 0 < k then [44] else []) = P at *
  have hS : jnL l = ⟨(P ++ decB l[k] ++ r).toArray⟩ := by unfold jnL; rw [hr, hA]
  have hp : (jnT l (k + 1)).length = f + (decB l[k]).length := by rw [hA, hfl]; simp
  have hsz : (jnL l).size = f + (decB l[k]).length + r.length := by rw [hS, ba_size, hfl]; simp; omega
  have hgo := inpSt_go (decB l[k]).length h (fun i a b => by
    refine ⟨by omega, ?_⟩
    rw [hS, g_bytes]
    have hb := decB_byte hx.1 hx.2
    rw [List.append_assoc, List.getElem?_append_right (by omega), List.getElem?_append_left (by omega), List.getElem?_eq_getElem (by omega)]
    exact hb _ (List.getElem_mem _))
  have hext : (jnL l).extract f (f + (decB l[k]).length) = dec l[k] := by rw [hS, hfl, ext_list]; rfl
  have hnum := numer_dec' hx.1 hx.2
  rw [← hext] at hnum
  have hend : f + (decB l[k]).length = (jnL l).size ∨ g (jnL l) (f + (decB l[k]).length) = 44 := by
    by_cases hd : 0 < l.length - (k + 1)
    · right
      obtain ⟨r', rfl⟩ := h44 (by omega) hd
      rw [hS, g_bytes, List.getElem?_append_right (by simp; omega)]
      simp [hfl]
    · left
      have hr0 : r = [] := by
        have e : l.length = k + 1 := by omega
        have := congrArg List.length hr
        rw [e] at this
        simp at this
        exact this
      rw [hsz, hr0]; rfl
  rw [hp]
  refine ⟨?_, fun e => ?_⟩
  · rw [inpSt_num hgo hend hnum, List.take_succ_eq_append_getElem hk]
  · rcases hend with hh | hh
    · exact hh
    · have hr0 : r = [] := by
        have := congrArg List.length hr
        rw [← e] at this
        simp at this
        exact this
      rw [hsz, hr0]; rfl
theorem jn_all {l : List Int} (hl : ∀ x ∈ l, -99 ≤ x ∧ x ≤ 99) {k : Nat} (h0 : 0 < k) (hk : k ≤ l.length) : inpSt (jnL l) ((jnT l k).length + 1) = some ((jnT l k).length + 1, l.take k) ∧ (k = l.length → (jnT l k).length = (jnL l).size) := by
  induction k with
  | zero => omega
  | succ k ih =>
    by_cases hk0 : 0 < k
    · refine jn_step hl (by omega) ((jnT l k).length + 1) (by rw [if_pos hk0]) (ih hk0 (by omega)).1
    · have : k = 0 := by omega
      subst this
      exact jn_step hl (by omega) 0 (by simp [jnT]) rfl
theorem jn_inps {l : List Int} (hl : ∀ x ∈ l, -99 ≤ x ∧ x ≤ 99) : inps (jnL l) = some l := by
  by_cases h : l.length = 0
  · have : l = [] := List.eq_nil_of_length_eq_zero h
    subst this
    rfl
  · obtain ⟨h1, h2⟩ := jn_all hl (k := l.length) (by omega) (Nat.le_refl _)
    have h3 := h2 rfl
    rw [h3, List.take_length] at h1
    refine inps_good ?_ h1
    obtain ⟨m, hm⟩ : ∃ m, l.length = m + 1 := ⟨l.length - 1, by omega⟩
    have := decB_pos (l[m]?.getD 0)
    rw [← h3, hm, jnT]
    simp only [List.length_append]
    omega
theorem jn_size (l : List Int) (h : l.length ≤ 34) : (jnL l).size ≤ 140 := by
  unfold jnL
  rw [ba_size]
  have := jnT_len l l.length
  omega
end Go.Proofs.YtmnfndpbblpjiabGreatDoor.Pu

/- Itoa of the numbers that can be inputs; numbers joined. -/
namespace Go.Proofs.YtmnfndpbblpjiabGreatDoor
open Go.RowKit Pu

/-- The library's table of powers lies as its text lays it. -/
def Tab (w : World) : Prop := Lib.TabIs Tryz.prog w (Rows.sidesRow.named.headD Rows.sidesRow.func) .u64 Lib.pow10Tab
theorem Tab.mod {w w' : World} (h : Tab w) (hm : Mod (fun _ => False) w w') : Tab w' := by
  unfold Tab Lib.TabIs World.var? at *
  obtain ⟨g, hg, h⟩ := Option.bind_eq_some_iff.1 h
  rw [hg]
  show (match w'.heap[g]? with | some (.cells cs _ _) => some cs | _ => none) = _
  split at h
  · rename_i cs ty z hc
    rw [hm.keep hc (fun f => f)]
    exact h
  · cases h
theorem Mod.grow (w : World) (k : Nat) (os : Array Obj) : Mod (fun _ => False) w (Sort.grow (w.drewN k) os) := by
  refine ⟨rfl, rfl, rfl, ?_, fun i hi _ => ?_⟩
  · show w.heap.size ≤ (w.heap ++ os).size
    simp
  · show (w.heap ++ os)[i]? = w.heap[i]?
    rw [Array.getElem?_append_left hi]
theorem itoa_dec : ∀ i : Nat, i < 199 → Lib.itoa ((i : Int) - 99) = decB ((i : Int) - 99) := by decide +kernel
theorem itoaN_any (n : Int) (h1 : -99 ≤ n) (h2 : n ≤ 99) (w : World) (hT : Tab w) : Calls Tryz.prog 36 #[.int .i64 n] w fun e w' => e = .returned (.string (dec n)) ∧ Mod (fun _ => False) w w' := by
  obtain ⟨i, rfl⟩ : ∃ i : Nat, n = (i : Int) - 99 := ⟨(n + 99).toNat, by omega⟩
  refine (Any.strconv_Itoa Tryz.laysItoa _ (by omega) (by omega) w hT).mono ?_
  rintro e w' ⟨rfl, k, os, rfl⟩
  exact ⟨by rw [itoa_dec i (by omega)]; rfl, Mod.grow w k os⟩
end Go.Proofs.YtmnfndpbblpjiabGreatDoor

/- The document's decimal, numeral. -/
namespace Go.Proofs.YtmnfndpbblpjiabGreatDoor
open Go.RowKit Pu

theorem one_byte (w : World) (n : Nat) (hn : n < 256) :
    (convert 70 9 (.slice (some ⟨w.heap.size, 0, none⟩) 1 1)).run Tryz.prog (w.alloc (.cells #[.int .u8 (n : Int)] 5))
      = .ok (.string ⟨#[UInt8.ofNat n]⟩) (w.alloc (.cells #[.int .u8 (n : Int)] 5)) := by
  refine run_convert_bytes_back (P := Tryz.prog) _ 70 9 5 ⟨w.heap.size, 0, none⟩ 1 [UInt8.ofNat n] Tryz.underlying70 Tryz.underlying5 Tryz.underlying9 ?_
  intro j hj
  have hj2 : j = 0 := by simpa using hj
  subst hj2
  have hc : (w.alloc (.cells #[.int .u8 (n : Int)] 5)).cell? ⟨w.heap.size, 0, none⟩ = #[Value.int .u8 (n : Int)][0]? := World.cell?_alloc_mark w _ _ _ 0
  have ha : (⟨w.heap.size, 0, none⟩ : Addr).add 0 = ⟨w.heap.size, 0, none⟩ := by simp [Addr.add]
  rw [ha, hc]
  simp
  omega

set_option maxHeartbeats 800000 in
set_option maxRecDepth 100000 in
theorem decimal_nat (n : Nat) (w : World) (hn : n ≤ 99) : Calls Tryz.prog 108 #[.int .i64 (n : Int)] w fun e w' => e = .returned (.string (dec (n : Int))) ∧ Mod (fun _ => False) w w' := by
  have HD : Hid (dec (n : Int) = ⟨(decN n).toArray⟩) := dec_nat n
  have hq : (48 : Int) + (n : Int) / 10 = ((48 + n / 10 : Nat) : Int) := by omega
  have hr : (48 : Int) + (n : Int) % 10 = ((48 + n % 10 : Nat) : Int) := by omega
  generalize dec (n : Int) = ans at *
  by_cases h9 : 9 < n
  · have HE : Hid (ans = ⟨#[UInt8.ofNat (48 + n / 10), UInt8.ofNat (48 + n % 10)]⟩) := show _ = _ by rw [HD.out]; unfold decN; rw [if_pos h9]
    have k1 := one_byte w (48 + n / 10) (by omega)
    have k2 := one_byte (w.alloc (.cells #[.int .u8 ((48 + n / 10 : Nat) : Int)] 5)) (48 + n % 10) (by omega)
    have hm : Mod (fun _ => False) w ((w.alloc (.cells #[.int .u8 ((48 + n / 10 : Nat) : Int)] 5)).alloc (.cells #[.int .u8 ((48 + n % 10 : Nat) : Int)] 5)) := ((Mod.refl _ w).alloc _).alloc _
    simp only [World.size_alloc] at k2
    rw [← hq] at k1 k2 hm
    rw [← hr] at k2 hm
    generalize UInt8.ofNat (48 + n / 10) = b1 at *
    generalize UInt8.ofNat (48 + n % 10) = b2 at *
    clear hq hr HD
    go_enter Tryz.func108, Tryz.ntmps108
    go_wp2_with fail
    go_ret
    exact ⟨by rw [HE.out]; rfl, hm⟩
  · have HE : Hid (ans = ⟨#[UInt8.ofNat (48 + n % 10)]⟩) := show _ = _ by rw [HD.out]; unfold decN; rw [if_neg h9]
    have k2 := one_byte w (48 + n % 10) (by omega)
    have hm : Mod (fun _ => False) w (w.alloc (.cells #[.int .u8 ((48 + n % 10 : Nat) : Int)] 5)) := (Mod.refl _ w).alloc _
    rw [← hr] at k2 hm
    generalize UInt8.ofNat (48 + n % 10) = b2 at *
    clear hq hr HD
    go_enter Tryz.func108, Tryz.ntmps108
    go_wp2_with fail
    go_ret
    exact ⟨by rw [HE.out]; rfl, hm⟩

set_option maxHeartbeats 800000 in
set_option maxRecDepth 100000 in
theorem decimal_neg (n : Nat) (w : World) (h0 : 0 < n) (hn : n ≤ 99) : Calls Tryz.prog 108 #[.int .i64 (-(n : Int))] w fun e w' => e = .returned (.string (dec (-(n : Int)))) ∧ Mod (fun _ => False) w w' := by
  have HD : Hid (dec (-(n : Int)) = ⟨(45 :: decN n).toArray⟩) := dec_neg n h0
  have hq : (48 : Int) + (n : Int) / 10 = ((48 + n / 10 : Nat) : Int) := by omega
  have hr : (48 : Int) + (n : Int) % 10 = ((48 + n % 10 : Nat) : Int) := by omega
  generalize dec (-(n : Int)) = ans at *
  by_cases h9 : 9 < n
  · have HE : Hid (ans = ⟨#[45, UInt8.ofNat (48 + n / 10), UInt8.ofNat (48 + n % 10)]⟩) := show _ = _ by rw [HD.out]; unfold decN; rw [if_pos h9]
    have k1 := one_byte w (48 + n / 10) (by omega)
    have k2 := one_byte (w.alloc (.cells #[.int .u8 ((48 + n / 10 : Nat) : Int)] 5)) (48 + n % 10) (by omega)
    have hm : Mod (fun _ => False) w ((w.alloc (.cells #[.int .u8 ((48 + n / 10 : Nat) : Int)] 5)).alloc (.cells #[.int .u8 ((48 + n % 10 : Nat) : Int)] 5)) := ((Mod.refl _ w).alloc _).alloc _
    simp only [World.size_alloc] at k2
    rw [← hq] at k1 k2 hm
    rw [← hr] at k2 hm
    generalize UInt8.ofNat (48 + n / 10) = b1 at *
    generalize UInt8.ofNat (48 + n % 10) = b2 at *
    clear hq hr HD
    go_enter Tryz.func108, Tryz.ntmps108
    go_wp2_with fail
    go_ret
    exact ⟨by rw [HE.out]; rfl, hm⟩
  · have HE : Hid (ans = ⟨#[45, UInt8.ofNat (48 + n % 10)]⟩) := show _ = _ by rw [HD.out]; unfold decN; rw [if_neg h9]
    have k2 := one_byte w (48 + n % 10) (by omega)
    have hm : Mod (fun _ => False) w (w.alloc (.cells #[.int .u8 ((48 + n % 10 : Nat) : Int)] 5)) := (Mod.refl _ w).alloc _
    rw [← hr] at k2 hm
    generalize UInt8.ofNat (48 + n % 10) = b2 at *
    clear hq hr HD
    go_enter Tryz.func108, Tryz.ntmps108
    go_wp2_with fail
    go_ret
    exact ⟨by rw [HE.out]; rfl, hm⟩

theorem decimal_any (n : Int) (w : World) (h1 : -99 ≤ n) (h2 : n ≤ 99) : Calls Tryz.prog 108 #[.int .i64 n] w fun e w' => e = .returned (.string (dec n)) ∧ Mod (fun _ => False) w w' := by
  by_cases h : n < 0
  · have := decimal_neg n.natAbs w (by omega) (by omega)
    rwa [show -((n.natAbs : Nat) : Int) = n by omega] at this
  · have := decimal_nat n.natAbs w (by omega)
    rwa [show ((n.natAbs : Nat) : Int) = n by omega] at this
end Go.Proofs.YtmnfndpbblpjiabGreatDoor

/- The document's numeral. -/
namespace Go.Proofs.YtmnfndpbblpjiabGreatDoor
open Go.RowKit Pu

theorem bytes_inj {a b : ByteArray} (h : a.toList = b.toList) : a = b := by
  obtain ⟨⟨a⟩⟩ := a
  obtain ⟨⟨b⟩⟩ := b
  rw [ByteArray.toList_mk, ByteArray.toList_mk] at h
  rw [h]
def numAns (o : Option Int) : Value := match o with
  | some n => .tuple #[.int .i64 n, .bool true]
  | none => .tuple #[.int .i64 0, .bool false]

set_option maxHeartbeats 800000 in
set_option maxRecDepth 100000 in
theorem numeral_any (t : ByteArray) (w : World) : Calls Tryz.prog 104 #[.string t] w fun e w' => e = .returned (numAns (numer t)) ∧ Mod (fun _ => False) w w' := by
  go_enter Tryz.func104, Tryz.ntmps104
  go_wp2_with fail
  go_loopw [4] (fun nv wr => ∃ j : Nat, j ≤ 199 ∧ nv = .int .i64 ((j : Int) - 99) ∧ Mod (fun _ => False) w wr ∧ Hid (∀ i : Nat, i < j → t ≠ dec ((i : Int) - 99))) (fun nv _ => (100 - intOf nv).toNat)
  case atStart => exact ⟨0, by omega, rfl, Mod.refl _ _, fun i hi => by omega⟩
  case round =>
    obtain ⟨j, hj, rfl, hm, HN⟩ := hrel
    by_cases hlt : j < 199
    · go_wp2_with fail
      refine (decimal_any ((j : Int) - 99) _ (by omega) (by omega)).mono ?_
      rintro e w2 ⟨rfl, hm2⟩
      have hm3 := hm.trans hm2
      clear hm hm2
      by_cases heq : t = dec ((j : Int) - 99)
      · have HV : Hid (numer t = some ((j : Int) - 99)) := numer_some hlt heq HN.out
        have hb : (t.toList == (dec ((j : Int) - 99)).toList) = true := by rw [← heq]; exact beq_self_eq_true _
        clear heq HN
        go_wp2_with fail
        go_ret2
        exact ⟨by rw [HV.out]; rfl, hm3⟩
      · have HN2 : Hid (∀ i : Nat, i < j + 1 → t ≠ dec ((i : Int) - 99)) := fun i hi => by
          by_cases e : i = j
          · subst e; exact heq
          · exact HN.out i (by omega)
        have hb : (t.toList == (dec ((j : Int) - 99)).toList) = false := by rw [beq_eq_false_iff_ne]; exact fun e => heq (bytes_inj e)
        clear heq HN
        go_wp2_with fail
        go_roundw
        case rel => exact ⟨j + 1, by omega, by go_num, hm3, HN2⟩
        case measure => simp [intOf]; omega
    · have HV : Hid (numer t = none) := numer_none (fun i hi => HN.out i (by omega))
      go_wp2_with fail
      go_ret2
      exact ⟨by rw [HV.out]; rfl, hm⟩
end Go.Proofs.YtmnfndpbblpjiabGreatDoor

/- Codes: plain functions: steps, what sets a register, what is right. -/
namespace Go.Proofs.YtmnfndpbblpjiabGreatDoor.Pu

structure Stp where
  op : Nat
  x : Nat
  y : Nat
  z : Nat
def stepAt (s : ByteArray) (k : Nat) : Stp := ⟨g s (6 + 4 * k), g s (6 + 4 * k + 1), g s (6 + 4 * k + 2), g s (6 + 4 * k + 3)⟩
def nst (s : ByteArray) : Nat := (s.size - 6) / 4
def stepsTo (s : ByteArray) (n : Nat) : List Stp := (List.range n).map (stepAt s)
def steps (s : ByteArray) : List Stp := stepsTo s (nst s)
theorem stepsTo_len (s : ByteArray) (n : Nat) : (stepsTo s n).length = n := by simp [stepsTo]
theorem stepsTo_succ (s : ByteArray) (n : Nat) : stepsTo s (n + 1) = stepsTo s n ++ [stepAt s n] := by simp [stepsTo, List.range_succ]
theorem steps_at (s : ByteArray) (k : Nat) (h : k < (steps s).length) : (steps s)[k] = stepAt s k := by simp [steps, stepsTo]
def Small (t : Stp) : Prop := t.op < 256 ∧ t.x < 256 ∧ t.y < 256 ∧ t.z < 256
theorem stepAt_small (s : ByteArray) (k : Nat) : Small (stepAt s k) := ⟨g_lt s _, g_lt s _, g_lt s _, g_lt s _⟩
theorem steps_small (s : ByteArray) : ∀ t ∈ steps s, Small t := by
  intro t ht
  simp [steps, stepsTo] at ht
  obtain ⟨k, _, rfl⟩ := ht
  exact stepAt_small s k

def begunB (s : ByteArray) : Bool :=
  decide (6 ≤ s.size) && (decide (g s 0 = 82) && decide (g s 1 = 85)) && decide (1 ≤ g s 2) && decide (g s 2 ≤ 128) && decide (g s 3 ≤ 32) && decide (g s 5 * 256 + g s 4 ≤ 2000) && decide (s.size = 6 + 4 * (g s 5 * 256 + g s 4))

/-- The last step ahead of k that sets r. -/
def setterI (l : List Stp) (r : Nat) : Nat → Int
  | 0 => -1
  | k + 1 => match l[k]? with
    | some t => if t.op ≤ 5 ∧ t.x = r then (k : Int) else setterI l r k
    | none => setterI l r k
def readsOf (t : Stp) : List Nat := (if 2 ≤ t.op ∧ t.op ≤ 5 then [t.y] else []) ++ (if 2 ≤ t.op ∧ t.op ≤ 4 then [t.z] else []) ++ (if 6 ≤ t.op then [t.x] else [])
def properB (t : Stp) (regs ins : Nat) : Bool :=
  if 7 < t.op ∨ regs ≤ t.x then false
  else if t.op = 0 ∧ ins ≤ t.y then false
  else if t.op = 6 ∧ t.y ≠ 0 then false
  else if t.op = 7 then decide (t.y < 3) && decide (t.z < 16)
  else decide (t.z = 0) || (decide (2 ≤ t.op) && decide (t.op ≤ 4))
def rightB (l : List Stp) (k : Nat) (t : Stp) (regs ins : Nat) : Bool := properB t regs ins && (readsOf t).all fun r => decide (r < regs) && decide (0 ≤ setterI l r k)

theorem setterI_lt (l : List Stp) (r : Nat) : ∀ k, setterI l r k < k := by
  intro k
  induction k with
  | zero => simp [setterI]
  | succ k ih =>
    simp only [setterI]
    split
    · split
      · omega
      · omega
    · omega
theorem setterI_ge (l : List Stp) (r : Nat) : ∀ k, -1 ≤ setterI l r k := by
  intro k
  induction k with
  | zero => simp [setterI]
  | succ k ih =>
    simp only [setterI]
    split
    · split <;> omega
    · omega
theorem setterI_hit {l : List Stp} {r k : Nat} (hk : k < l.length) (h : l[k].op ≤ 5 ∧ l[k].x = r) : setterI l r (k + 1) = (k : Int) := by simp [setterI, hk, h]
theorem setterI_miss {l : List Stp} {r k : Nat} (hk : k < l.length) (h : ¬ (l[k].op ≤ 5 ∧ l[k].x = r)) : setterI l r (k + 1) = setterI l r k := by
  simp only [setterI, List.getElem?_eq_getElem hk]
  rw [if_neg h]
theorem readsOf_len (t : Stp) : (readsOf t).length ≤ 3 := by
  unfold readsOf; repeat' split
  all_goals simp

/-- What Verify answers of a text that is not too long. -/
def vfy (s : ByteArray) : Nat × Nat :=
  if begunB s = false then (8, 0)
  else match (List.range (nst s)).find? fun k => !rightB (steps s) k (stepAt s k) (g s 2) (g s 3) with
    | some k => (8, 1 + k)
    | none => (0, 0)
theorem vfy_bad {s : ByteArray} (h : begunB s = false) : vfy s = (8, 0) := by simp [vfy, h]
theorem vfy_at {s : ByteArray} {k : Nat} (h : begunB s = true) (hk : k < nst s) (hb : rightB (steps s) k (stepAt s k) (g s 2) (g s 3) = false) (ha : ∀ j, j < k → rightB (steps s) j (stepAt s j) (g s 2) (g s 3) = true) : vfy s = (8, 1 + k) := by
  have : (List.range (nst s)).find? (fun k => !rightB (steps s) k (stepAt s k) (g s 2) (g s 3)) = some k := by
    rw [List.find?_range_eq_some]
    exact ⟨by simp [hb], by simpa using hk, fun j hj => by simp [ha j hj]⟩
  simp [vfy, h, this]
theorem vfy_ok {s : ByteArray} (h : begunB s = true) (ha : ∀ j, j < nst s → rightB (steps s) j (stepAt s j) (g s 2) (g s 3) = true) : vfy s = (0, 0) := by
  have : (List.range (nst s)).find? (fun k => !rightB (steps s) k (stepAt s k) (g s 2) (g s 3)) = none := by
    rw [List.find?_eq_none]
    intro j hj
    simp [ha j (by simpa using hj)]
  simp [vfy, h, this]
theorem nst_of {s : ByteArray} (h : begunB s = true) : 6 ≤ s.size ∧ nst s = g s 5 * 256 + g s 4 ∧ nst s ≤ 2000 ∧ s.size = 6 + 4 * nst s ∧ 1 ≤ g s 2 ∧ g s 2 ≤ 128 ∧ g s 3 ≤ 32 := by
  simp only [begunB, Bool.and_eq_true, decide_eq_true_eq] at h
  unfold nst
  omega

end Go.Proofs.YtmnfndpbblpjiabGreatDoor.Pu

/- Steps in memory. -/
namespace Go.Proofs.YtmnfndpbblpjiabGreatDoor
open Go.RowKit Pu

theorem Tryz.info71 : (Tryz.prog.info? 152).map (fun i => (i.zero, i.size, i.bytes)) = some (some (.agg #[.int .i64 0, .int .i64 0, .int .i64 0, .int .i64 0]), 4, 32) := by kernel_rfl
def tcells (t : Stp) : List Value := [.int .i64 t.op, .int .i64 t.x, .int .i64 t.y, .int .i64 t.z]
def tcellsOf (l : List Stp) : List Value := l.flatMap tcells
theorem tcellsOf_snoc (q : List Stp) (t : Stp) : tcellsOf q ++ tcells t = tcellsOf (q ++ [t]) := by simp [tcellsOf]
theorem tcellsOf_at (q : List Stp) (j i : Nat) (hj : j < q.length) (hi : i < 4) : (tcellsOf q)[j * 4 + i]? = (tcells q[j])[i]? := by
  induction q generalizing j with
  | nil => simp at hj
  | cons t q ih =>
    cases j with
    | zero =>
      simp only [tcellsOf, List.flatMap_cons, Nat.zero_mul, Nat.zero_add, List.getElem_cons_zero]
      rw [List.getElem?_append_left (by simpa [tcells] using hi)]
    | succ j =>
      have := ih j (by simpa using hj)
      simp only [tcellsOf, List.flatMap_cons, List.getElem_cons_succ] at *
      rw [List.getElem?_append_right (by simp [tcells]; omega), ← this]
      congr 1
      simp [tcells]; omega
def TLst (w : World) (base : Nat) (v : Value) (l : List Stp) : Prop := w.ownsRow base 152 4 v l.length (tcellsOf l)
theorem TLst.cell {w : World} {base : Nat} {ao : Option Addr} {cap : Nat} {l : List Stp} (h : TLst w base (.slice ao l.length cap) l) {j : Nat} (hj : j < l.length) :
    ∃ gb, ao = some ⟨gb, 0, none⟩ ∧ w.cell? ⟨gb, j * 4, none⟩ = some (.int .i64 l[j].op) ∧ w.cell? ⟨gb, j * 4 + 1, none⟩ = some (.int .i64 l[j].x) ∧ w.cell? ⟨gb, j * 4 + 2, none⟩ = some (.int .i64 l[j].y) ∧ w.cell? ⟨gb, j * 4 + 3, none⟩ = some (.int .i64 l[j].z) := by
  unfold TLst at h
  obtain ⟨gb, rfl, h0⟩ := owns_cell h (j := j * 4 + 0) (by omega)
  have h1 := h.cellAt (j * 4 + 1) (by omega)
  have h2 := h.cellAt (j * 4 + 2) (by omega)
  have h3 := h.cellAt (j * 4 + 3) (by omega)
  rw [tcellsOf_at l j _ hj (by omega)] at h0 h1 h2 h3
  exact ⟨gb, rfl, by simpa [tcells] using h0, by simpa [tcells] using h1, by simpa [tcells] using h2, by simpa [tcells] using h3⟩
theorem TLst.mod {w w' : World} {base : Nat} {v : Value} {l : List Stp} (h : TLst w base v l) (hm : Mod (fun _ => False) w w') : TLst w' base v l := owns_mod h hm (fun _ _ f => f)

end Go.Proofs.YtmnfndpbblpjiabGreatDoor

/- The document's Setter, Reads, proper, right. -/
namespace Go.Proofs.YtmnfndpbblpjiabGreatDoor
open Go.RowKit Pu

set_option maxHeartbeats 800000 in
set_option maxRecDepth 100000 in
theorem setter_any (v : Value) (l : List Stp) (k r base : Nat) (w : World) (hl : l.length ≤ 3000) (hk : k ≤ l.length) (hL : TLst w base v l) (hsm : ∀ t ∈ l, Small t) (_hr : r < 256) :
    Calls Tryz.prog 111 #[v, .int .i64 k, .int .i64 r] w fun e w' => e = .returned (.int .i64 (setterI l r k)) ∧ w = w' := by
  obtain ⟨ao, cap, rfl, -⟩ := owns_form hL
  go_enter Tryz.func111, Tryz.ntmps111
  go_wp2_with fail
  go_loop [7] (fun i => ∃ j : Nat, j ≤ k ∧ i = .int .i64 ((j : Int) - 1) ∧ Hid (setterI l r j = setterI l r k)) (fun i => (intOf i + 1).toNat)
  case atStart => exact ⟨k, by omega, rfl, rfl⟩
  case round =>
    obtain ⟨j, hj, rfl, HS⟩ := hrel
    cases j with
    | zero =>
      have HR : Hid (setterI l r k = -1) := show setterI l r k = -1 by rw [← HS.out]; rfl
      go_wp2_with fail
      go_ret
      exact ⟨by rw [HR.out]; rfl, rfl⟩
    | succ j =>
      have hjl : j < l.length := by omega
      have e1 : ((j + 1 : Nat) : Int) - 1 = (j : Int) := by omega
      rw [e1]
      clear e1
      obtain ⟨gb, rfl, c0, c1, -, -⟩ := hL.cell hjl
      obtain ⟨s1, s2, -, -⟩ := hsm _ (List.getElem_mem hjl)
      by_cases h5 : l[j].op ≤ 5
      · by_cases hx : l[j].x = r
        · have HR : Hid (setterI l r k = (j : Int)) := show setterI l r k = (j : Int) by rw [← HS.out]; exact setterI_hit hjl ⟨h5, hx⟩
          have hb : ((l[j].x : Int) == (r : Int)) = true := beq_t hx
          clear hx
          go_wp2_with fail
          go_ret
          exact ⟨by rw [HR.out]; rfl, rfl⟩
        · have HR : Hid (setterI l r j = setterI l r k) := show setterI l r j = setterI l r k by rw [← HS.out]; exact (setterI_miss hjl (fun h => hx h.2)).symm
          have hb : ((l[j].x : Int) == (r : Int)) = false := beq_f hx
          go_wp2_with fail
          go_round
          case rel => exact ⟨j, by omega, by go_num, HR⟩
          case measure => simp [intOf]
      · have HR : Hid (setterI l r j = setterI l r k) := show setterI l r j = setterI l r k by rw [← HS.out]; exact (setterI_miss hjl (fun h => h5 h.1)).symm
        go_wp2_with fail
        go_round
        case rel => exact ⟨j, by omega, by go_num, HR⟩
        case measure => simp [intOf]

abbrev st4 (t : Stp) : Value := .agg #[.int .i64 t.op, .int .i64 t.x, .int .i64 t.y, .int .i64 t.z]
def Stb (w : World) (b : Nat) (t : Stp) : Prop := w.heap[b]? = some (.cells #[.int .i64 t.op, .int .i64 t.x, .int .i64 t.y, .int .i64 t.z] 152 (0, 0))
section
variable {w w' : World} {b : Nat} {t : Stp}
theorem Stb.c0 (h : Stb w b t) : w.cell? ⟨b, 0, none⟩ = some (.int .i64 t.op) := by unfold Stb at h; simp [World.cell?, h]
theorem Stb.c1 (h : Stb w b t) : w.cell? ⟨b, 1, none⟩ = some (.int .i64 t.x) := by unfold Stb at h; simp [World.cell?, h]
theorem Stb.c2 (h : Stb w b t) : w.cell? ⟨b, 2, none⟩ = some (.int .i64 t.y) := by unfold Stb at h; simp [World.cell?, h]
theorem Stb.c3 (h : Stb w b t) : w.cell? ⟨b, 3, none⟩ = some (.int .i64 t.z) := by unfold Stb at h; simp [World.cell?, h]
theorem stb_new (w : World) (t : Stp) : Stb (w.alloc (.cells #[.int .i64 t.op, .int .i64 t.x, .int .i64 t.y, .int .i64 t.z] 152)) w.heap.size t := by
  unfold Stb; show (w.heap.push _)[w.heap.size]? = _; simp
end
def ivs (l : List Nat) : List Value := l.map fun (n : Nat) => Value.int .i64 (n : Int)
theorem Tryz.info3 : (Tryz.prog.info? 3).map (fun i => (i.zero, i.size, i.bytes)) = some (some (.int .i64 0), 1, 8) := by kernel_rfl

set_option maxHeartbeats 1600000 in
set_option maxRecDepth 100000 in
theorem reads_any (t : Stp) (w : World) (hs : Small t) : Calls Tryz.prog 110 #[st4 t] w fun e w' => Mod (fun _ => False) w w' ∧ ∃ v, e = .returned v ∧ w'.ownsRow w.heap.size 3 1 v (readsOf t).length (ivs (readsOf t)) := by
  obtain ⟨i0, hi, hz0, hz1, hz2⟩ := info_parts Tryz.info3
  obtain ⟨s0, s1, s2, s3⟩ := hs
  have hS := stb_new w t
  have hm0 : Mod (fun _ => False) w (w.alloc (.cells #[.int .i64 t.op, .int .i64 t.x, .int .i64 t.y, .int .i64 t.z] 152)) := (Mod.refl _ w).alloc _
  by_cases h6 : 6 ≤ t.op
  · have HR : Hid (readsOf t = [t.x]) := show readsOf t = [t.x] by
      unfold readsOf; rw [if_neg (by omega), if_neg (by omega), if_pos h6]; rfl
    go_enter Tryz.func110, Tryz.ntmps110
    go_wp2_with (at_builtin; refine wpList_append_own _ rfl _ _ 29 rfl w.heap.size 3 i0 (.int .i64 0) 1 8 Tryz.underlying29 hi hz0 hz1 hz2 rfl (by decide) _ _ _ rfl (World.ownsRow_nil _ _ _ _) ⟨w.heap.size + 1, 0, none⟩ 1 1 [.int .i64 t.x] rfl rfl ?c1 ?c2 ?c3 ?c4 ?c5 ?_)
    case c1 => have := cell_one_new (w.alloc (.cells #[.int .i64 t.op, .int .i64 t.x, .int .i64 t.y, .int .i64 t.z] 152)) (.int .i64 t.x) 3; simpa using this
    case c2 => intro u hu; simp at hu; subst hu; rfl
    case c3 => unfold maxLen; omega
    case c4 => omega
    case c5 => simp; omega
    intro v' w4 hown4 hgrow _
    have hm4 : Mod (fun _ => False) w w4 := (hm0.alloc _).grown hgrow (fun q hq _ => by simp [Value.ownBlock] at hq)
    clear hgrow
    go_wp2_with fail
    go_ret
    exact ⟨hm4, _, rfl, by rw [HR.out]; exact hown4⟩
  · by_cases h5 : t.op = 5
    · have HR : Hid (readsOf t = [t.y]) := show readsOf t = [t.y] by
        unfold readsOf; rw [if_pos (by omega), if_neg (by omega), if_neg (by omega)]; rfl
      have ha : 5 ≤ t.op := by omega
      have hb : t.op ≤ 5 := by omega
      clear h5 h6
      go_enter Tryz.func110, Tryz.ntmps110
      go_wp2_with (at_builtin; refine wpList_append_own _ rfl _ _ 29 rfl w.heap.size 3 i0 (.int .i64 0) 1 8 Tryz.underlying29 hi hz0 hz1 hz2 rfl (by decide) _ _ _ rfl (World.ownsRow_nil _ _ _ _) ⟨w.heap.size + 1, 0, none⟩ 1 1 [.int .i64 t.y] rfl rfl ?d1 ?d2 ?d3 ?d4 ?d5 ?_)
      case d1 => have := cell_one_new (w.alloc (.cells #[.int .i64 t.op, .int .i64 t.x, .int .i64 t.y, .int .i64 t.z] 152)) (.int .i64 t.y) 3; simpa using this
      case d2 => intro u hu; simp at hu; subst hu; rfl
      case d3 => unfold maxLen; omega
      case d4 => omega
      case d5 => simp; omega
      intro v' w4 hown4 hgrow _
      have hm1 : Mod (fun _ => False) (w.alloc (.cells #[.int .i64 t.op, .int .i64 t.x, .int .i64 t.y, .int .i64 t.z] 152)) w4 := ((Mod.refl _ _).alloc _).grown hgrow (fun q hq _ => by simp [Value.ownBlock] at hq)
      have hm4 := hm0.trans hm1
      have c0 : w4.cell? ⟨w.heap.size, 0, none⟩ = some (.int .i64 t.op) := (show Stb w4 w.heap.size t from hm1.keep hS (fun f => f)).c0
      clear hgrow hm1
      go_wp2_with fail
      go_ret
      exact ⟨hm4, _, rfl, by rw [HR.out]; exact hown4⟩
    · by_cases h2 : 2 ≤ t.op
      · have HR : Hid (readsOf t = [t.y, t.z]) := show readsOf t = [t.y, t.z] by
          unfold readsOf; rw [if_pos (by omega), if_pos (by omega), if_neg (by omega)]; rfl
        have hb : t.op ≤ 4 := by omega
        clear h5 h6
        go_enter Tryz.func110, Tryz.ntmps110
        go_wp2_with (at_builtin; refine wpList_append_own _ rfl _ _ 29 rfl w.heap.size 3 i0 (.int .i64 0) 1 8 Tryz.underlying29 hi hz0 hz1 hz2 rfl (by decide) _ _ _ rfl (World.ownsRow_nil _ _ _ _) ⟨w.heap.size + 1, 0, none⟩ 1 1 [.int .i64 t.y] rfl rfl ?e1 ?e2 ?e3 ?e4 ?e5 ?_)
        case e1 => have := cell_one_new (w.alloc (.cells #[.int .i64 t.op, .int .i64 t.x, .int .i64 t.y, .int .i64 t.z] 152)) (.int .i64 t.y) 3; simpa using this
        case e2 => intro u hu; simp at hu; subst hu; rfl
        case e3 => unfold maxLen; omega
        case e4 => omega
        case e5 => simp; omega
        intro v' w4 hown4 hgrow _
        have hm1 : Mod (fun _ => False) (w.alloc (.cells #[.int .i64 t.op, .int .i64 t.x, .int .i64 t.y, .int .i64 t.z] 152)) w4 := ((Mod.refl _ _).alloc _).grown hgrow (fun q hq _ => by simp [Value.ownBlock] at hq)
        have hm4 := hm0.trans hm1
        have hS4 : Stb w4 w.heap.size t := hm1.keep hS (fun f => f)
        have c0 := hS4.c0
        have c3 := hS4.c3
        have hz4 := hm4.size
        obtain ⟨ao4, cap4, rfl, -⟩ := owns_form hown4
        clear hgrow hm1
        go_wp2_with (at_builtin; refine wpList_append_own _ rfl _ _ 29 rfl w.heap.size 3 i0 (.int .i64 0) 1 8 Tryz.underlying29 hi hz0 hz1 hz2 rfl (by decide) _ _ _ rfl (hown4.alloc _) ⟨w4.heap.size, 0, none⟩ 1 1 [.int .i64 t.z] rfl rfl ?f1 ?f2 ?f3 ?f4 ?f5 ?_)
        case f1 => exact cell_one_new _ _ _
        case f2 => intro u hu; simp at hu; subst hu; rfl
        case f3 => unfold maxLen; omega
        case f4 => omega
        case f5 => simp; omega
        intro v5 w5 hown5 hgrow5 _
        have hm5 : Mod (fun _ => False) w w5 := (hm4.alloc _).grown hgrow5 (fun q hq hlt => by have := (hown4.lt q hq).1; omega)
        have hS5 : Stb w5 w.heap.size t := by
          refine ((((Mod.refl (fun q => (Value.slice ao4 1 cap4).ownBlock = some q) w4).alloc _).grown hgrow5 (fun q hq _ => hq)).keep hS4 (fun e => ?_))
          obtain ⟨_, ⟨he, _⟩ | ⟨g1, c1, cur1, he1, _, hb1, _⟩⟩ := hown4
          · rw [he] at e; simp [Value.ownBlock] at e
          · rw [he1] at e; simp [Value.ownBlock] at e
            subst e
            unfold Stb at hS4; rw [hb1] at hS4; simp at hS4
        clear c0 c3
        have c0 := hS5.c0
        clear hgrow5
        go_wp2_with fail
        go_ret
        exact ⟨hm5, _, rfl, by rw [HR.out]; exact hown5⟩
      · have HR : Hid (readsOf t = []) := show readsOf t = [] by
          unfold readsOf; rw [if_neg (by omega), if_neg (by omega), if_neg (by omega)]; rfl
        clear h5
        go_enter Tryz.func110, Tryz.ntmps110
        go_wp2_with fail
        go_ret
        exact ⟨hm0, _, rfl, by rw [HR.out]; exact World.ownsRow_nil _ _ _ _⟩
end Go.Proofs.YtmnfndpbblpjiabGreatDoor

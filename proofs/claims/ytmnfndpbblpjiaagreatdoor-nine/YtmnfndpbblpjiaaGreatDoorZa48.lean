/- strconv.Itoa lies in this program as the library's contract on it asks. -/
import Derived.Shelf.Strconv.Itoa3
import Derived.Lib.LaidTab
import Derived.Test.YtmnfndpbblpjiaaGreatDoorRows
import Derived.Deep.RegionWith
import Derived.Stop.LaidErr
import Derived.Test.YtmnfndpbblpjiaaGreatDoorZa02
import Derived.Test.YtmnfndpbblpjiaaGreatDoorZa20
import Derived.Test.YtmnfndpbblpjiaaGreatDoorZa18
import Derived.Test.YtmnfndpbblpjiaaGreatDoorZa12
import Derived.Test.YtmnfndpbblpjiaaGreatDoorZa39
import Derived.Test.YtmnfndpbblpjiaaGreatDoorZa40
import Derived.Test.YtmnfndpbblpjiaaGreatDoorZa47
import Derived.Test.YtmnfndpbblpjiaaGreatDoorZa05
import Derived.Test.YtmnfndpbblpjiaaGreatDoorZa33
import Derived.Test.YtmnfndpbblpjiaaGreatDoorZa26
import Derived.Test.YtmnfndpbblpjiaaGreatDoorZa07
namespace Go.Proofs.YtmnfndpbblpjiaaGreatDoor
open Go.Shelf
def Tryz.laysItoa_ren : Go.Shelf.Ren := ⟨fun | 171 => 35 | 243 => 65 | 246 => 111 | 283 => 164 | 284 => 165 | 285 => 166 | 286 => 167 | 129 => 184 | 317 => 183 | 318 => 185 | 319 => 186 | 320 => 187 | 337 => 193 | 338 => 194 | n => n, fun | 3 => 3 | 9 => 9 | 2 => 2 | 4 => 4 | 171 => 206 | 0 => 0 | 53 => 207 | 37 => 75 | 5 => 5 | 173 => 210 | 212 => 223 | 51 => 224 | 20 => 20 | 213 => 225 | 46 => 227 | 232 => 237 | 233 => 238 | n => n, fun | 17 => 0 | 18 => 1 | 19 => 2 | n => n⟩
theorem Tryz.laysItoa : LaysM.n171 Tryz.prog Tryz.laysItoa_ren where
  mixed := by kernel_rfl
  f129 := Tryz.func184.trans (congrArg some (by kernel_rfl))
  f171 := Tryz.func35.trans (congrArg some (by kernel_rfl))
  f243 := Tryz.func65.trans (congrArg some (by kernel_rfl))
  f246 := Tryz.func111.trans (congrArg some (by kernel_rfl))
  f283 := Tryz.func164.trans (congrArg some (by kernel_rfl))
  f284 := Tryz.func165.trans (congrArg some (by kernel_rfl))
  f285 := Tryz.func166.trans (congrArg some (by kernel_rfl))
  f286 := Tryz.func167.trans (congrArg some (by kernel_rfl))
  f317 := Tryz.func183.trans (congrArg some (by kernel_rfl))
  f318 := Tryz.func185.trans (congrArg some (by kernel_rfl))
  f319 := Tryz.func186.trans (congrArg some (by kernel_rfl))
  f320 := Tryz.func187.trans (congrArg some (by kernel_rfl))
  f337 := Tryz.func193.trans (congrArg some (by kernel_rfl))
  f338 := Tryz.func194.trans (congrArg some (by kernel_rfl))
  t0 := Tryz.underlying0
  a0 := Tryz.isAgg0
  z0 := Tryz.sizeOf0
  v0 := Tryz.zeroValue0
  t2 := Tryz.underlying2
  a2 := Tryz.isAgg2
  z2 := Tryz.sizeOf2
  v2 := Tryz.zeroValue2
  t3 := Tryz.underlying3
  a3 := Tryz.isAgg3
  z3 := Tryz.sizeOf3
  v3 := Tryz.zeroValue3
  t4 := Tryz.underlying4
  a4 := Tryz.isAgg4
  z4 := Tryz.sizeOf4
  v4 := Tryz.zeroValue4
  t5 := Tryz.underlying5
  a5 := Tryz.isAgg5
  z5 := Tryz.sizeOf5
  v5 := Tryz.zeroValue5
  t9 := Tryz.underlying9
  a9 := Tryz.isAgg9
  z9 := Tryz.sizeOf9
  v9 := Tryz.zeroValue9
  t20 := Tryz.underlying20
  a20 := Tryz.isAgg20
  z20 := Tryz.sizeOf20
  v20 := Tryz.zeroValue20
  t37 := Tryz.underlying75
  a37 := Tryz.isAgg75
  z37 := Tryz.sizeOf75
  v37 := Tryz.zeroValue75
  t46 := Tryz.underlying227
  a46 := Tryz.isAgg227
  z46 := Tryz.sizeOf227
  v46 := Tryz.zeroValue227
  t51 := Tryz.underlying224
  a51 := Tryz.isAgg224
  z51 := Tryz.sizeOf224
  v51 := Tryz.zeroValue224
  t53 := Tryz.underlying207
  a53 := Tryz.isAgg207
  z53 := Tryz.sizeOf207
  v53 := Tryz.zeroValue207
  t171 := Tryz.underlying206
  a171 := Tryz.isAgg206
  z171 := Tryz.sizeOf206
  v171 := Tryz.zeroValue206
  t173 := Tryz.underlying210
  a173 := Tryz.isAgg210
  z173 := Tryz.sizeOf210
  v173 := Tryz.zeroValue210
  t212 := Tryz.underlying223
  a212 := Tryz.isAgg223
  z212 := Tryz.sizeOf223
  v212 := Tryz.zeroValue223
  t213 := Tryz.underlying225
  a213 := Tryz.isAgg225
  z213 := Tryz.sizeOf225
  t232 := Tryz.underlying237
  a232 := Tryz.isAgg237
  z232 := Tryz.sizeOf237
  v232 := Tryz.zeroValue237
  t233 := Tryz.underlying238
  a233 := Tryz.isAgg238
  z233 := Tryz.sizeOf238
  v233 := Tryz.zeroValue238
  g17 := by kernel_rfl
  g18 := by kernel_rfl
  g19 := by kernel_rfl
  i0 := by kernel_rfl
  i2 := by kernel_rfl
  i3 := by kernel_rfl
  i4 := by kernel_rfl
  i5 := by kernel_rfl
  i9 := by kernel_rfl
  i20 := by kernel_rfl
  i37 := by kernel_rfl
  i46 := by kernel_rfl
  i51 := by kernel_rfl
  i53 := by kernel_rfl
  i171 := by kernel_rfl
  i173 := by kernel_rfl
  i212 := by kernel_rfl
  i232 := by kernel_rfl
  i233 := by kernel_rfl
  m17 := by kernel_rfl
  m18 := by kernel_rfl
  m19 := by kernel_rfl
end Go.Proofs.YtmnfndpbblpjiaaGreatDoor

/- Numbers joined to a text of inputs, and read again: plain. -/
namespace Go.Proofs.YtmnfndpbblpjiaaGreatDoor.Pu
def decB (n : Int) : List UInt8 := (if n < 0 then [45] else []) ++ decN n.natAbs
theorem dec_B (n : Int) : dec n = ⟨(decB n).toArray⟩ := rfl
/-- The first k numbers, joined. -/
def jnT (l : List Int) : Nat → List UInt8
  | 0 => []
  | k + 1 => jnT l k ++ (if 0 < k then [44] else []) ++ decB (l[k]?.getD 0)
def jnL (l : List Int) : ByteArray := ⟨(jnT l l.length).toArray⟩
theorem decB_len (n : Int) : (decB n).length ≤ 3 := by
  unfold decB decN
  split <;> split <;> simp
theorem decB_pos (n : Int) : 0 < (decB n).length := by
  unfold decB decN
  split <;> split <;> simp
theorem jnT_len (l : List Int) (k : Nat) : (jnT l k).length ≤ 4 * k := by
  induction k with
  | zero => simp [jnT]
  | succ k ih =>
    have := decB_len (l[k]?.getD 0)
    simp only [jnT, List.length_append]
    split <;> simp <;> omega
theorem decB_byte {n : Int} (h1 : -99 ≤ n) (h2 : n ≤ 99) : ∀ c ∈ decB n, c.toNat ≠ 44 := by
  intro c hc
  unfold decB at hc
  rcases List.mem_append.1 hc with hc | hc
  · split at hc
    · simp at hc; subst hc; decide
    · cases hc
  · rcases decN_get (n := n.natAbs) (by omega) with ⟨h, e⟩ | ⟨h, e⟩ <;> rw [e] at hc
    · rw [List.mem_singleton] at hc; rw [hc, ofNat_toNat (by omega)]; omega
    · rcases List.mem_cons.1 hc with hc | hc
      · rw [hc, ofNat_toNat (by omega)]; omega
      · rw [List.mem_singleton] at hc; rw [hc, ofNat_toNat (by omega)]; omega
theorem g_bytes (l : List UInt8) (i : Nat) : g ⟨l.toArray⟩ i = (l[i]?.getD 0).toNat := by
  unfold g bt
  have hs : (⟨l.toArray⟩ : ByteArray).size = l.length := by simp [ByteArray.size]
  by_cases h : i < l.length
  · rw [dif_pos (by rw [hs]; exact h), List.getElem?_eq_getElem h]
    rfl
  · rw [dif_neg (by rw [hs]; exact h), List.getElem?_eq_none (by omega)]
    rfl
theorem ba_ext {x y : ByteArray} (h : x.data.toList = y.data.toList) : x = y := by
  cases x; cases y
  simp only [ByteArray.mk.injEq]
  exact Array.toList_inj.1 h
theorem ba_size (l : List UInt8) : (⟨l.toArray⟩ : ByteArray).size = l.length := by simp [ByteArray.size]
theorem dec_inj {n m : Int} (h1 : -99 ≤ n) (h2 : n ≤ 99) (h3 : -99 ≤ m) (h4 : m ≤ 99) (h : dec n = dec m) : n = m := by
  have hx : (dec n).extract 0 (dec n).size = dec n := by apply ba_ext; simp
  have a := rdN_of (s := dec n) (f := 0) (e := (dec n).size) (by omega) (Nat.le_refl _) (.inl rfl) hx h1 h2
  have b := rdN_of (s := dec n) (f := 0) (e := (dec n).size) (by omega) (Nat.le_refl _) (.inl rfl) (hx.trans h) h3 h4
  rw [a] at b
  cases b; rfl
theorem numer_dec' {n : Int} (h1 : -99 ≤ n) (h2 : n ≤ 99) : numer (dec n) = some n := by
  obtain ⟨j, rfl⟩ : ∃ j : Nat, n = (j : Int) - 99 := ⟨(n + 99).toNat, by omega⟩
  refine numer_some (by omega) rfl (fun i hi e => ?_)
  have := dec_inj h1 h2 (by omega) (by omega) e
  omega
theorem inpSt_go {s : ByteArray} {f : Nat} {r : Nat × List Int} (m : Nat) (h : inpSt s f = some r) (hc : ∀ i, f ≤ i → i < f + m → i < s.size ∧ g s i ≠ 44) : inpSt s (f + m) = some r := by
  induction m with
  | zero => exact h
  | succ m ih =>
    have hh := ih (fun i a b => hc i a (by omega))
    have h2 := hc (f + m) (by omega) (by omega)
    obtain ⟨a, b⟩ := r
    show inpSt s (f + m + 1) = _
    refine inpSt_on hh (fun e => ?_)
    rcases e with e | e
    · have := h2.1; omega
    · exact h2.2 e
theorem jnT_pre (l : List Int) : ∀ d k, ∃ r, jnT l (k + d) = jnT l k ++ r ∧ (0 < k → 0 < d → ∃ r', r = 44 :: r') := by
  intro d
  induction d with
  | zero => intro k; exact ⟨[], by simp, fun _ h => by omega⟩
  | succ d ih =>
    intro k
    obtain ⟨r, hr, h44⟩ := ih k
    refine ⟨r ++ (if 0 < k + d then [44] else []) ++ decB (l[k + d]?.getD 0), ?_, fun hk _ => ?_⟩
    · rw [← Nat.add_assoc, jnT, hr]; simp
    · rw [if_pos (by omega)]
      by_cases hd : 0 < d
      · obtain ⟨r', rfl⟩ := h44 hk hd
        exact ⟨r' ++ ([44] ++ decB (l[k + d]?.getD 0)), by simp⟩
      · have : d = 0 := by omega
        subst this
        have hr0 : r = [] := by
          have := congrArg List.length hr
          simp at this
          exact this
        subst hr0
        exact ⟨_, rfl⟩
theorem ext_list (a b c : List UInt8) : (⟨(a ++ b ++ c).toArray⟩ : ByteArray).extract a.length (a.length + b.length) = ⟨b.toArray⟩ := by
  apply ba_ext
  simp
theorem jn_step {l : List Int} (hl : ∀ x ∈ l, -99 ≤ x ∧ x ≤ 99) {k : Nat} (hk : k < l.length) (f : Nat) (hf : f = (jnT l k).length + (if 0 < k then 1 else 0)) (h : inpSt (jnL l) f = some (f, l.take k)) :
    inpSt (jnL l) ((jnT l (k + 1)).length + 1) = some ((jnT l (k + 1)).length + 1, l.take (k + 1)) ∧ (k + 1 = l.length → (jnT l (k + 1)).length = (jnL l).size) := by
  obtain ⟨r, hr, h44⟩ := jnT_pre l (l.length - (k + 1)) (k + 1)
  rw [show k + 1 + (l.length - (k + 1)) = l.length by omega] at hr
  have hg : l[k]?.getD 0 = l[k] := by simp [hk]
  have hx := hl l[k] (List.getElem_mem hk)
  have hA : jnT l (k + 1) = (jnT l k ++ (if 0 < k then [44] else [])) ++ decB l[k] := by rw [jnT, hg]
  have hfl : f = (jnT l k ++ (if 0 < k then [44] else [])).length := by rw [hf]; split <;> simp
  generalize hP : jnT l k ++ (if 0 < k then [44] else []) = P at *
  have hS : jnL l = ⟨(P ++ decB l[k] ++ r).toArray⟩ := by unfold jnL; rw [hr, hA]
  have hp : (jnT l (k + 1)).length = f + (decB l[k]).length := by rw [hA, hfl]; simp
  have hsz : (jnL l).size = f + (decB l[k]).length + r.length := by rw [hS, ba_size, hfl]; simp; omega
  have hgo := inpSt_go (decB l[k]).length h (fun i a b => by
    refine ⟨by omega, ?_⟩
    rw [hS, g_bytes]
    have hb := decB_byte hx.1 hx.2
    rw [List.append_assoc, List.getElem?_append_right (by omega), List.getElem?_append_left (by omega), List.getElem?_eq_getElem (by omega)]
    exact hb _ (List.getElem_mem _))
  have hext : (jnL l).extract f (f + (decB l[k]).length) = dec l[k] := by rw [hS, hfl, ext_list]; rfl
  have hnum := numer_dec' hx.1 hx.2
  rw [← hext] at hnum
  have hend : f + (decB l[k]).length = (jnL l).size ∨ g (jnL l) (f + (decB l[k]).length) = 44 := by
    by_cases hd : 0 < l.length - (k + 1)
    · right
      obtain ⟨r', rfl⟩ := h44 (by omega) hd
      rw [hS, g_bytes, List.getElem?_append_right (by simp; omega)]
      simp [hfl]
    · left
      have hr0 : r = [] := by
        have e : l.length = k + 1 := by omega
        have := congrArg List.length hr
        rw [e] at this
        simp at this
        exact this
      rw [hsz, hr0]; rfl
  rw [hp]
  refine ⟨?_, fun e => ?_⟩
  · rw [inpSt_num hgo hend hnum, List.take_succ_eq_append_getElem hk]
  · rcases hend with hh | hh
    · exact hh
    · have hr0 : r = [] := by
        have := congrArg List.length hr
        rw [← e] at this
        simp at this
        exact this
      rw [hsz, hr0]; rfl
theorem jn_all {l : List Int} (hl : ∀ x ∈ l, -99 ≤ x ∧ x ≤ 99) {k : Nat} (h0 : 0 < k) (hk : k ≤ l.length) : inpSt (jnL l) ((jnT l k).length + 1) = some ((jnT l k).length + 1, l.take k) ∧ (k = l.length → (jnT l k).length = (jnL l).size) := by
  induction k with
  | zero => omega
  | succ k ih =>
    by_cases hk0 : 0 < k
    · refine jn_step hl (by omega) ((jnT l k).length + 1) (by rw [if_pos hk0]) (ih hk0 (by omega)).1
    · have : k = 0 := by omega
      subst this
      exact jn_step hl (by omega) 0 (by simp [jnT]) rfl
theorem jn_inps {l : List Int} (hl : ∀ x ∈ l, -99 ≤ x ∧ x ≤ 99) : inps (jnL l) = some l := by
  by_cases h : l.length = 0
  · have : l = [] := List.eq_nil_of_length_eq_zero h
    subst this
    rfl
  · obtain ⟨h1, h2⟩ := jn_all hl (k := l.length) (by omega) (Nat.le_refl _)
    have h3 := h2 rfl
    rw [h3, List.take_length] at h1
    refine inps_good ?_ h1
    obtain ⟨m, hm⟩ : ∃ m, l.length = m + 1 := ⟨l.length - 1, by omega⟩
    have := decB_pos (l[m]?.getD 0)
    rw [← h3, hm, jnT]
    simp only [List.length_append]
    omega
theorem jn_size (l : List Int) (h : l.length ≤ 34) : (jnL l).size ≤ 140 := by
  unfold jnL
  rw [ba_size]
  have := jnT_len l l.length
  omega
end Go.Proofs.YtmnfndpbblpjiaaGreatDoor.Pu

/- Itoa of the numbers that can be inputs; numbers joined. -/
namespace Go.Proofs.YtmnfndpbblpjiaaGreatDoor
open Go.RowKit Pu
/-- The library's table of powers lies as its text lays it. -/
def Tab (w : World) : Prop := Lib.TabIs Tryz.prog w (Rows.checksRow.named.headD Rows.checksRow.func) .u64 Lib.pow10Tab
theorem Tab.mod {w w' : World} (h : Tab w) (hm : Mod (fun _ => False) w w') : Tab w' := by
  unfold Tab Lib.TabIs World.var? at *
  obtain ⟨g, hg, h⟩ := Option.bind_eq_some_iff.1 h
  rw [hg]
  show (match w'.heap[g]? with | some (.cells cs _ _) => some cs | _ => none) = _
  split at h
  · rename_i cs ty z hc
    rw [hm.keep hc (fun f => f)]
    exact h
  · cases h
theorem Mod.grow (w : World) (k : Nat) (os : Array Obj) : Mod (fun _ => False) w (Sort.grow (w.drewN k) os) := by
  refine ⟨rfl, rfl, rfl, ?_, fun i hi _ => ?_⟩
  · show w.heap.size ≤ (w.heap ++ os).size
    simp
  · show (w.heap ++ os)[i]? = w.heap[i]?
    rw [Array.getElem?_append_left hi]
theorem itoa_dec : ∀ i : Nat, i < 199 → Lib.itoa ((i : Int) - 99) = decB ((i : Int) - 99) := by decide +kernel
theorem itoaN_any (n : Int) (h1 : -99 ≤ n) (h2 : n ≤ 99) (w : World) (hT : Tab w) : Calls Tryz.prog 35 #[.int .i64 n] w fun e w' => e = .returned (.string (dec n)) ∧ Mod (fun _ => False) w w' := by
  obtain ⟨i, rfl⟩ : ∃ i : Nat, n = (i : Int) - 99 := ⟨(n + 99).toNat, by omega⟩
  refine (Any.strconv_Itoa Tryz.laysItoa _ (by omega) (by omega) w hT).mono ?_
  rintro e w' ⟨rfl, k, os, rfl⟩
  exact ⟨by rw [itoa_dec i (by omega)]; rfl, Mod.grow w k os⟩
end Go.Proofs.YtmnfndpbblpjiaaGreatDoor

/- rulerkeep's small helpers. -/
namespace Go.Proofs.YtmnfndpbblpjiaaGreatDoor
open Go.RowKit Pu
/-- The number that a raw one picks. -/
def pk (c n : Int) : Int := (if c < 0 then -(c + 1) else c) % n
def plc (c : Int) : Int := pk c 199 - 99
theorem pk_range (c n : Int) (h : 0 < n) : 0 ≤ pk c n ∧ pk c n < n := ⟨Int.emod_nonneg _ (by omega), Int.emod_lt_of_pos _ h⟩
theorem plc_range (c : Int) : -99 ≤ plc c ∧ plc c ≤ 99 := by
  have := pk_range c 199 (by omega)
  unfold plc
  omega
def isI (c : Int) : Prop := -9223372036854775808 ≤ c ∧ c ≤ 9223372036854775807
set_option maxHeartbeats 400000 in
theorem kpick_any (c n : Int) (w : World) (hc : isI c) (hn : 0 < n) (hn2 : n < 1000) : Calls Tryz.prog 31 #[.int .i64 c, .int .i64 n] w fun e w' => e = .returned (.int .i64 (pk c n)) ∧ w = w' := by
  obtain ⟨c1, c2⟩ := hc
  have hne : (n == 0) = false := by rw [beq_eq_false_iff_ne]; omega
  have hn0 : n ≠ 0 := by omega
  by_cases h : c < 0
  · have HP : Hid (pk c n = (-(c + 1)) % n) := show pk c n = _ by unfold pk; rw [if_pos h]
    have w1 : IntKind.i64.wrap (c + 1) = c + 1 := by simp [IntKind.wrap, IntKind.signed, IntKind.bits]; omega
    have w2 : IntKind.i64.wrap (-(c + 1)) = -(c + 1) := by simp [IntKind.wrap, IntKind.signed, IntKind.bits]; omega
    have hb := Int.emod_nonneg (-(c + 1)) hn0
    have hb2 := Int.emod_lt_of_pos (-(c + 1)) hn
    have ht : (-(c + 1)).tmod n = (-(c + 1)) % n := Int.tmod_eq_emod_of_nonneg (by omega)
    have w3 : IntKind.i64.wrap ((-(c + 1)).tmod n) = (-(c + 1)) % n := by rw [ht]; simp [IntKind.wrap, IntKind.signed, IntKind.bits]; omega
    go_enter Tryz.func31, Tryz.ntmps31
    go_wp2_with fail
    go_ret
    exact ⟨by rw [HP.out]; rfl, rfl⟩
  · have HP : Hid (pk c n = c % n) := show pk c n = _ by unfold pk; rw [if_neg h]
    have hb := Int.emod_nonneg c hn0
    have hb2 := Int.emod_lt_of_pos c hn
    have ht : c.tmod n = c % n := Int.tmod_eq_emod_of_nonneg (by omega)
    have w3 : IntKind.i64.wrap (c.tmod n) = c % n := by rw [ht]; simp [IntKind.wrap, IntKind.signed, IntKind.bits]; omega
    go_enter Tryz.func31, Tryz.ntmps31
    go_wp2_with fail
    go_ret
    exact ⟨by rw [HP.out]; rfl, rfl⟩
set_option maxHeartbeats 400000 in
theorem kplace_any (c : Int) (w : World) (hc : isI c) : Calls Tryz.prog 19 #[.int .i64 c] w fun e w' => e = .returned (.int .i64 (plc c)) ∧ w = w' := by
  have hp := kpick_any c 199 w hc (by omega) (by omega)
  have hr := pk_range c 199 (by omega)
  have HP : Hid (plc c = pk c 199 - 99) := rfl
  generalize pk c 199 = p at *
  have w1 : IntKind.i64.wrap (p - 99) = p - 99 := by simp [IntKind.wrap, IntKind.signed, IntKind.bits]; omega
  go_enter Tryz.func19, Tryz.ntmps19
  go_wp2_with fail
  refine hp.mono ?_
  rintro e w1 ⟨rfl, rfl⟩
  clear hp
  go_wp2_with fail
  go_ret
  exact ⟨by rw [HP.out]; rfl, rfl⟩
set_option maxHeartbeats 800000 in
theorem joined_any (v : Value) (l : List Int) (base : Nat) (w : World) (hl : l.length ≤ 34) (hI : w.ownsRow base 3 1 v l.length (zvs l)) (hr : ∀ x ∈ l, -99 ≤ x ∧ x ≤ 99) (hT : Tab w) :
    Calls Tryz.prog 21 #[v] w fun e w' => e = .returned (.string (jnL l)) ∧ Mod (fun _ => False) w w' := by
  obtain ⟨ao, cap, rfl, -⟩ := owns_form hI
  have HR : Hid (∀ x ∈ l, -99 ≤ x ∧ x ≤ 99) := hr
  have HT : Hid (Tab w) := hT
  clear hr hT
  go_enter Tryz.func21, Tryz.ntmps21
  go_wp2_with fail
  go_loopw [3, 4] (fun sv iv wr => ∃ (k : Nat) (sk : ByteArray), k ≤ l.length ∧ iv = .int .i64 k ∧ sv = .string sk ∧ Hid (sk = ⟨(jnT l k).toArray⟩) ∧ sk.size ≤ 4 * k ∧ Mod (fun _ => False) w wr) (fun _ iv _ => l.length - (intOf iv).toNat)
  case atStart => exact ⟨0, ⟨#[]⟩, by omega, rfl, rfl, rfl, Nat.le_refl _, Mod.refl _ _⟩
  case round =>
    obtain ⟨k, sk, hk, rfl, rfl, HS, hsz, hm⟩ := hrel
    by_cases hlt : k < l.length
    · have hIr := owns_mod hI hm (fun _ _ f => f)
      obtain ⟨gb, rfl, ck⟩ := zvs_cell hIr rfl hlt
      have hx := HR.out l[k] (List.getElem_mem hlt)
      have HX : Hid (l[k]?.getD 0 = l[k]) := show l[k]?.getD 0 = l[k] by simp [hlt]
      have hds := dec_size l[k]
      have HT' : Hid _ := HT.out.mod hm
      have HN : Hid (∀ b : Bool, (b = true ↔ 0 < k) → sk ++ (if b then ⟨#[44]⟩ else ⟨#[]⟩) ++ dec l[k] = ⟨(jnT l (k + 1)).toArray⟩) := fun b hb => by
        rw [HS.out, jnT, HX.out, dec_B]
        cases b
        · rw [if_neg (by decide), if_neg (fun e => by have := hb.2 e; cases this)]
          exact (congrArg (· ++ _) (app_bytes _ [])).trans (app_bytes _ _)
        · rw [if_pos rfl, if_pos (hb.1 rfl)]
          exact (congrArg (· ++ _) (app_bytes _ [44])).trans (app_bytes _ _)
      generalize l[k] = x at *
      by_cases h0 : 0 < k
      · have HN2 := HN.out true (by simpa using h0)
        simp only [if_true] at HN2
        have HN2 : Hid (sk ++ ⟨#[44]⟩ ++ dec x = ⟨(jnT l (k + 1)).toArray⟩) := HN2
        have hit := itoaN_any x hx.1 hx.2 wr HT'.out
        clear HN HS
        go_wp2_with (go_at_call 35; refine hit.mono ?_; rintro e w2 ⟨rfl, k2⟩)
        go_roundw
        case rel => exact ⟨k + 1, _, by omega, by go_num, rfl, rfl, by rw [ba_size]; exact jnT_len l (k + 1), hm.trans k2⟩
        case measure => simp [intOf]; omega
      · have HN2 := HN.out false (by simpa using h0)
        simp only [Bool.false_eq_true, if_false] at HN2
        have HN2 : Hid (sk ++ dec x = ⟨(jnT l (k + 1)).toArray⟩) := by
          have e : sk ++ (⟨#[]⟩ : ByteArray) = sk := by apply ba_ext; simp
          rwa [e] at HN2
        have hit := itoaN_any x hx.1 hx.2 wr HT'.out
        clear HN HS
        go_wp2_with (go_at_call 35; refine hit.mono ?_; rintro e w2 ⟨rfl, k2⟩)
        go_roundw
        case rel => exact ⟨k + 1, _, by omega, by go_num, rfl, HN2, by rw [HN2.out, ba_size]; exact jnT_len l (k + 1), hm.trans k2⟩
        case measure => simp [intOf]; omega
    · have hks : k = l.length := by omega
      subst hks
      go_wp2_with fail
      go_ret
      exact ⟨by rw [HS.out]; rfl, hm⟩
end Go.Proofs.YtmnfndpbblpjiaaGreatDoor

/- The sources that the statements name, plainly: what they are, what they tell. -/
namespace Go.Proofs.YtmnfndpbblpjiaaGreatDoor.Pu
def okB (p : List (St × Nat)) : Bool := (List.range p.length).all fun j => match p[j]? with
  | some y => decide (err (p.take j) y.1 = 0) && decide (y.2 = wgh (p.take j) y.1)
  | none => true
theorem okB_ok {p : List (St × Nat)} (h : okB p = true) : Ok p := by
  intro j hj
  unfold okB at h
  rw [List.all_eq_true] at h
  have := h j (by simpa using hj)
  rw [List.getElem?_eq_getElem hj] at this
  simpa using this
def stW (s : ByteArray) : Bool := match stA s s.size with
  | some x => decide (x.st = 0)
  | none => false
theorem stW_whole {s : ByteArray} (h : stW s = true) : Whole s := by
  unfold stW at h
  split at h
  · rename_i x hx; exact ⟨x, hx, by simpa using h⟩
  · cases h
def awkC : List Cmd := [.pt, .pt, .pt, .col 0 1 2, .ccw 0 1 2, .btw 0 1 2]
def medS : ByteArray := ⟨[97, 61, 112, 116, 40, 41, 59, 98, 61, 112, 116, 40, 41, 59, 99, 61, 112, 116, 40, 41, 59, 100, 61, 109, 105, 100, 40, 98, 44, 99, 41, 59, 101, 61, 109, 105, 100, 40, 99, 44, 97, 41, 59, 102, 61, 109, 105, 100, 40, 97, 44, 98, 41, 59, 108, 61, 108, 105, 110, 101, 40, 97, 44, 100, 41, 59, 109, 61, 108, 105, 110, 101, 40, 98, 44, 101, 41, 59, 110, 61, 108, 105, 110, 101, 40, 99, 44, 102, 41, 59, 63, 99, 99, 40, 108, 44, 109, 44, 110, 41, 59].toArray⟩
def medP : List (St × Nat) := [(⟨97, [112, 116], []⟩, 1), (⟨98, [112, 116], []⟩, 1), (⟨99, [112, 116], []⟩, 1), (⟨100, [109, 105, 100], [98, 99]⟩, 2), (⟨101, [109, 105, 100], [99, 97]⟩, 2), (⟨102, [109, 105, 100], [97, 98]⟩, 2), (⟨108, [108, 105, 110, 101], [97, 100]⟩, 3), (⟨109, [108, 105, 110, 101], [98, 101]⟩, 3), (⟨110, [108, 105, 110, 101], [99, 102]⟩, 3), (⟨0, [99, 99], [108, 109, 110]⟩, 0)]
theorem med_whole : Whole medS := stW_whole (by kernel_rfl)
theorem med_ok : Ok medP := okB_ok (by kernel_rfl)
theorem med_ga : (gaA medS medS.size).l = sts medP := by kernel_rfl
theorem med_cmds : cmds (sts medP) = medC := by kernel_rfl
def hgtS : ByteArray := ⟨[97, 61, 112, 116, 40, 41, 59, 98, 61, 112, 116, 40, 41, 59, 99, 61, 112, 116, 40, 41, 59, 108, 61, 108, 105, 110, 101, 40, 98, 44, 99, 41, 59, 109, 61, 108, 105, 110, 101, 40, 99, 44, 97, 41, 59, 110, 61, 108, 105, 110, 101, 40, 97, 44, 98, 41, 59, 117, 61, 112, 101, 114, 112, 40, 97, 44, 108, 41, 59, 118, 61, 112, 101, 114, 112, 40, 98, 44, 109, 41, 59, 119, 61, 112, 101, 114, 112, 40, 99, 44, 110, 41, 59, 63, 99, 99, 40, 117, 44, 118, 44, 119, 41, 59, 104, 61, 109, 101, 101, 116, 40, 117, 44, 118, 41, 59, 63, 111, 110, 40, 104, 44, 119, 41, 59].toArray⟩
def hgtP : List (St × Nat) := [(⟨97, [112, 116], []⟩, 1), (⟨98, [112, 116], []⟩, 1), (⟨99, [112, 116], []⟩, 1), (⟨108, [108, 105, 110, 101], [98, 99]⟩, 2), (⟨109, [108, 105, 110, 101], [99, 97]⟩, 2), (⟨110, [108, 105, 110, 101], [97, 98]⟩, 2), (⟨117, [112, 101, 114, 112], [97, 108]⟩, 3), (⟨118, [112, 101, 114, 112], [98, 109]⟩, 3), (⟨119, [112, 101, 114, 112], [99, 110]⟩, 3), (⟨0, [99, 99], [117, 118, 119]⟩, 0), (⟨104, [109, 101, 101, 116], [117, 118]⟩, 6), (⟨0, [111, 110], [104, 119]⟩, 0)]
theorem hgt_whole : Whole hgtS := stW_whole (by kernel_rfl)
theorem hgt_ok : Ok hgtP := okB_ok (by kernel_rfl)
theorem hgt_ga : (gaA hgtS hgtS.size).l = sts hgtP := by kernel_rfl
theorem hgt_cmds : cmds (sts hgtP) = hgtC := by kernel_rfl
def chdS : ByteArray := ⟨[97, 61, 112, 116, 40, 41, 59, 98, 61, 112, 116, 40, 41, 59, 99, 61, 112, 116, 40, 41, 59, 109, 61, 109, 105, 100, 40, 97, 44, 98, 41, 59, 108, 61, 108, 105, 110, 101, 40, 97, 44, 98, 41, 59, 112, 61, 112, 101, 114, 112, 40, 109, 44, 108, 41, 59, 100, 61, 109, 105, 114, 114, 111, 114, 40, 99, 44, 112, 41, 59, 63, 99, 111, 110, 40, 97, 44, 98, 44, 99, 44, 100, 41, 59, 63, 115, 97, 109, 101, 40, 99, 44, 100, 41, 59].toArray⟩
def chdP : List (St × Nat) := [(⟨97, [112, 116], []⟩, 1), (⟨98, [112, 116], []⟩, 1), (⟨99, [112, 116], []⟩, 1), (⟨109, [109, 105, 100], [97, 98]⟩, 2), (⟨108, [108, 105, 110, 101], [97, 98]⟩, 2), (⟨112, [112, 101, 114, 112], [109, 108]⟩, 4), (⟨100, [109, 105, 114, 114, 111, 114], [99, 112]⟩, 10), (⟨0, [99, 111, 110], [97, 98, 99, 100]⟩, 0), (⟨0, [115, 97, 109, 101], [99, 100]⟩, 0)]
theorem chd_whole : Whole chdS := stW_whole (by kernel_rfl)
theorem chd_ok : Ok chdP := okB_ok (by kernel_rfl)
theorem chd_ga : (gaA chdS chdS.size).l = sts chdP := by kernel_rfl
theorem chd_cmds : cmds (sts chdP) = chdC := by kernel_rfl
def ninS : ByteArray := ⟨[97, 61, 112, 116, 40, 41, 59, 98, 61, 112, 116, 40, 41, 59, 99, 61, 112, 116, 40, 41, 59, 100, 61, 109, 105, 100, 40, 98, 44, 99, 41, 59, 101, 61, 109, 105, 100, 40, 99, 44, 97, 41, 59, 102, 61, 109, 105, 100, 40, 97, 44, 98, 41, 59, 108, 61, 108, 105, 110, 101, 40, 98, 44, 99, 41, 59, 103, 61, 102, 111, 111, 116, 40, 97, 44, 108, 41, 59, 63, 99, 111, 110, 40, 100, 44, 101, 44, 102, 44, 103, 41, 59].toArray⟩
def ninP : List (St × Nat) := [(⟨97, [112, 116], []⟩, 1), (⟨98, [112, 116], []⟩, 1), (⟨99, [112, 116], []⟩, 1), (⟨100, [109, 105, 100], [98, 99]⟩, 2), (⟨101, [109, 105, 100], [99, 97]⟩, 2), (⟨102, [109, 105, 100], [97, 98]⟩, 2), (⟨108, [108, 105, 110, 101], [98, 99]⟩, 2), (⟨103, [102, 111, 111, 116], [97, 108]⟩, 5), (⟨0, [99, 111, 110], [100, 101, 102, 103]⟩, 0)]
theorem nin_whole : Whole ninS := stW_whole (by kernel_rfl)
theorem nin_ok : Ok ninP := okB_ok (by kernel_rfl)
theorem nin_ga : (gaA ninS ninS.size).l = sts ninP := by kernel_rfl
theorem nin_cmds : cmds (sts ninP) = ninC := by kernel_rfl
def sidS : ByteArray := ⟨[97, 61, 112, 116, 40, 41, 59, 98, 61, 112, 116, 40, 41, 59, 99, 61, 112, 116, 40, 41, 59, 63, 99, 111, 108, 40, 97, 44, 98, 44, 99, 41, 59, 63, 99, 99, 119, 40, 97, 44, 98, 44, 99, 41, 59, 63, 99, 99, 119, 40, 99, 44, 98, 44, 97, 41, 59, 63, 98, 116, 119, 40, 97, 44, 98, 44, 99, 41, 59].toArray⟩
def sidP : List (St × Nat) := [(⟨97, [112, 116], []⟩, 1), (⟨98, [112, 116], []⟩, 1), (⟨99, [112, 116], []⟩, 1), (⟨0, [99, 111, 108], [97, 98, 99]⟩, 0), (⟨0, [99, 99, 119], [97, 98, 99]⟩, 0), (⟨0, [99, 99, 119], [99, 98, 97]⟩, 0), (⟨0, [98, 116, 119], [97, 98, 99]⟩, 0)]
theorem sid_whole : Whole sidS := stW_whole (by kernel_rfl)
theorem sid_ok : Ok sidP := okB_ok (by kernel_rfl)
theorem sid_ga : (gaA sidS sidS.size).l = sts sidP := by kernel_rfl
theorem sid_cmds : cmds (sts sidP) = sidC := by kernel_rfl
def awkS : ByteArray := ⟨[97, 61, 112, 116, 40, 41, 59, 98, 61, 112, 116, 40, 41, 59, 99, 61, 112, 116, 40, 41, 59, 63, 99, 111, 108, 40, 97, 44, 98, 44, 99, 41, 59, 63, 99, 99, 119, 40, 97, 44, 98, 44, 99, 41, 59, 63, 98, 116, 119, 40, 97, 44, 98, 44, 99, 41, 59].toArray⟩
def awkP : List (St × Nat) := [(⟨97, [112, 116], []⟩, 1), (⟨98, [112, 116], []⟩, 1), (⟨99, [112, 116], []⟩, 1), (⟨0, [99, 111, 108], [97, 98, 99]⟩, 0), (⟨0, [99, 99, 119], [97, 98, 99]⟩, 0), (⟨0, [98, 116, 119], [97, 98, 99]⟩, 0)]
theorem awk_whole : Whole awkS := stW_whole (by kernel_rfl)
theorem awk_ok : Ok awkP := okB_ok (by kernel_rfl)
theorem awk_ga : (gaA awkS awkS.size).l = sts awkP := by kernel_rfl
theorem awk_cmds : cmds (sts awkP) = awkC := by kernel_rfl
end Go.Proofs.YtmnfndpbblpjiaaGreatDoor.Pu

/- The program's Run and Compile. -/
namespace Go.Proofs.YtmnfndpbblpjiaaGreatDoor
open Go.RowKit Pu
/-- The report of statements with a text of inputs. -/
def rnS (l : List St) (inp : ByteArray) : ByteArray × Nat :=
  match inps inp with
  | none => (⟨#[]⟩, 9)
  | some ins => if ins.length ≠ cntI (cmds l) then (⟨#[]⟩, 9) else (semC ins (cmds l) 0 0 [] ⟨#[]⟩, 0)
theorem okG_good {p : List (St × Nat)} (h : Ok p) (hl : p.length ≤ 16) : ∀ t ∈ cmdsL (cmds (sts p)) 0 0, Good (cntI (cmds (sts p))) t := by
  have hm := Pu.made_any h hl
  have hr := (okL_iff _ _ _).2 (okG_okL _ _ hm.ok)
  intro t ht
  obtain ⟨j, hj, rfl⟩ := List.getElem_of_mem ht
  exact right_good (okG_small _ _ hm.ok _ (List.getElem_mem hj)) (Nat.le_refl _) (hr j hj)
theorem stt_rn {B nn : Nat} (hB : B = 10 ^ nn) (hn : nn = 8000) {p : List (St × Nat)} (h : Ok p) (hl : p.length ≤ 16) (inp : ByteArray) : stt B (cntI (cmds (sts p))) (cmdsL (cmds (sts p)) 0 0) inp = rnS (sts p) inp := by
  unfold stt rnS
  cases hin : inps inp with
  | none => rfl
  | some ins =>
    simp only
    by_cases hc : ins.length = cntI (cmds (sts p))
    · have hr := inps_range hin
      rw [if_neg (fun e => e hc), if_neg (fun e => e hc)]
      exact play_report hB hn ins (fun x hx => by have := hr x hx; omega) _ (wf_cmds h) (by rw [cmds_len]; exact hl) hc.symm
    · rw [if_pos hc, if_pos hc]
/-- What Run tells of texts that are not too long. -/
def RunA (s inp : ByteArray) (r : ByteArray × Nat) : Prop := ∃ a b, Ans s a b ∧ ((a ≠ 0 ∧ r = (⟨#[]⟩, a)) ∨ (a = 0 ∧ r = rnS (gaA s s.size).l inp))
theorem RunA.unique {s inp : ByteArray} {r t : ByteArray × Nat} (h : RunA s inp r) (k : RunA s inp t) : r = t := by
  obtain ⟨a, b, hA, h⟩ := h
  obtain ⟨c, d, kA, k⟩ := k
  obtain ⟨rfl, rfl⟩ := hA.unique kA
  rcases h with ⟨h0, rfl⟩ | ⟨h0, rfl⟩ <;> rcases k with ⟨k0, rfl⟩ | ⟨k0, rfl⟩
  · rfl
  · exact absurd k0 h0
  · exact absurd h0 k0
  · rfl
set_option maxHeartbeats 400000 in
theorem run_long (s inp : ByteArray) (w : World) (hs : 300 < s.size ∨ 140 < inp.size) (hm : s.size ≤ maxLen) (hm2 : inp.size ≤ maxLen) : Calls Tryz.prog 20 #[.string s, .string inp] w fun e w' => e = .returned (.tuple #[.string ⟨#[]⟩, .int .i64 1]) ∧ w = w' := by
  unfold maxLen at hm hm2
  by_cases h1 : 300 < s.size
  · have i1 : (300 : Int) < (s.size : Int) := by omega
    clear hs
    go_enter Tryz.func20, Tryz.ntmps20
    go_wp2_with fail
    go_ret2
    exact ⟨rfl, rfl⟩
  · have i1 : ¬ (300 : Int) < (s.size : Int) := by omega
    have i2 : (140 : Int) < (inp.size : Int) := by omega
    clear hs
    go_enter Tryz.func20, Tryz.ntmps20
    go_wp2_with fail
    go_ret2
    exact ⟨rfl, rfl⟩
set_option maxHeartbeats 1600000 in
set_option maxRecDepth 4000 in
theorem run_any (s inp : ByteArray) (w : World) (hs : s.size ≤ 300) (hi : inp.size ≤ 140) : Calls Tryz.prog 20 #[.string s, .string inp] w fun e w' => Mod (fun _ => False) w w' ∧ ∃ r, RunA s inp r ∧ e = .returned (.tuple #[.string r.1, .int .i64 (r.2 : Nat)]) := by
  have i1 : ¬ (300 : Int) < (s.size : Int) := by omega
  have i2 : ¬ (140 : Int) < (inp.size : Int) := by omega
  obtain ⟨nn, hnn⟩ : ∃ nn : Nat, nn = 8000 := ⟨8000, rfl⟩
  obtain ⟨B, hB⟩ : ∃ B : Nat, B = 10 ^ nn := ⟨_, rfl⟩
  have HB : Hid (B = 10 ^ nn) := hB
  have HNN : Hid (nn = 8000) := hnn
  clear hB hnn
  go_enter Tryz.func20, Tryz.ntmps20
  go_wp2_with fail
  refine (und_any s w hs).mono ?_
  rintro e w1 ⟨hm1, hu⟩
  rcases hu with ⟨k, hst, rfl⟩ | ⟨hW, p, k, hk, hok, hp, he, rfl⟩ | ⟨hW, v, q, hok, hqx, hL, hq16, rfl⟩
  · have HA : Hid (RunA s inp (⟨#[]⟩, 2)) := ⟨2, k, .inl ⟨hst, rfl⟩, .inl ⟨by decide, rfl⟩⟩
    clear hst
    go_wp2_with fail
    go_ret2
    exact ⟨hm1, _, HA.out, rfl⟩
  · have HA : Hid (RunA s inp (⟨#[]⟩, err p (gaA s s.size).l[k])) := ⟨_, k, .inr (.inl ⟨hW, p, hk, hok, hp, he, rfl⟩), .inl ⟨he, rfl⟩⟩
    have hb : ((err p (gaA s s.size).l[k] : Int) != 0) = true := by rw [bne_iff_ne]; omega
    generalize err p (gaA s s.size).l[k] = er at *
    clear he hok hp hW
    go_wp2_with fail
    go_ret2
    exact ⟨hm1, _, HA.out, rfl⟩
  · have hql : (pq q).length ≤ 16 := by simpa [pq] using hq16
    have HG : Hid _ := okG_good hok hql
    have HR : Hid _ := stt_rn HB.out HNN.out hok hql inp
    have hM := Pu.made_any hok hql
    have h256 : cntI (cmds (sts (pq q))) < 256 := by have := hM.n32; omega
    have hln : (cmdsL (cmds (sts (pq q))) 0 0).length ≤ 3000 := by have := hM.len; omega
    have HA : Hid (RunA s inp (rnS (sts (pq q)) inp)) := ⟨0, 0, .inr (.inr ⟨hW, rfl, rfl, pq q, hok, by rw [sts_pq]; exact hqx⟩), .inr ⟨rfl, by rw [sts_pq, hqx]⟩⟩
    have ht := trans_any v q _ w1 hq16 hL hok
    rw [sts_pq] at HG HR h256 hln HA
    clear hM hqx hok hW hq16 hql hL
    go_wp2_with fail
    refine ht.mono ?_
    clear ht
    rintro e w2 ⟨hm2, ao, n, cap, rfl, hP⟩
    generalize cntI (cmds (q.map It.x)) = NN at *
    generalize cmdsL (cmds (q.map It.x)) 0 0 = SS at *
    have hmB := (hm1.trans hm2).alloc (.cells #[.int .u8 128, .int .u8 (NN : Nat), .slice ao n cap] 52)
    have hPB := PLst.mod hP ((Mod.refl (fun _ => False) w2).alloc (.cells #[.int .u8 128, .int .u8 (NN : Nat), .slice ao n cap] 52))
    have f_p := heap_alloc_new w2 (.cells #[.int .u8 128, .int .u8 (NN : Nat), .slice ao n cap] 52)
    obtain ⟨c0, c1, c2⟩ := cells3 f_p
    have HH : Hid _ := And.intro hmB hPB
    clear hmB hPB f_p hm2 hP hm1
    go_wp2_with fail
    generalize w2.alloc (.cells #[.int .u8 128, .int .u8 (NN : Nat), .slice ao n cap] 52) = w3 at *
    clear c0 c1 c2
    obtain ⟨hmB, hPB⟩ := HH.out
    clear HH
    refine (start_any B nn HB.out HNN.out 128 NN (.slice ao n cap) SS _ inp w3 hln hPB hi h256 HG.out).mono ?_
    rintro e w4 ⟨rfl, hm4⟩
    rw [HR.out]
    have hmE := hmB.trans hm4
    generalize rnS (q.map It.x) inp = rr at *
    clear hmB hPB hm4
    go_wp2_with fail
    go_ret2
    exact ⟨hmE, _, HA.out, rfl⟩
/-- What Compile tells of a text that is not too long. -/
def CmpA (s : ByteArray) (r : ByteArray × Nat) : Prop := ∃ a b, Ans s a b ∧ ((a ≠ 0 ∧ r = (⟨#[]⟩, a)) ∨ (a = 0 ∧ r = (⟨(joined 128 (cntI (cmds (gaA s s.size).l)) (cmdsL (cmds (gaA s s.size).l) 0 0)).toArray⟩, 0)))
set_option maxHeartbeats 400000 in
theorem cmp_long (s : ByteArray) (w : World) (hs : 300 < s.size) (hm : s.size ≤ maxLen) : Calls Tryz.prog 29 #[.string s] w fun e w' => e = .returned (.tuple #[.string ⟨#[]⟩, .int .i64 1]) ∧ w = w' := by
  have hu := und_long s w hs hm
  go_enter Tryz.func29, Tryz.ntmps29
  go_wp2_with fail
  refine hu.mono ?_
  rintro e w1 ⟨rfl, rfl⟩
  clear hu
  go_wp2_with fail
  go_ret2
  exact ⟨rfl, rfl⟩
set_option maxHeartbeats 1600000 in
set_option maxRecDepth 4000 in
theorem cmp_any (s : ByteArray) (w : World) (hs : s.size ≤ 300) : Calls Tryz.prog 29 #[.string s] w fun e w' => Mod (fun _ => False) w w' ∧ ∃ r, CmpA s r ∧ e = .returned (.tuple #[.string r.1, .int .i64 (r.2 : Nat)]) := by
  go_enter Tryz.func29, Tryz.ntmps29
  go_wp2_with fail
  refine (und_any s w hs).mono ?_
  rintro e w1 ⟨hm1, hu⟩
  rcases hu with ⟨k, hst, rfl⟩ | ⟨hW, p, k, hk, hok, hp, he, rfl⟩ | ⟨hW, v, q, hok, hqx, hL, hq16, rfl⟩
  · have HA : Hid (CmpA s (⟨#[]⟩, 2)) := ⟨2, k, .inl ⟨hst, rfl⟩, .inl ⟨by decide, rfl⟩⟩
    clear hst
    go_wp2_with fail
    go_ret2
    exact ⟨hm1, _, HA.out, rfl⟩
  · have HA : Hid (CmpA s (⟨#[]⟩, err p (gaA s s.size).l[k])) := ⟨_, k, .inr (.inl ⟨hW, p, hk, hok, hp, he, rfl⟩), .inl ⟨he, rfl⟩⟩
    have hb : ((err p (gaA s s.size).l[k] : Int) != 0) = true := by rw [bne_iff_ne]; omega
    generalize err p (gaA s s.size).l[k] = er at *
    clear he hok hp hW
    go_wp2_with fail
    go_ret2
    exact ⟨hm1, _, HA.out, rfl⟩
  · have hql : (pq q).length ≤ 16 := by simpa [pq] using hq16
    have hM := Pu.made_any hok hql
    have HSM : Hid _ := okG_small _ _ hM.ok
    have h256 : cntI (cmds (sts (pq q))) < 256 := by have := hM.n32; omega
    have hln : (cmdsL (cmds (sts (pq q))) 0 0).length ≤ 3000 := by have := hM.len; omega
    have HA : Hid (CmpA s (⟨(joined 128 (cntI (cmds (sts (pq q)))) (cmdsL (cmds (sts (pq q))) 0 0)).toArray⟩, 0)) := ⟨0, 0, .inr (.inr ⟨hW, rfl, rfl, pq q, hok, by rw [sts_pq]; exact hqx⟩), .inr ⟨rfl, by rw [sts_pq, hqx]⟩⟩
    have ht := trans_any v q _ w1 hq16 hL hok
    rw [sts_pq] at HSM h256 hln HA
    clear hM hqx hok hW hq16 hql hL
    go_wp2_with fail
    refine ht.mono ?_
    clear ht
    rintro e w2 ⟨hm2, ao, n, cap, rfl, hP⟩
    generalize cntI (cmds (q.map It.x)) = NN at *
    generalize cmdsL (cmds (q.map It.x)) 0 0 = SS at *
    have hmB := (hm1.trans hm2).alloc (.cells #[.int .u8 128, .int .u8 (NN : Nat), .slice ao n cap] 52)
    have hPB := PLst.mod hP ((Mod.refl (fun _ => False) w2).alloc (.cells #[.int .u8 128, .int .u8 (NN : Nat), .slice ao n cap] 52))
    have f_p := heap_alloc_new w2 (.cells #[.int .u8 128, .int .u8 (NN : Nat), .slice ao n cap] 52)
    obtain ⟨c0, c1, c2⟩ := cells3 f_p
    have HH : Hid _ := And.intro hmB hPB
    clear hmB hPB f_p hm2 hP hm1
    go_wp2_with fail
    generalize w2.alloc (.cells #[.int .u8 128, .int .u8 (NN : Nat), .slice ao n cap] 52) = w3 at *
    clear c0 c1 c2
    obtain ⟨hmB, hPB⟩ := HH.out
    clear HH
    refine (join_any (.slice ao n cap) SS 128 NN _ w3 hln hPB HSM.out (by omega) h256).mono ?_
    rintro e w4 ⟨rfl, hm4⟩
    have hmE := hmB.trans hm4
    clear hmB hPB hm4
    go_wp2_with fail
    go_ret2
    exact ⟨hmE, _, HA.out, rfl⟩
end Go.Proofs.YtmnfndpbblpjiaaGreatDoor

/- rulerkeep's points, and what it asks of Run. -/
namespace Go.Proofs.YtmnfndpbblpjiaaGreatDoor
open Go.RowKit Pu
theorem RunA_of {s : ByteArray} {p : List (St × Nat)} {C : List Cmd} {ins : List Int} (hW : Whole s) (hok : Ok p) (hga : (gaA s s.size).l = sts p) (hc : cmds (sts p) = C) (hr : ∀ x ∈ ins, -99 ≤ x ∧ x ≤ 99) (hn : cntI C = ins.length) :
    RunA s (jnL ins) (semC ins C 0 0 [] ⟨#[]⟩, 0) := by
  refine ⟨0, 0, .inr (.inr ⟨hW, rfl, rfl, p, hok, hga.symm⟩), .inr ⟨rfl, ?_⟩⟩
  rw [hga]
  unfold rnS
  rw [jn_inps hr, hc]
  simp [hn]
abbrev spV (x y : Int) : Value := .agg #[.int .i64 x, .int .i64 y]
abbrev spO (x y : Int) : Obj := .cells #[.int .i64 x, .int .i64 y] 26
abbrev AtS (w : World) (k : Nat) (x y : Int) : Prop := w.heap[k]? = some (.cells #[.int .i64 x, .int .i64 y] 26 (0, 0))
theorem AtS.md {w w' : World} {k : Nat} {x y : Int} (h : AtS w k x y) (hm : Mod (fun _ => False) w w') : AtS w' k x y := hm.keep h (fun f => f)
theorem AtS.cs {w : World} {k : Nat} {x y : Int} (h : AtS w k x y) : w.cell? ⟨k, 0, none⟩ = some (.int .i64 x) ∧ w.cell? ⟨k, 1, none⟩ = some (.int .i64 y) := by
  unfold AtS at h
  constructor <;> simp [World.cell?, h]
set_option maxHeartbeats 800000 in
theorem at_any (x y : Int) (w : World) (hx : isI x) (hy : isI y) : Calls Tryz.prog 14 #[spV x y] w fun e w' => e = .returned (spV (plc x) (plc y)) ∧ Mod (fun _ => False) w w' := by
  have pp : ∀ c w, isI c → Calls Tryz.prog 19 #[.int .i64 c] w fun e w' => e = .returned (.int .i64 (plc c)) ∧ w = w' := fun c w h => kplace_any c w h
  go_enter Tryz.func14, Tryz.ntmps14
  go_wp2_with fail
  first | go_region_with (go_at_call 19; refine (pp _ _ (by assumption)).mono ?_; rintro e w1 ⟨rfl, rfl⟩) | fail
  all_goals
    go_wp2_with fail
    exact bodyPost_ret (v := spV (plc x) (plc y)) (by simp [results, Tryz.results14, go_sem]) rfl ⟨rfl, (((Mod.refl _ w).alloc _).alloc _).drew⟩
/-- A small number. -/
def sI (c : Int) : Prop := -99 ≤ c ∧ c ≤ 99
set_option maxHeartbeats 800000 in
theorem half_any (ax ay bx bY cx cy : Int) (w : World) (h1 : sI ax) (h2 : sI ay) (h3 : sI bx) (h4 : sI bY) (h5 : sI cx) (h6 : sI cy) :
    Calls Tryz.prog 15 #[spV ax ay, spV bx bY, spV cx cy] w fun e w' => e = .returned (.bool (decide (2 * ax = bx + cx) && decide (2 * ay = bY + cy))) ∧ Mod (fun _ => False) w w' := by
  unfold sI at *
  have hm : Mod (fun _ => False) w (((w.alloc (spO ax ay)).alloc (spO bx bY)).alloc (spO cx cy)) := (((Mod.refl _ w).alloc _).alloc _).alloc _
  obtain ⟨a1, a2, a3⟩ := alloc3_at w (spO ax ay) (spO bx bY) (spO cx cy)
  obtain ⟨c0, c1⟩ := AtS.cs a1
  obtain ⟨d0, d1⟩ := AtS.cs a2
  obtain ⟨e0, e1⟩ := AtS.cs a3
  have w1 : IntKind.i64.wrap (2 * ax) = 2 * ax := by simp [IntKind.wrap, IntKind.signed, IntKind.bits]; omega
  have w2 : IntKind.i64.wrap (2 * ay) = 2 * ay := by simp [IntKind.wrap, IntKind.signed, IntKind.bits]; omega
  have w3 : IntKind.i64.wrap (bx + cx) = bx + cx := by simp [IntKind.wrap, IntKind.signed, IntKind.bits]; omega
  have w4 : IntKind.i64.wrap (bY + cy) = bY + cy := by simp [IntKind.wrap, IntKind.signed, IntKind.bits]; omega
  have HM : Hid _ := hm
  clear hm a1 a2 a3
  by_cases hx : 2 * ax = bx + cx
  · have hb : (2 * ax == bx + cx) = true := by simpa using hx
    have HX : Hid (decide (2 * ax = bx + cx) = true) := show decide (2 * ax = bx + cx) = true by simpa using hx
    clear hx
    by_cases hy : 2 * ay = bY + cy
    · have hb2 : (2 * ay == bY + cy) = true := by simpa using hy
      have HY : Hid (decide (2 * ay = bY + cy) = true) := show decide (2 * ay = bY + cy) = true by simpa using hy
      clear hy
      go_enter Tryz.func15, Tryz.ntmps15
      go_wp2_with fail
      go_ret
      exact ⟨by rw [HX.out, HY.out]; rfl, HM.out⟩
    · have hb2 : (2 * ay == bY + cy) = false := by simpa using hy
      have HY : Hid (decide (2 * ay = bY + cy) = false) := show decide (2 * ay = bY + cy) = false by simpa using hy
      clear hy
      go_enter Tryz.func15, Tryz.ntmps15
      go_wp2_with fail
      go_ret
      exact ⟨by rw [HX.out, HY.out]; rfl, HM.out⟩
  · have hb : (2 * ax == bx + cx) = false := by simpa using hx
    have HX : Hid (decide (2 * ax = bx + cx) = false) := show decide (2 * ax = bx + cx) = false by simpa using hx
    clear hx
    go_enter Tryz.func15, Tryz.ntmps15
    go_wp2_with fail
    go_ret
    exact ⟨by rw [HX.out]; rfl, HM.out⟩
theorem ints_row {w : World} {b : Nat} {l : List Int} (h : w.heap[b]? = some (.cells (l.map (Value.int .i64)).toArray 3 (0, 0))) (hl : l.length ≤ 1000) : w.ownsRow b 3 1 (.slice (some ⟨b, 0, none⟩) l.length l.length) l.length (zvs l) := by
  have := owns_built h (by simpa using hl)
  simpa [zvs] using this
set_option maxHeartbeats 800000 in
theorem three_any (ax ay bx bY cx cy : Int) (w : World) (h1 : sI ax) (h2 : sI ay) (h3 : sI bx) (h4 : sI bY) (h5 : sI cx) (h6 : sI cy) (hT : Tab w) :
    Calls Tryz.prog 17 #[spV ax ay, spV bx bY, spV cx cy] w fun e w' => e = .returned (.string (jnL [ax, ay, bx, bY, cx, cy])) ∧ Mod (fun _ => False) w w' := by
  have hm : Mod (fun _ => False) w (((w.alloc (spO ax ay)).alloc (spO bx bY)).alloc (spO cx cy)) := (((Mod.refl _ w).alloc _).alloc _).alloc _
  obtain ⟨a1, a2, a3⟩ := alloc3_at w (spO ax ay) (spO bx bY) (spO cx cy)
  obtain ⟨c0, c1⟩ := AtS.cs a1
  obtain ⟨d0, d1⟩ := AtS.cs a2
  obtain ⟨e0, e1⟩ := AtS.cs a3
  have HR : Hid (∀ x ∈ [ax, ay, bx, bY, cx, cy], -99 ≤ x ∧ x ≤ 99) := fun x hx => by
    simp at hx
    rcases hx with rfl | rfl | rfl | rfl | rfl | rfl <;> assumption
  have hmA := hm.alloc (.cells #[.int .i64 ax, .int .i64 ay, .int .i64 bx, .int .i64 bY, .int .i64 cx, .int .i64 cy] 3)
  have hI : ((((w.alloc (spO ax ay)).alloc (spO bx bY)).alloc (spO cx cy)).alloc (.cells #[.int .i64 ax, .int .i64 ay, .int .i64 bx, .int .i64 bY, .int .i64 cx, .int .i64 cy] 3)).ownsRow (w.heap.size + 1 + 1 + 1) 3 1 (.slice (some ⟨w.heap.size + 1 + 1 + 1, 0, none⟩) 6 6) 6 (zvs [ax, ay, bx, bY, cx, cy]) := by
    have h := ints_row (l := [ax, ay, bx, bY, cx, cy]) (heap_alloc_new (((w.alloc (spO ax ay)).alloc (spO bx bY)).alloc (spO cx cy)) (.cells #[.int .i64 ax, .int .i64 ay, .int .i64 bx, .int .i64 bY, .int .i64 cx, .int .i64 cy] 3)) (by simp)
    simp only [sz_al] at h
    exact h
  have HH : Hid _ := And.intro hmA (And.intro hI (hT.mod hmA))
  clear hm a1 a2 a3 hmA hI hT h1 h2 h3 h4 h5 h6
  go_enter Tryz.func17, Tryz.ntmps17
  go_wp2_with fail
  generalize (((w.alloc (.cells #[.int .i64 ax, .int .i64 ay] 26)).alloc (.cells #[.int .i64 bx, .int .i64 bY] 26)).alloc (.cells #[.int .i64 cx, .int .i64 cy] 26)).alloc (.cells #[.int .i64 ax, .int .i64 ay, .int .i64 bx, .int .i64 bY, .int .i64 cx, .int .i64 cy] 3) = wA at *
  obtain ⟨hmA, hI, hT⟩ := HH.out
  refine (joined_any _ [ax, ay, bx, bY, cx, cy] _ _ (by simp) hI HR.out hT).mono ?_
  rintro e w2 ⟨rfl, k2⟩
  have hE := hmA.trans k2
  clear hmA hI hT k2 HH
  go_wp2_with fail
  go_ret
  exact ⟨rfl, hE⟩
set_option maxHeartbeats 800000 in
theorem tells_any (s inp t : ByteArray) (w : World) (hs : s.size ≤ 300) (hi : inp.size ≤ 140) (hR : RunA s inp (t, 0)) :
    Calls Tryz.prog 16 #[.string s, .string inp, .string t] w fun e w' => e = .returned (.bool true) ∧ Mod (fun _ => False) w w' := by
  have hrun := run_any s inp w hs hi
  have HR : Hid _ := hR
  clear hR
  go_enter Tryz.func16, Tryz.ntmps16
  go_wp2_with fail
  refine hrun.mono ?_
  rintro e w1 ⟨hm1, r, hr, rfl⟩
  obtain rfl := hr.unique HR.out
  clear hrun hr HR
  go_wp2_with fail
  go_ret
  exact ⟨rfl, hm1⟩
end Go.Proofs.YtmnfndpbblpjiaaGreatDoor

/- From arguments that can be read to points; the library's table; the closing of a statement over three points. -/
namespace Go.Proofs.YtmnfndpbblpjiaaGreatDoor
open Go.ChangeShapes Go.WideShapes Go.ChangeAt Go.RowKit Go.Deep Go.Joins
theorem Tryz.cellsSp : Tryz.prog.cellsOf 26 = 2 := by kernel_rfl
theorem isI_of {n : Int} (h : (Lit.int .i64 n).wf = true) : isI n := by
  have e1 : IntKind.i64.min = -9223372036854775808 := by rfl
  have e2 : IntKind.i64.max = 9223372036854775807 := by rfl
  unfold isI
  simp [Lit.wf] at h
  omega
theorem spot_of {H : Type} {enc : TypeId × Value → H} {W : World} {fuel : Nat} {v : Value} {x : DataW H × List MemPlace} (hv : ∃ cs, v = .agg cs ∧ cs.size = Tryz.prog.cellsOf 26) (h : DataW.trod enc Tryz.prog W 0 (fun _ => true) true fuel 26 v.cells.toList = some x) :
    ∃ a b, v = spV a b ∧ isI a ∧ isI b := by
  obtain ⟨cs, rfl, hc⟩ := hv
  rw [Tryz.cellsSp] at hc
  obtain ⟨y0, y1, n', _, _, g0, g1⟩ := trod_struct2 Tryz.underlying26 h
  have hc2 : cs.toList.length = 2 := by simpa using hc
  obtain ⟨v0, v1, hl⟩ : ∃ a b, cs.toList = [a, b] := by
    match cs.toList, hc2 with
    | [a, b], _ => exact ⟨a, b, rfl⟩
  have hcs : cs = #[v0, v1] := by rw [← Array.toList_inj]; exact hl
  subst hcs
  simp [Value.cells, Tryz.cellsInt] at g0 g1
  obtain ⟨a, e0, -, w0⟩ := DataW.trod_int Tryz.underlying3 g0
  obtain ⟨b, e1, -, w1⟩ := DataW.trod_int Tryz.underlying3 g1
  simp at e0 e1
  subst e0 e1
  exact ⟨a, b, rfl, isI_of w0, isI_of w1⟩
theorem tab_of {W : World} (h : laidMetH Tryz.prog Rows.checksRow.laid W) : Tab W := by
  have h1 : laidMet Tryz.prog Rows.checksRow.laid W := h
  have h2 := laidMet.tail (laidMet.tail h1)
  exact Lib.tabIs_of_head (P := Tryz.prog) (rest := []) (g := 0) (t := 223) (e := 207) (n := 20) (by kernel_rfl) (by kernel_rfl) (by kernel_rfl) (by kernel_rfl) (by kernel_rfl) (by kernel_rfl) h2
theorem laid_met3 (os : Os) : laidMet Tryz.prog Rows.checksRow.laid ((laidOn (World.holding Tryz.prog os ⟨#[], #[], []⟩)).forCall (fun _ _ => 0) ⟨#[], #[spV 0 0, spV 0 0, spV 0 0], []⟩).memory :=
  laidMet_of_run' 8 (by kernel_rfl) (by kernel_rfl)
/-- No parameter wants a stand-in; the program's own looks are off. -/
theorem plain_of3 {name : String} {k : FuncId} {fk : Func} (hk : Tryz.prog.funcNamed name = some k) (hfk : Tryz.prog.funcs[k]? = some fk) (hp : fk.params = #[26, 26, 26]) (f : FuncId) (fn : Func) (hf : Tryz.pinned.checked.prog.funcNamed name = some f) (hfn : Tryz.pinned.checked.prog.funcs[f]? = some fn) :
    false = Tryz.pinned.checked.prog.looks [] ∧ ∀ (j : Nat) t, fn.params[j]? = some t → Tryz.pinned.checked.prog.wantsStandIn t = false := by
  obtain rfl : f = k := Option.some.inj (hk.symm.trans hf) |>.symm
  obtain rfl : fn = fk := (Option.some.inj (hfk.symm.trans hfn)).symm
  refine ⟨by kernel_rfl, fun j t ht => ?_⟩
  rw [hp] at ht
  obtain rfl : t = 26 := by simpa using Array.mem_of_getElem? ht
  exact (show Tryz.prog.wantsStandIn 26 = false by kernel_rfl)
end Go.Proofs.YtmnfndpbblpjiaaGreatDoor

/- Two points compared, where a walk stands at the operation. -/
namespace Go.Proofs.YtmnfndpbblpjiaaGreatDoor
open Go.RowKit Pu
theorem wpList_eqS {ops : Array Oper} {rest : List Oper} {op : Oper} {a : Act} {w : World} {Q : Exit → Act → World → Prop} (hgd : op.guard = none) (x y : Operand) (ho : op.op = .binOp .eql 26 x y 26)
    (x0 y0 x1 y1 : Int) (hx : a.eval x = spV x0 y0) (hy : a.eval y = spV x1 y1) (b : Bool) (hb : (x0 == x1 && y0 == y1) = b)
    (h : wpList Tryz.prog ops Q rest (a.put op.dst (.bool b)) w) : wpList Tryz.prog ops Q (op :: rest) a w :=
  wpList_plain hgd fun _ hK => by
    have hl : (do
            eqGuard .eql 26 x y (spV x0 y0) (spV x1 y1)
            binOp .eql 26 (spV x0 y0) (spV x1 y1) : Sem Value).run Tryz.prog w = .ok (.bool b) w := by
      subst hb
      have h1 : ∀ (d : Nat) (p q : Int) (w : World), (Op.equalIn (d + 1) 3 (.int .i64 p) (.int .i64 q)).run Tryz.prog w = .ok (p == q) w := fun d p q w => by simp [Op.equalIn, run_underlying Tryz.underlying3]
      have hst : Tryz.prog.stoodInHeld 26 = false := by kernel_rfl
      have h3 : ∀ d, (Op.equalIn (d + 1 + 1) 26 (spV x0 y0) (spV x1 y1)).run Tryz.prog w = .ok (x0 == x1 && y0 == y1) w := fun d => by
        rw [Op.equalIn]
        cases hx1 : (x0 == x1) <;> cases hy1 : (y0 == y1) <;> simp [run_underlying Tryz.underlying26, h1, hst, go_sem, hx1, hy1]
      have h2 : (Op.equal 26 (spV x0 y0) (spV x1 y1)).run Tryz.prog w = .ok (x0 == x1 && y0 == y1) w := h3 9998
      simp [eqGuard, binOp, go_sem, h2]
    unfold Oper.wp execOp
    simp only [ho, hx, hy]
    rw [Sem.run_bind, hl]
    exact hK _ _ h
end Go.Proofs.YtmnfndpbblpjiaaGreatDoor

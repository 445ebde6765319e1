/- The program's differences of limbs; the limbs of a number of one word. -/
import Derived.Deep.RegionHeld3
import Derived.Test.YtmnfndpbblpjiabGreatDoorZb23
import Derived.Test.YtmnfndpbblpjiabGreatDoorZb04
namespace Go.Proofs.YtmnfndpbblpjiabGreatDoor
open Go.RowKit Pu

set_option maxHeartbeats 1600000 in
set_option maxRecDepth 4000 in
theorem diff_any (av bv : Value) (a b : List Nat) (abase bbase : Nat) (w : World) (hA : w.ownsRow abase 188 1 av a.length (uvs a)) (hB : w.ownsRow bbase 188 1 bv b.length (uvs b)) (da : D9 a) (db : D9 b) (hle : v9 b ≤ v9 a) (hlen : b.length ≤ a.length) (la : a.length ≤ 50000) :
    Calls Tryz.prog 206 #[av, bv] w (LimEnd w (v9 a - v9 b) a.length) := by
  obtain ⟨i0, hii, hz0, hz1, hz2⟩ := info_parts Tryz.infoU
  have HE : Hid (v9 (difTo a b a.length).1 = v9 a - v9 b) := dif_end da db hlen hle
  have HD9 : Hid (D9 (difTo a b a.length).1) := difTo_d9 a b _
  have HBR : Hid (∀ k, (difTo a b k).2 ≤ 1) := difTo_br a b
  have HDL : Hid (∀ k, (difTo a b k).1.length = a.length) := difTo_len a b
  have HDA : Hid (D9 a) := da
  have HDB : Hid (D9 b) := db
  generalize v9 a - v9 b = tot at *
  clear da db hle hlen
  obtain ⟨ao, acap, rfl, -⟩ := owns_form hA
  obtain ⟨bo, bcap, rfl, -⟩ := owns_form hB
  go_enter Tryz.func206, Tryz.ntmps206
  go_wp2_with (at_make; refine wpList_make_full _ rfl _ _ 139 rfl w.heap.size 188 i0 (.int .u64 0) 1 Tryz.underlying139 hii hz0 hz1 _ _ _ _ a.length rfl rfl (by omega) (by omega) (by rw [hz2]; omega) (by unfold maxLen; omega) (by simp) ?_)
  intro W hown0 hgrow0
  have hm0 := (Mod.refl (fun _ => False) w).grown hgrow0 (fun k hk _ => by cases hk)
  have hown1 : W.ownsRow w.heap.size 188 1 (.slice (some ⟨w.heap.size, 0, none⟩) a.length a.length) a.length (uvs (difTo a b 0).1) := by
    show W.ownsRow w.heap.size 188 1 (.slice (some ⟨w.heap.size, 0, none⟩) a.length a.length) a.length (uvs (List.replicate a.length 0))
    rw [← made_u]; simpa using hown0
  clear hgrow0 hown0
  have hwl : w.heap.size < W.heap.size := own_lt hown1 rfl
  have hmA : Mod (fun _ => False) W (W.alloc (.cells #[.slice (some ⟨w.heap.size, 0, none⟩) a.length a.length] 248)) := (Mod.refl _ W).alloc _
  have hT1 := tl_new W (.slice (some ⟨w.heap.size, 0, none⟩) a.length a.length)
  have HH : Hid _ := And.intro (owns_mod hown1 hmA (fun _ _ f => f)) (And.intro hT1 (hm0.trans hmA))
  clear hown1 hT1 hmA hm0
  go_wp2_with fail
  generalize W.alloc (.cells #[.slice (some ⟨w.heap.size, 0, none⟩) a.length a.length] 248) = W1 at *
  go_loopw [6, 15] (fun ov kv wr => ∃ k : Nat, k ≤ a.length ∧ kv = .int .i64 k ∧ ov = .int .u64 ((difTo a b k).2 : Int) ∧ wr.ownsRow w.heap.size 188 1 (.slice (some ⟨w.heap.size, 0, none⟩) a.length a.length) a.length (uvs (difTo a b k).1) ∧ Tl wr W.heap.size (.slice (some ⟨w.heap.size, 0, none⟩) a.length a.length) ∧ Mod (fun _ => False) w wr) (fun _ kv _ => a.length - (intOf kv).toNat)
  case atStart => exact ⟨0, by omega, rfl, rfl, HH.out.1, HH.out.2.1, HH.out.2.2⟩
  case round =>
    clear HH
    obtain ⟨k, hk, rfl, rfl, hO, hT, hm⟩ := hrel
    have t0 := hT.c0
    by_cases hlt : k < a.length
    · have hAr := owns_mod hA hm (fun _ _ f => f)
      have hBr := owns_mod hB hm (fun _ _ f => f)
      obtain ⟨ga, rfl, ca⟩ := uvs_cell hAr rfl hlt
      have hdk : k < (difTo a b k).1.length := by rw [HDL.out]; exact hlt
      obtain ⟨g2, hg2, cd⟩ := uvs_cell hO (HDL.out k).symm hdk
      injection hg2 with hg2
      injection hg2 with hg2
      subst hg2
      have hfz := hO.frozenAt k
      have hak : a[k] < 1000000000 := HDA.out _ (List.getElem_mem hlt)
      have hbk : b[k]?.getD 0 < 1000000000 := getD_lt HDB.out k
      have hbr := HBR.out k
      have hst : (wr.setCell ⟨w.heap.size, k, none⟩ (.int .u64 ((rest a b k (difTo a b k).2 % 1000000000 : Nat) : Int))).ownsRow w.heap.size 188 1 (.slice (some ⟨w.heap.size, 0, none⟩) a.length a.length) a.length (uvs (difTo a b (k + 1)).1) := by
        show World.ownsRow _ _ _ _ _ _ (uvs ((difTo a b k).1.set k (rest a b k (difTo a b k).2 % 1000000000)))
        rw [← uvs_set]; exact (hO.stored k _).1
      have hmq : Mod (fun q => q = w.heap.size) wr (wr.setCell ⟨w.heap.size, k, none⟩ (.int .u64 ((rest a b k (difTo a b k).2 % 1000000000 : Nat) : Int))) := (Mod.refl _ wr).setCell ⟨w.heap.size, k, none⟩ _ (fun _ => rfl)
      have hm2 : Mod (fun _ => False) w (wr.setCell ⟨w.heap.size, k, none⟩ (.int .u64 ((rest a b k (difTo a b k).2 % 1000000000 : Nat) : Int))) := hm.setCell ⟨w.heap.size, k, none⟩ _ (fun h => absurd h (Nat.lt_irrefl _))
      have hT2 : Tl (wr.setCell ⟨w.heap.size, k, none⟩ (.int .u64 ((rest a b k (difTo a b k).2 % 1000000000 : Nat) : Int))) W.heap.size (.slice (some ⟨w.heap.size, 0, none⟩) a.length a.length) := hT.keep hmq (by omega)
      have HN2 : Hid ((difTo a b (k + 1)).2 = 1 - rest a b k (difTo a b k).2 / 1000000000) := rfl
      have HST : Hid _ := And.intro hst (And.intro hT2 hm2)
      have HRS : Hid (rest a b k (difTo a b k).2 = 1000000000 + a[k] - (difTo a b k).2 - b[k]?.getD 0) := show _ = _ by simp [rest, hlt]
      clear hst hm2 hT2 hmq hAr
      generalize rest a b k (difTo a b k).2 = rs at *
      by_cases hkb : k < b.length
      · obtain ⟨gb, rfl, cb⟩ := uvs_cell hBr rfl hkb
        have HG : Hid (b[k]?.getD 0 = b[k]) := show _ = _ by simp [hkb]
        rw [HG.out] at HRS hbk
        clear hBr HG
        generalize a[k] = x at *
        generalize b[k] = y at *
        generalize (difTo a b k).2 = br at *
        have hrs : rs = 1000000000 + x - br - y := HRS.out
        have w1 : IntKind.u64.wrap ((1000000000 : Int) + (x : Int)) = (1000000000 : Int) + (x : Int) := wrap_u64 (by omega) (by omega)
        have w2 : IntKind.u64.wrap ((1000000000 : Int) + (x : Int) - (br : Int)) = (1000000000 : Int) + (x : Int) - (br : Int) := wrap_u64 (by omega) (by omega)
        have w3 : IntKind.u64.wrap ((1000000000 : Int) + (x : Int) - (br : Int) - (y : Int)) = (rs : Int) := by rw [wrap_u64 (by omega) (by omega)]; omega
        have w4 : IntKind.u64.wrap ((1 : Int) - (rs : Int) / 1000000000) = (1 : Int) - (rs : Int) / 1000000000 := wrap_u64 (by omega) (by omega)
        have hrl : rs < 2000000000 := by omega
        clear hrs HRS
        go_wp2_with fail
        go_roundw
        case rel =>
          have h2 := HST.out
          exact ⟨k + 1, by omega, by go_num, by rw [HN2.out]; congr 1; omega, h2.1, h2.2.1, h2.2.2⟩
        case measure => simp [intOf]; omega
      · have HG : Hid (b[k]?.getD 0 = 0) := show _ = _ by simp [hkb]
        rw [HG.out] at HRS hbk
        clear hBr HG
        generalize a[k] = x at *
        generalize (difTo a b k).2 = br at *
        have hrs : rs = 1000000000 + x - br := by have := HRS.out; omega
        have w1 : IntKind.u64.wrap ((1000000000 : Int) + (x : Int)) = (1000000000 : Int) + (x : Int) := wrap_u64 (by omega) (by omega)
        have w2 : IntKind.u64.wrap ((1000000000 : Int) + (x : Int) - (br : Int)) = (rs : Int) := by rw [wrap_u64 (by omega) (by omega)]; omega
        have w4 : IntKind.u64.wrap ((1 : Int) - (rs : Int) / 1000000000) = (1 : Int) - (rs : Int) / 1000000000 := wrap_u64 (by omega) (by omega)
        have hrl : rs < 2000000000 := by omega
        clear hrs HRS
        go_wp2_with fail
        go_roundw
        case rel =>
          have h2 := HST.out
          exact ⟨k + 1, by omega, by go_num, by rw [HN2.out]; congr 1; omega, h2.1, h2.2.1, h2.2.2⟩
        case measure => simp [intOf]; omega
    · have hks : k = a.length := by omega
      subst hks
      have r4 := done_end hT hO (HDL.out _) (by omega) HD9.out HE.out hm
      clear hO hT t0 hm
      go_wp2_with fail
      refine r4.mono ?_
      rintro e W5 ⟨hm5, v5, l5, rfl, hE⟩
      have HE5 : Hid _ := hE
      clear hE
      go_wp2_with fail
      go_ret
      exact ⟨hm5, v5, l5, rfl, HE5.out⟩

set_option maxHeartbeats 800000 in
set_option maxRecDepth 4000 in
theorem limbs_any (n : Nat) (w : World) (hn : n ≤ 1000000) : Calls Tryz.prog 198 #[.int .u64 n] w (LimEnd w n 3) := by
  have hO0 : (w.alloc (.cells #[.int .u64 n, .int .u64 0, .int .u64 0] 188)).ownsRow w.heap.size 188 1 (.slice (some ⟨w.heap.size, 0, none⟩) 3 3) 3 (uvs [n, 0, 0]) :=
    ⟨by simp [uvs], .inr ⟨w.heap.size, 3, #[.int .u64 n, .int .u64 0, .int .u64 0], rfl, Nat.le_refl _, heap_alloc_new w _, Nat.le_refl _, by unfold maxLen; omega, by simp, by simp [uvs]⟩⟩
  have hT := tl_new (w.alloc (.cells #[.int .u64 n, .int .u64 0, .int .u64 0] 188)) (.slice (some ⟨w.heap.size, 0, none⟩) 3 3)
  have hmA : Mod (fun _ => False) (w.alloc (.cells #[.int .u64 n, .int .u64 0, .int .u64 0] 188)) ((w.alloc (.cells #[.int .u64 n, .int .u64 0, .int .u64 0] 188)).alloc (.cells #[.slice (some ⟨w.heap.size, 0, none⟩) 3 3] 248)) := (Mod.refl _ _).alloc _
  have hm1 : Mod (fun _ => False) w ((w.alloc (.cells #[.int .u64 n, .int .u64 0, .int .u64 0] 188)).alloc (.cells #[.slice (some ⟨w.heap.size, 0, none⟩) 3 3] 248)) := ((Mod.refl _ w).alloc _).trans hmA
  have hO1 := owns_mod hO0 hmA (fun _ _ f => f)
  simp only [World.size_alloc] at hT
  have HH : Hid _ := And.intro hO1 (And.intro hT hm1)
  clear hO0 hT hmA hm1 hO1
  go_enter Tryz.func198, Tryz.ntmps198
  go_wp2_with fail
  generalize (w.alloc (.cells #[.int .u64 n, .int .u64 0, .int .u64 0] 188)).alloc (.cells #[.slice (some ⟨w.heap.size, 0, none⟩) 3 3] 248) = W1 at *
  obtain ⟨hO1, hT1, hm1⟩ := HH.out
  clear HH
  have hb : Bd [n, 0, 0] 1000000 := fun x hx => by simp at hx; omega
  have r3 := carry_any (w.heap.size + 1) w.heap.size 3 [n, 0, 0] 1000000 w.heap.size W1 hT1 hO1 (by omega) (by simp) hb (by omega)
  have hce := car_end (L := [n, 0, 0]) (k := 3) rfl (by simp [v9]; omega)
  have hl4 : (carTo [n, 0, 0] 3).1.length = 3 := by rw [carTo_len]; rfl
  have hv0 : v9 [n, 0, 0] = n := by simp [v9]
  rw [hv0] at hce
  have r3' : Calls Tryz.prog 202 #[.pointer (some ⟨w.heap.size + 1, 0, none⟩)] W1 fun e w' => e = .returned (.tuple #[]) ∧ Mod (fun q => q = w.heap.size) W1 w' ∧ w'.ownsRow w.heap.size 188 1 (.slice (some ⟨w.heap.size, 0, none⟩) 3 3) 3 (uvs (carTo [n, 0, 0] 3).1) := r3
  clear r3 hv0 hb
  generalize (carTo [n, 0, 0] 3).1 = L4 at *
  refine r3'.mono ?_
  rintro e W4 ⟨rfl, hm4, hO4⟩
  have hm4' : Mod (fun _ => False) w W4 := ((hm1.mono (q := fun q => q = w.heap.size) (fun _ _ f => f.elim)).trans hm4).mono (fun q hq h => by omega)
  have hT4 : Tl W4 (w.heap.size + 1) (.slice (some ⟨w.heap.size, 0, none⟩) 3 3) := hT1.keep hm4 (by omega)
  have r4 := done_end hT4 hO4 hl4 (by omega) hce.1 hce.2 hm4'
  clear hce hl4 r3' hO1 hT1 hm1 hm4 hm4' hT4 hO4
  go_wp2_with fail
  refine r4.mono ?_
  rintro e W5 ⟨hm5, v5, l5, rfl, hE⟩
  have HE5 : Hid _ := hE
  clear hE
  go_wp2_with fail
  go_ret
  exact ⟨hm5, v5, l5, rfl, HE5.out⟩
end Go.Proofs.YtmnfndpbblpjiabGreatDoor

/- The document's numbers: Plus, Minus. -/
namespace Go.Proofs.YtmnfndpbblpjiabGreatDoor
open Go.RowKit Pu

def Pu.plusL (way : Int) : List Nat → List Nat → List Int
  | [], [] => []
  | a :: l, [] => (a : Int) :: plusL way l []
  | [], b :: m => (way * (b : Int)) :: plusL way [] m
  | a :: l, b :: m => ((a : Int) + way * (b : Int)) :: plusL way l m
theorem Pu.plusL_val (way : Int) : ∀ a b : List Nat, valI (plusL way a b) = (val a : Int) + way * (val b : Int)
  | [], [] => by simp [plusL, valI, val]
  | a :: l, [] => by
    have := plusL_val way l []
    simp only [plusL, valI, val, this]; simp
  | [], b :: m => by
    have := plusL_val way [] m
    simp only [plusL, valI, val, this]
    simp only [Int.natCast_add, Int.natCast_mul, Int.mul_add]
    have e : way * (10000 * (val m : Int)) = 10000 * (way * (val m : Int)) := by rw [← Int.mul_assoc, Int.mul_comm way 10000, Int.mul_assoc]
    simp [e]
  | a :: l, b :: m => by
    have := plusL_val way l m
    simp only [plusL, valI, val, this]
    simp only [Int.natCast_add, Int.natCast_mul, Int.mul_add]
    have e : way * (10000 * (val m : Int)) = 10000 * (way * (val m : Int)) := by rw [← Int.mul_assoc, Int.mul_comm way 10000, Int.mul_assoc]
    simp only [show ((10000 : Nat) : Int) = 10000 from rfl, e]
    omega
theorem Pu.plusL_len (way : Int) : ∀ a b : List Nat, (plusL way a b).length = max a.length b.length
  | [], [] => by simp [plusL]
  | a :: l, [] => by have := plusL_len way l []; simp only [plusL, List.length_cons, List.length_nil] at *; omega
  | [], b :: m => by have := plusL_len way [] m; simp only [plusL, List.length_cons, List.length_nil] at *; omega
  | a :: l, b :: m => by have := plusL_len way l m; simp only [plusL, List.length_cons] at *; omega
theorem Pu.plusL_at (way : Int) : ∀ (a b : List Nat) (k : Nat), k < max a.length b.length → (plusL way a b)[k]? = some ((a[k]?.getD 0 : Nat) + way * ((b[k]?.getD 0 : Nat) : Int))
  | [], [], k, h => by simp at h
  | a :: l, [], 0, _ => by simp [plusL]
  | a :: l, [], k + 1, h => by have := plusL_at way l [] k (by simp only [List.length_cons, List.length_nil] at *; omega); simpa [plusL] using this
  | [], b :: m, 0, _ => by simp [plusL]
  | [], b :: m, k + 1, h => by have := plusL_at way [] m k (by simp only [List.length_cons, List.length_nil] at *; omega); simpa [plusL] using this
  | a :: l, b :: m, 0, _ => by simp [plusL]
  | a :: l, b :: m, k + 1, h => by have := plusL_at way l m k (by simp only [List.length_cons] at *; omega); simpa [plusL] using this
theorem Pu.dig_getD {l : List Nat} (h : Dig l) (k : Nat) : l[k]?.getD 0 < 10000 := by
  by_cases hk : k < l.length
  · simp [hk]; exact h _ (List.getElem_mem hk)
  · simp [show l.length ≤ k by omega]
theorem Mod.cell {a b : World} {k i : Nat} {v : Value} (hm : Mod (fun _ => False) a b) (h : a.cell? ⟨k, i, none⟩ = some v) : b.cell? ⟨k, i, none⟩ = some v := by
  have hk : k < a.heap.size := by
    cases ho : a.heap[k]? with
    | none => simp [World.cell?, ho] at h
    | some o => exact lt_of_block ho
  exact (World.cell?_of_block (a := ⟨k, i, none⟩) (hm.block k hk (fun f => f))).trans h

/-- The last statement's answer: the digits carried, the sign laid to them. -/
theorem zvs_snoc (l : List Int) (d : Int) : zvs l ++ [.int .i64 d] = zvs (l ++ [d]) := by simp [zvs]

theorem row_next {w : World} {B k : Nat} {v : Value} {pl : List Int} {x dk : Int} (h : w.ownsRow B 3 1 v (k + 1) (zvs (pl.take k) ++ [.int .i64 x])) (hp : pl[k]? = some dk) (hx : x = dk) : w.ownsRow B 3 1 v (k + 1) (zvs (pl.take (k + 1))) := by
  rw [List.take_add_one, hp, ← hx]
  simpa [zvs] using h

theorem set2_cell (b : Nat) (w : World) (x u : Value) (k : Nat) (i : Nat) (h : k ≠ b) : ((w.setCell ⟨b, 0, none⟩ x).setCell ⟨b, 1, none⟩ u).cell? ⟨k, i, none⟩ = w.cell? ⟨k, i, none⟩ := by
  apply World.cell?_of_block
  rw [Below.heap_setCell _ _ _ _ h, Below.heap_setCell _ _ _ _ h]

theorem owns_set2 {w : World} {b : Nat} {nb : Bool} {v u : Value} {n : Nat} {xs : List Value} (h : w.ownsRow 0 3 1 u n xs) (hR : Nmb w b nb v) (x : Bool) (y : Value) : ((w.setCell ⟨b, 0, none⟩ (.bool x)).setCell ⟨b, 1, none⟩ y).ownsRow 0 3 1 u n xs := by
  refine owns_mod' h (mod_set2 b w x y) (fun q hq he => ?_)
  subst he
  obtain ⟨_, ⟨he, _⟩ | ⟨g, c, cur, he, _, hg, _⟩⟩ := h
  · rw [he] at hq; simp [Value.ownBlock] at hq
  · rw [he] at hq; simp [Value.ownBlock] at hq
    subst hq
    unfold Nmb at hR; rw [hg] at hR; simp at hR

set_option maxHeartbeats 3200000 in
set_option maxRecDepth 100000 in
theorem plus_same (nx : Bool) (u v : Value) (a b : List Nat) (w : World) (hU : Nm w nx u a) (hV : Nm w nx v b) (la : a.length ≤ 1000000000) (lb : b.length ≤ 1000000000) :
    Calls Tryz.prog 151 #[nm2 nx u, nm2 nx v] w (NumEnd w (num nx a + num nx b) (max a.length b.length + 4)) := by
  obtain ⟨i0, hi, hz0, hz1, hz2⟩ := info_parts Tryz.info3
  have ha := hU.1.1
  have hb := hV.1.1
  have hta := hU.1.2.1
  have htb := hV.1.2.1
  obtain ⟨ao, acap, rfl, -⟩ := owns_form hU.2
  obtain ⟨bo, bcap, rfl, -⟩ := owns_form hV.2
  have HTOT : Hid (∀ os, (val os : Int) = valI (plusL (1) a b) → num nx os = num nx a + num nx b) := fun os h => by
    rw [plusL_val] at h
    unfold num
    cases nx <;> simp <;> omega
  have H0 : Hid (0 ≤ valI (plusL (1) a b)) := show 0 ≤ valI (plusL (1) a b) by rw [plusL_val]; omega
  have HPL : Hid (∀ k, k < max a.length b.length → (plusL (1) a b)[k]? = some ((a[k]?.getD 0 : Nat) + (1) * ((b[k]?.getD 0 : Nat) : Int))) := plusL_at (1) a b
  have HLN : Hid ((plusL (1) a b).length = max a.length b.length) := plusL_len (1) a b
  have HBD : Hid (∀ x ∈ plusL (1) a b, -200000000000000000 ≤ x ∧ x ≤ 200000000000000000) := fun x hx => by
    obtain ⟨j, hj, rfl⟩ := List.getElem_of_mem hx
    have h1 := plusL_at (1) a b j (by rw [plusL_len] at hj; exact hj)
    rw [List.getElem?_eq_getElem hj] at h1
    injection h1 with h1
    have h2 := dig_getD ha j
    have h3 := dig_getD hb j
    omega
  have hU2 := hU.2
  have hV2 := hV.2
  clear hU hV
  have hX := nmb_new w nx (.slice ao a.length acap)
  have hY := nmb_new (w.alloc (.cells #[.bool nx, .slice ao a.length acap] 154)) nx (.slice bo b.length bcap)
  have hR := nmb_new ((w.alloc (.cells #[.bool nx, .slice ao a.length acap] 154)).alloc (.cells #[.bool nx, .slice bo b.length bcap] 154)) false (.slice none 0 0)
  have m1 : Mod (fun _ => False) w (w.alloc (.cells #[.bool nx, .slice ao a.length acap] 154)) := (Mod.refl _ w).alloc _
  have m2 : Mod (fun _ => False) (w.alloc (.cells #[.bool nx, .slice ao a.length acap] 154)) ((w.alloc (.cells #[.bool nx, .slice ao a.length acap] 154)).alloc (.cells #[.bool nx, .slice bo b.length bcap] 154)) := (Mod.refl _ _).alloc _
  have m3 : Mod (fun _ => False) ((w.alloc (.cells #[.bool nx, .slice ao a.length acap] 154)).alloc (.cells #[.bool nx, .slice bo b.length bcap] 154)) (((w.alloc (.cells #[.bool nx, .slice ao a.length acap] 154)).alloc (.cells #[.bool nx, .slice bo b.length bcap] 154)).alloc (.cells #[.bool false, .slice none 0 0] 154)) := (Mod.refl _ _).alloc _
  have hX3 := (hX.keep m2 (fun f => f)).keep m3 (fun f => f)
  have hY3 := hY.keep m3 (fun f => f)
  have hmW := m1.trans (m2.trans m3)
  have hUW := owns_mod hU2 hmW (fun _ _ f => f)
  have hVW := owns_mod hV2 hmW (fun _ _ f => f)
  simp only [World.size_alloc] at hY3 hR
  clear hX hY m1 m2 m3 hU2 hV2
  go_enter Tryz.func151, Tryz.ntmps151
  go_wp2_with fail
  generalize ((w.alloc (.cells #[.bool nx, .slice ao a.length acap] 154)).alloc (.cells #[.bool nx, .slice bo b.length bcap] 154)).alloc (.cells #[.bool false, .slice none 0 0] 154) = W at *
  have hWz := hmW.size
  have hRl := hR.lt
  go_loopw [6, 7] (fun dv i wr => ∃ k : Nat, k ≤ max a.length b.length ∧ i = .int .i64 k ∧ wr.ownsRow W.heap.size 3 1 dv k (zvs ((plusL (1) a b).take k)) ∧ Mod (fun _ => False) W wr) (fun _ i _ => max a.length b.length - (intOf i).toNat)
  case atStart => exact ⟨0, by omega, rfl, by simpa [zvs] using World.ownsRow_nil _ _ _ _, Mod.refl _ _⟩
  case round =>
    obtain ⟨k, hk, rfl, hown, hm⟩ := hrel
    have hsz := hm.size
    obtain ⟨oo, ocap, rfl, -⟩ := owns_form hown
    have x1 := (hX3.keep hm (fun f => f)).c1
    have y1 := (hY3.keep hm (fun f => f)).c1
    by_cases hka : k < a.length
    · have hlt : k < max a.length b.length := by omega
      obtain ⟨ga, rfl, ca⟩ := ivs_cell (owns_mod hUW hm (fun _ _ f => f)) rfl hka
      have hda := ha _ (List.getElem_mem hka)
      by_cases hkb : k < b.length
      · obtain ⟨gb, rfl, cb⟩ := ivs_cell (owns_mod hVW hm (fun _ _ f => f)) rfl hkb
        have hdb := hb _ (List.getElem_mem hkb)
        go_wp2_with (at_builtin; refine wpList_append_own _ rfl _ _ 29 rfl W.heap.size 3 i0 (.int .i64 0) 1 8 Tryz.underlying29 hi hz0 hz1 hz2 rfl (by decide) _ _ _ rfl (hown.alloc _) ⟨wr.heap.size, 0, none⟩ 1 1 [_] rfl rfl (cell_one_new _ _ _) ?p2 ?p3 ?p4 ?p5 ?_)
        case p2 => first | rfl | (intro u hu; simp at hu; subst hu; rfl)
        case p3 => unfold maxLen; omega
        case p4 => omega
        case p5 => first | omega | (simp; omega)
        intro v4 w4 hown4 hgrow _
        have hm4 : Mod (fun _ => False) W w4 := (hm.alloc _).grown hgrow (fun q hq hlt => by have := (hown.lt q hq).1; omega)
        have hown5 := row_next hown4 (HPL.out k hlt) (by simp [hka, hkb]; try omega)
        obtain ⟨oo4, ocap4, rfl, -⟩ := owns_form hown4
        clear hown4 hgrow hown hm x1 y1
        go_wp2_with fail
        go_roundw
        case rel => exact ⟨k + 1, by omega, by go_num, hown5, hm4⟩
        case measure => simp [intOf]; omega
      · have hkb' : b.length ≤ k := by omega
        go_wp2_with (at_builtin; refine wpList_append_own _ rfl _ _ 29 rfl W.heap.size 3 i0 (.int .i64 0) 1 8 Tryz.underlying29 hi hz0 hz1 hz2 rfl (by decide) _ _ _ rfl (hown.alloc _) ⟨wr.heap.size, 0, none⟩ 1 1 [_] rfl rfl (cell_one_new _ _ _) ?q2 ?q3 ?q4 ?q5 ?_)
        case q2 => first | rfl | (intro u hu; simp at hu; subst hu; rfl)
        case q3 => unfold maxLen; omega
        case q4 => omega
        case q5 => first | omega | (simp; omega)
        intro v4 w4 hown4 hgrow _
        have hm4 : Mod (fun _ => False) W w4 := (hm.alloc _).grown hgrow (fun q hq hlt => by have := (hown.lt q hq).1; omega)
        have hown5 := row_next hown4 (HPL.out k hlt) (by simp [hka, hkb']; try omega)
        obtain ⟨oo4, ocap4, rfl, -⟩ := owns_form hown4
        clear hown4 hgrow hown hm x1 y1
        go_wp2_with fail
        go_roundw
        case rel => exact ⟨k + 1, by omega, by go_num, hown5, hm4⟩
        case measure => simp [intOf]; omega
    · have hka' : a.length ≤ k := by omega
      by_cases hkb : k < b.length
      · have hlt : k < max a.length b.length := by omega
        obtain ⟨gb, rfl, cb⟩ := ivs_cell (owns_mod hVW hm (fun _ _ f => f)) rfl hkb
        have hdb := hb _ (List.getElem_mem hkb)
        go_wp2_with (at_builtin; refine wpList_append_own _ rfl _ _ 29 rfl W.heap.size 3 i0 (.int .i64 0) 1 8 Tryz.underlying29 hi hz0 hz1 hz2 rfl (by decide) _ _ _ rfl (hown.alloc _) ⟨wr.heap.size, 0, none⟩ 1 1 [_] rfl rfl (cell_one_new _ _ _) ?r2 ?r3 ?r4 ?r5 ?_)
        case r2 => first | rfl | (intro u hu; simp at hu; subst hu; rfl)
        case r3 => unfold maxLen; omega
        case r4 => omega
        case r5 => first | omega | (simp; omega)
        intro v4 w4 hown4 hgrow _
        have hm4 : Mod (fun _ => False) W w4 := (hm.alloc _).grown hgrow (fun q hq hlt => by have := (hown.lt q hq).1; omega)
        have hown5 := row_next hown4 (HPL.out k hlt) (by simp [hka', hkb]; try omega)
        obtain ⟨oo4, ocap4, rfl, -⟩ := owns_form hown4
        clear hown4 hgrow hown hm x1 y1
        go_wp2_with fail
        go_roundw
        case rel => exact ⟨k + 1, by omega, by go_num, hown5, hm4⟩
        case measure => simp [intOf]; omega
      · have hkN : k = max a.length b.length := by omega
        have hown6 : wr.ownsRow 0 3 1 (.slice oo k ocap) (plusL (1) a b).length (zvs (plusL (1) a b)) := by
          rw [hkN, List.take_of_length_le (by rw [HLN.out]; omega)] at hown
          rw [HLN.out]
          rw [hkN]
          exact owns_base hown (Nat.zero_le _)
        have hx0 := (hX3.keep hm (fun f => f)).c0
        have hRw := hR.keep hm (fun f => f)
        have hRd : Nmb wr.drew (w.heap.size + 1 + 1) false (.slice none 0 0) := hRw
        have hmw := hmW.trans hm
        have hpl5 : (plusL (1) a b).length ≤ 2000000000 := by rw [HLN.out]; omega
        have HO6 : Hid (wr.ownsRow 0 3 1 (.slice oo k ocap) (plusL (1) a b).length (zvs (plusL (1) a b))) := hown6
        have HLE : Hid ((plusL (1) a b).length ≤ 2000000000) := hpl5
        clear hown6 hown hkN hpl5
        go_wp2_with fail
        go_region_held3 (fun w' => w'.cell? ⟨w.heap.size, 0, none⟩ = some (.bool nx))
          (first | go_keep | (exact hkeep) | (rw [set2_cell _ _ _ _ _ _ (by omega)]; exact hkeep))
          (first
            | (go_at_call 186; refine (carried_any (.slice oo k ocap) (plusL (1) a b) wr.drew HO6.out HBD.out H0.out HLE.out).mono ?_; rintro e w3 ⟨hm3, v3, os, rfl, hown3, hdig, hval, hlen3⟩; have hkeep := hm3.cell (a := wr.drew) hx0)
            | (go_at_call 185; refine (made_any nx v3 os w3 (owns_base hown3 (Nat.zero_le _)) hdig (by have := HLN.out; omega)).mono ?_; rintro e w4 ⟨hm4, nb, v4, l4, rfl, hN4, hx4, hl4⟩; have hkeep := hm4.cell (hm3.cell (a := wr.drew) hx0); have hR4 := (hRd.keep hm3 (fun f => f)).keep hm4 (fun f => f); have r0 := hR4.c0; have r1 := hR4.c1; have f0 := hR4.fz 0; have f1 := hR4.fz 1; obtain ⟨vo4, vcap4, rfl, -⟩ := owns_form hN4.2))
        have hR5 := hR4.set nb (.slice vo4 l4.length vcap4)
        have q0 := hR5.c0
        have q1 := hR5.c1
        have hmE := (hmw.drew.trans hm3).trans hm4
        have hmF : Mod (fun _ => False) w ((w4.setCell ⟨w.heap.size + 1 + 1, 0, none⟩ (.bool nb)).setCell ⟨w.heap.size + 1 + 1, 1, none⟩ (.slice vo4 l4.length vcap4)) := ((hmE.mono (q := fun i => i = w.heap.size + 1 + 1) (fun _ _ f => f.elim)).trans (mod_set2 _ _ _ _)).mono (fun i hi h => by omega)
        have HNE : Hid (NumEnd w (num nx a + num nx b) (max a.length b.length + 4) (.returned (nm2 nb (.slice vo4 l4.length vcap4))) ((w4.setCell ⟨w.heap.size + 1 + 1, 0, none⟩ (.bool nb)).setCell ⟨w.heap.size + 1 + 1, 1, none⟩ (.slice vo4 l4.length vcap4))) :=
          numEnd (l := l4) hmF ⟨hN4.1, owns_set2 hN4.2 hR4 _ _⟩ (by rw [hx4]; exact HTOT.out os hval) (by have := HLN.out; omega)
        clear hN4 hown3 hval hx4 hmE hm3 hm4 hmw
        go_wp2_with fail
        exact bodyPost_ret (by simp [results, Tryz.results151, go_sem, q0, q1]) rfl HNE.out

set_option maxHeartbeats 3200000 in
set_option maxRecDepth 100000 in
theorem plus_opp (p q : Bool) (hpq : (p == q) = false) (u v : Value) (a b : List Nat) (w : World) (hU : Nm w p u a) (hV : Nm w q v b) (la : a.length ≤ 1000000000) (lb : b.length ≤ 1000000000) (hle : val b ≤ val a) :
    Calls Tryz.prog 151 #[nm2 p u, nm2 q v] w (NumEnd w (num p a + num q b) (max a.length b.length + 4)) := by
  obtain ⟨i0, hi, hz0, hz1, hz2⟩ := info_parts Tryz.info3
  have ha := hU.1.1
  have hb := hV.1.1
  have hta := hU.1.2.1
  have htb := hV.1.2.1
  obtain ⟨ao, acap, rfl, -⟩ := owns_form hU.2
  obtain ⟨bo, bcap, rfl, -⟩ := owns_form hV.2
  have HTOT : Hid (∀ os, (val os : Int) = valI (plusL (-1) a b) → num p os = num p a + num q b) := fun os h => by
    rw [plusL_val] at h
    unfold num
    cases p <;> cases q <;> first | (exfalso; simp at hpq; done) | (simp <;> omega)
  have H0 : Hid (0 ≤ valI (plusL (-1) a b)) := show 0 ≤ valI (plusL (-1) a b) by rw [plusL_val]; omega
  have HPL : Hid (∀ k, k < max a.length b.length → (plusL (-1) a b)[k]? = some ((a[k]?.getD 0 : Nat) + (-1) * ((b[k]?.getD 0 : Nat) : Int))) := plusL_at (-1) a b
  have HLN : Hid ((plusL (-1) a b).length = max a.length b.length) := plusL_len (-1) a b
  have HBD : Hid (∀ x ∈ plusL (-1) a b, -200000000000000000 ≤ x ∧ x ≤ 200000000000000000) := fun x hx => by
    obtain ⟨j, hj, rfl⟩ := List.getElem_of_mem hx
    have h1 := plusL_at (-1) a b j (by rw [plusL_len] at hj; exact hj)
    rw [List.getElem?_eq_getElem hj] at h1
    injection h1 with h1
    have h2 := dig_getD ha j
    have h3 := dig_getD hb j
    omega
  have hU2 := hU.2
  have hV2 := hV.2
  clear hU hV
  have hX := nmb_new w p (.slice ao a.length acap)
  have hY := nmb_new (w.alloc (.cells #[.bool p, .slice ao a.length acap] 154)) q (.slice bo b.length bcap)
  have hR := nmb_new ((w.alloc (.cells #[.bool p, .slice ao a.length acap] 154)).alloc (.cells #[.bool q, .slice bo b.length bcap] 154)) false (.slice none 0 0)
  have m1 : Mod (fun _ => False) w (w.alloc (.cells #[.bool p, .slice ao a.length acap] 154)) := (Mod.refl _ w).alloc _
  have m2 : Mod (fun _ => False) (w.alloc (.cells #[.bool p, .slice ao a.length acap] 154)) ((w.alloc (.cells #[.bool p, .slice ao a.length acap] 154)).alloc (.cells #[.bool q, .slice bo b.length bcap] 154)) := (Mod.refl _ _).alloc _
  have m3 : Mod (fun _ => False) ((w.alloc (.cells #[.bool p, .slice ao a.length acap] 154)).alloc (.cells #[.bool q, .slice bo b.length bcap] 154)) (((w.alloc (.cells #[.bool p, .slice ao a.length acap] 154)).alloc (.cells #[.bool q, .slice bo b.length bcap] 154)).alloc (.cells #[.bool false, .slice none 0 0] 154)) := (Mod.refl _ _).alloc _
  have hX3 := (hX.keep m2 (fun f => f)).keep m3 (fun f => f)
  have hY3 := hY.keep m3 (fun f => f)
  have hmW := m1.trans (m2.trans m3)
  have hUW := owns_mod hU2 hmW (fun _ _ f => f)
  have hVW := owns_mod hV2 hmW (fun _ _ f => f)
  simp only [World.size_alloc] at hY3 hR
  clear hX hY m1 m2 m3 hU2 hV2
  go_enter Tryz.func151, Tryz.ntmps151
  go_wp2_with fail
  refine (order_any _ _ a b _ hUW hVW ha hb hta htb (by omega) (by omega)).mono ?_
  rintro e W ⟨rfl, hm2⟩
  have hX4 := hX3.keep hm2 (fun f => f)
  have hY4 := hY3.keep hm2 (fun f => f)
  have hR4' := hR.keep hm2 (fun f => f)
  have hmW4 := hmW.trans hm2
  have hUW4 := owns_mod hUW hm2 (fun _ _ f => f)
  have hVW4 := owns_mod hVW hm2 (fun _ _ f => f)
  clear hX3 hY3 hR hmW hUW hVW hm2
  have hX3 := hX4
  have hY3 := hY4
  have hR := hR4'
  have hmW := hmW4
  have hUW := hUW4
  have hVW := hVW4
  clear hX4 hY4 hR4' hmW4 hUW4 hVW4
  have hsgb : decide (sgI ((val a : Int) - (val b : Int)) < 0) = false := by
    unfold sgI; rw [if_neg (by omega)]; split <;> simp
  have x0' := hX3.c0
  have y0' := hY3.c0
  go_wp2_with fail
  clear hsgb x0' y0'
  have hWz := hmW.size
  have hRl := hR.lt
  go_loopw [6, 7] (fun dv i wr => ∃ k : Nat, k ≤ max a.length b.length ∧ i = .int .i64 k ∧ wr.ownsRow W.heap.size 3 1 dv k (zvs ((plusL (-1) a b).take k)) ∧ Mod (fun _ => False) W wr) (fun _ i _ => max a.length b.length - (intOf i).toNat)
  case atStart => exact ⟨0, by omega, rfl, by simpa [zvs] using World.ownsRow_nil _ _ _ _, Mod.refl _ _⟩
  case round =>
    obtain ⟨k, hk, rfl, hown, hm⟩ := hrel
    have hsz := hm.size
    obtain ⟨oo, ocap, rfl, -⟩ := owns_form hown
    have x1 := (hX3.keep hm (fun f => f)).c1
    have y1 := (hY3.keep hm (fun f => f)).c1
    by_cases hka : k < a.length
    · have hlt : k < max a.length b.length := by omega
      obtain ⟨ga, rfl, ca⟩ := ivs_cell (owns_mod hUW hm (fun _ _ f => f)) rfl hka
      have hda := ha _ (List.getElem_mem hka)
      by_cases hkb : k < b.length
      · obtain ⟨gb, rfl, cb⟩ := ivs_cell (owns_mod hVW hm (fun _ _ f => f)) rfl hkb
        have hdb := hb _ (List.getElem_mem hkb)
        go_wp2_with (at_builtin; refine wpList_append_own _ rfl _ _ 29 rfl W.heap.size 3 i0 (.int .i64 0) 1 8 Tryz.underlying29 hi hz0 hz1 hz2 rfl (by decide) _ _ _ rfl (hown.alloc _) ⟨wr.heap.size, 0, none⟩ 1 1 [_] rfl rfl (cell_one_new _ _ _) ?p2 ?p3 ?p4 ?p5 ?_)
        case p2 => first | rfl | (intro u hu; simp at hu; subst hu; rfl)
        case p3 => unfold maxLen; omega
        case p4 => omega
        case p5 => first | omega | (simp; omega)
        intro v4 w4 hown4 hgrow _
        have hm4 : Mod (fun _ => False) W w4 := (hm.alloc _).grown hgrow (fun q hq hlt => by have := (hown.lt q hq).1; omega)
        have hown5 := row_next hown4 (HPL.out k hlt) (by simp [hka, hkb]; try omega)
        obtain ⟨oo4, ocap4, rfl, -⟩ := owns_form hown4
        clear hown4 hgrow hown hm x1 y1
        go_wp2_with fail
        go_roundw
        case rel => exact ⟨k + 1, by omega, by go_num, hown5, hm4⟩
        case measure => simp [intOf]; omega
      · have hkb' : b.length ≤ k := by omega
        go_wp2_with (at_builtin; refine wpList_append_own _ rfl _ _ 29 rfl W.heap.size 3 i0 (.int .i64 0) 1 8 Tryz.underlying29 hi hz0 hz1 hz2 rfl (by decide) _ _ _ rfl (hown.alloc _) ⟨wr.heap.size, 0, none⟩ 1 1 [_] rfl rfl (cell_one_new _ _ _) ?q2 ?q3 ?q4 ?q5 ?_)
        case q2 => first | rfl | (intro u hu; simp at hu; subst hu; rfl)
        case q3 => unfold maxLen; omega
        case q4 => omega
        case q5 => first | omega | (simp; omega)
        intro v4 w4 hown4 hgrow _
        have hm4 : Mod (fun _ => False) W w4 := (hm.alloc _).grown hgrow (fun q hq hlt => by have := (hown.lt q hq).1; omega)
        have hown5 := row_next hown4 (HPL.out k hlt) (by simp [hka, hkb']; try omega)
        obtain ⟨oo4, ocap4, rfl, -⟩ := owns_form hown4
        clear hown4 hgrow hown hm x1 y1
        go_wp2_with fail
        go_roundw
        case rel => exact ⟨k + 1, by omega, by go_num, hown5, hm4⟩
        case measure => simp [intOf]; omega
    · have hka' : a.length ≤ k := by omega
      by_cases hkb : k < b.length
      · have hlt : k < max a.length b.length := by omega
        obtain ⟨gb, rfl, cb⟩ := ivs_cell (owns_mod hVW hm (fun _ _ f => f)) rfl hkb
        have hdb := hb _ (List.getElem_mem hkb)
        go_wp2_with (at_builtin; refine wpList_append_own _ rfl _ _ 29 rfl W.heap.size 3 i0 (.int .i64 0) 1 8 Tryz.underlying29 hi hz0 hz1 hz2 rfl (by decide) _ _ _ rfl (hown.alloc _) ⟨wr.heap.size, 0, none⟩ 1 1 [_] rfl rfl (cell_one_new _ _ _) ?r2 ?r3 ?r4 ?r5 ?_)
        case r2 => first | rfl | (intro u hu; simp at hu; subst hu; rfl)
        case r3 => unfold maxLen; omega
        case r4 => omega
        case r5 => first | omega | (simp; omega)
        intro v4 w4 hown4 hgrow _
        have hm4 : Mod (fun _ => False) W w4 := (hm.alloc _).grown hgrow (fun q hq hlt => by have := (hown.lt q hq).1; omega)
        have hown5 := row_next hown4 (HPL.out k hlt) (by simp [hka', hkb]; try omega)
        obtain ⟨oo4, ocap4, rfl, -⟩ := owns_form hown4
        clear hown4 hgrow hown hm x1 y1
        go_wp2_with fail
        go_roundw
        case rel => exact ⟨k + 1, by omega, by go_num, hown5, hm4⟩
        case measure => simp [intOf]; omega
      · have hkN : k = max a.length b.length := by omega
        have hown6 : wr.ownsRow 0 3 1 (.slice oo k ocap) (plusL (-1) a b).length (zvs (plusL (-1) a b)) := by
          rw [hkN, List.take_of_length_le (by rw [HLN.out]; omega)] at hown
          rw [HLN.out]
          rw [hkN]
          exact owns_base hown (Nat.zero_le _)
        have hx0 := (hX3.keep hm (fun f => f)).c0
        have hRw := hR.keep hm (fun f => f)
        have hRd : Nmb wr.drew (w.heap.size + 1 + 1) false (.slice none 0 0) := hRw
        have hmw := hmW.trans hm
        have hpl5 : (plusL (-1) a b).length ≤ 2000000000 := by rw [HLN.out]; omega
        have HO6 : Hid (wr.ownsRow 0 3 1 (.slice oo k ocap) (plusL (-1) a b).length (zvs (plusL (-1) a b))) := hown6
        have HLE : Hid ((plusL (-1) a b).length ≤ 2000000000) := hpl5
        clear hown6 hown hkN hpl5
        go_wp2_with fail
        go_region_held3 (fun w' => w'.cell? ⟨w.heap.size, 0, none⟩ = some (.bool p))
          (first | go_keep | (exact hkeep) | (rw [set2_cell _ _ _ _ _ _ (by omega)]; exact hkeep))
          (first
            | (go_at_call 186; refine (carried_any (.slice oo k ocap) (plusL (-1) a b) wr.drew HO6.out HBD.out H0.out HLE.out).mono ?_; rintro e w3 ⟨hm3, v3, os, rfl, hown3, hdig, hval, hlen3⟩; have hkeep := hm3.cell (a := wr.drew) hx0)
            | (go_at_call 185; refine (made_any p v3 os w3 (owns_base hown3 (Nat.zero_le _)) hdig (by have := HLN.out; omega)).mono ?_; rintro e w4 ⟨hm4, nb, v4, l4, rfl, hN4, hx4, hl4⟩; have hkeep := hm4.cell (hm3.cell (a := wr.drew) hx0); have hR4 := (hRd.keep hm3 (fun f => f)).keep hm4 (fun f => f); have r0 := hR4.c0; have r1 := hR4.c1; have f0 := hR4.fz 0; have f1 := hR4.fz 1; obtain ⟨vo4, vcap4, rfl, -⟩ := owns_form hN4.2))
        have hR5 := hR4.set nb (.slice vo4 l4.length vcap4)
        have q0 := hR5.c0
        have q1 := hR5.c1
        have hmE := (hmw.drew.trans hm3).trans hm4
        have hmF : Mod (fun _ => False) w ((w4.setCell ⟨w.heap.size + 1 + 1, 0, none⟩ (.bool nb)).setCell ⟨w.heap.size + 1 + 1, 1, none⟩ (.slice vo4 l4.length vcap4)) := ((hmE.mono (q := fun i => i = w.heap.size + 1 + 1) (fun _ _ f => f.elim)).trans (mod_set2 _ _ _ _)).mono (fun i hi h => by omega)
        have HNE : Hid (NumEnd w (num p a + num q b) (max a.length b.length + 4) (.returned (nm2 nb (.slice vo4 l4.length vcap4))) ((w4.setCell ⟨w.heap.size + 1 + 1, 0, none⟩ (.bool nb)).setCell ⟨w.heap.size + 1 + 1, 1, none⟩ (.slice vo4 l4.length vcap4))) :=
          numEnd (l := l4) hmF ⟨hN4.1, owns_set2 hN4.2 hR4 _ _⟩ (by rw [hx4]; exact HTOT.out os hval) (by have := HLN.out; omega)
        clear hN4 hown3 hval hx4 hmE hm3 hm4 hmw
        go_wp2_with fail
        exact bodyPost_ret (by simp [results, Tryz.results151, go_sem, q0, q1]) rfl HNE.out
theorem plus_tf (u v : Value) (a b : List Nat) (w : World) (hU : Nm w true u a) (hV : Nm w false v b) (la : a.length ≤ 1000000000) (lb : b.length ≤ 1000000000) (hle : val b ≤ val a) : Calls Tryz.prog 151 #[nm2 true u, nm2 false v] w (NumEnd w (num true a + num false b) (max a.length b.length + 4)) := plus_opp true false rfl u v a b w hU hV la lb hle
theorem plus_ft (u v : Value) (a b : List Nat) (w : World) (hU : Nm w false u a) (hV : Nm w true v b) (la : a.length ≤ 1000000000) (lb : b.length ≤ 1000000000) (hle : val b ≤ val a) : Calls Tryz.prog 151 #[nm2 false u, nm2 true v] w (NumEnd w (num false a + num true b) (max a.length b.length + 4)) := plus_opp false true rfl u v a b w hU hV la lb hle
end Go.Proofs.YtmnfndpbblpjiabGreatDoor

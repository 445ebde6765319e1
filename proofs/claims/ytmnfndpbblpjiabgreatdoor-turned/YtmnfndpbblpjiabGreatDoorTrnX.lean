/- rulerkeep's Turned. -/
import Derived.Test.YtmnfndpbblpjiabGreatDoorTuX
namespace Go.Proofs.YtmnfndpbblpjiabGreatDoor
open Go.RowKit Pu

/-- Numbers, two by two. -/
def prL (f h : Int → Int → Int) (l : List Int) : Nat → List Int
  | 0 => []
  | j + 1 => prL f h l j ++ [f (inp l (2 * j)) (inp l (2 * j + 1))] ++ [h (inp l (2 * j)) (inp l (2 * j + 1))]
theorem prL_len (f h : Int → Int → Int) (l : List Int) : ∀ j, (prL f h l j).length = 2 * j
  | 0 => rfl
  | j + 1 => by simp [prL, prL_len f h l j]; omega
theorem prL_get (f h : Int → Int → Int) (l : List Int) : ∀ j i, i < j → inp (prL f h l j) (2 * i) = f (inp l (2 * i)) (inp l (2 * i + 1)) ∧ inp (prL f h l j) (2 * i + 1) = h (inp l (2 * i)) (inp l (2 * i + 1))
  | 0, i, hi => by omega
  | j + 1, i, hi => by
    have hl := prL_len f h l j
    have ih := prL_get f h l j i
    unfold inp at *
    by_cases h' : i < j
    · obtain ⟨a, b⟩ := ih h'
      constructor
      · rw [← a, prL, List.append_assoc, List.getElem?_append_left (by omega)]
      · rw [← b, prL, List.append_assoc, List.getElem?_append_left (by omega)]
    · obtain rfl : i = j := by omega
      constructor
      · rw [prL, List.append_assoc, List.getElem?_append_right (by omega), show 2 * i - (prL f h l i).length = 0 by omega]
        rfl
      · rw [prL, List.append_assoc, List.getElem?_append_right (by omega), show 2 * i + 1 - (prL f h l i).length = 1 by omega]
        rfl
theorem inp_range {l : List Int} (h : InR l) {j : Nat} (hj : j < l.length) : -99 ≤ inp l j ∧ inp l j ≤ 99 := by
  unfold inp
  rw [List.getElem?_eq_getElem hj]
  exact h _ (List.getElem_mem hj)
theorem prL_range {f h : Int → Int → Int} {l : List Int} (hr : InR l) (hf : ∀ x y : Int, -99 ≤ x ∧ x ≤ 99 → -99 ≤ y ∧ y ≤ 99 → (-99 ≤ f x y ∧ f x y ≤ 99) ∧ (-99 ≤ h x y ∧ h x y ≤ 99)) : ∀ j, 2 * j ≤ l.length → InR (prL f h l j)
  | 0, _ => fun x hx => by simp [prL] at hx
  | j + 1, hj => by
    have hx := inp_range hr (j := 2 * j) (by omega)
    have hy := inp_range hr (j := 2 * j + 1) (by omega)
    exact ((prL_range hr hf j (by omega)).snoc (hf _ _ hx hy).1).snoc (hf _ _ hx hy).2
def qrL := prL (fun _ y => -y) (fun x _ => x)
def xcL := prL (fun _ y => y) (fun x _ => x)
theorem qr_run {s : ByteArray} {n : Nat} {C : List Cmd} (h : Rgt s n C) (l : List Int) (hr : InR l) (hl : l.length = n) (h2 : n % 2 = 0) : RunA s (jnL (qrL l (n / 2))) (semC l C 0 0 [] ⟨#[]⟩, 0) := by
  refine h.same ⟨0, 1, 0, 0, 1, by decide, by decide⟩ l _ (prL_range hr (fun x y hx hy => by omega) _ (by omega)) (by unfold qrL; rw [prL_len]; omega) (fun j hj => ?_) (.inl rfl)
  have := prL_get (fun _ y => -y) (fun x _ => x) l (n / 2) j (by omega)
  unfold qrL
  rw [this.1, this.2]
  constructor <;> simp
theorem xc_run {s : ByteArray} {n : Nat} {C : List Cmd} (h : Rgt s n C) (l : List Int) (hr : InR l) (hl : l.length = n) (h2 : n % 2 = 0) (hc : noCcw C) : RunA s (jnL (xcL l (n / 2))) (semC l C 0 0 [] ⟨#[]⟩, 0) := by
  refine h.same ⟨0, 1, 0, 0, -1, by decide, by decide⟩ l _ (prL_range hr (fun x y hx hy => by omega) _ (by omega)) (by unfold xcL; rw [prL_len]; omega) (fun j hj => ?_) (.inr hc)
  have := prL_get (fun _ y => y) (fun x _ => x) l (n / 2) j (by omega)
  unfold xcL
  rw [this.1, this.2]
  constructor <;> simp
theorem inp_cell {w : World} {base n : Nat} {v : Value} {l : List Int} (h : w.ownsRow base 3 1 v n (zvs l)) (hn : n = l.length) {k : Nat} (hk : k < n) : ∃ gb cap, v = .slice (some ⟨gb, 0, none⟩) n cap ∧ w.cell? ⟨gb, k, none⟩ = some (.int .i64 (inp l k)) := by
  obtain ⟨ao, cap, rfl, -⟩ := owns_form h
  obtain ⟨gb, rfl, ck⟩ := zvs_cell h hn (k := k) (by omega)
  refine ⟨gb, cap, rfl, ?_⟩
  rw [ck]
  unfold inp
  rw [List.getElem?_eq_getElem (by omega)]
  rfl
set_option maxHeartbeats 4000000 in
set_option maxRecDepth 4000 in
theorem turned_walk (s : ByteArray) (v : Value) (w : World) (hs : s.size ≤ maxLen) (hS : Ins w v) (hT : Tab w) : Calls Tryz.prog 4 #[.string s, v] w fun e w' => e = .returned (.bool true) ∧ Mod (fun _ => False) w w' := by
  have haw := awake_any w
  have hnd := fun w => kneeds_any s w hs
  have hsz : ∀ (n : Nat) (w2 : World), Mod (fun _ => False) w w2 → n ≤ 32 → _ := fun n w2 k hn => sized_any v n w2 (hS.keep k) hn
  have HSZ : Hid _ := hsz
  have HT : Hid (Tab w) := hT
  clear hsz hT
  obtain ⟨ao, len, cap, rfl, -⟩ := hS
  go_enter Tryz.func4, Tryz.ntmps4
  go_wp2_with fail
  refine haw.mono ?_
  rintro e w1 ⟨rfl, k1⟩
  clear haw
  go_wp2_with fail
  refine (hnd _).mono ?_
  rintro e w2 ⟨k2, n, b, hN, rfl⟩
  clear hnd
  have hm2 := k1.trans k2
  clear k1 k2
  cases b with
  | false =>
    have hN0 : NsA s 0 false := by
      rcases hN with ⟨a1, a2, a3⟩ | ⟨a0, a, p, a1, ⟨a2, a3, a4⟩ | ⟨a2, a3, a4, a5⟩⟩
      · exact .inl ⟨a1, rfl, rfl⟩
      · exact .inr ⟨a0, a, p, a1, .inl ⟨a2, rfl, rfl⟩⟩
      · cases a5
    have hrf := fun w => refused_any s w hs hN0
    clear hN hN0
    go_wp2_with fail
    refine (hrf _).mono ?_
    rintro e w3 ⟨rfl, k3⟩
    have hm3 := hm2.trans k3
    clear hrf
    go_wp2_with fail
    go_ret
    exact ⟨rfl, hm3⟩
  | true =>
    obtain ⟨hs3, p, hA, hn, hn32⟩ : s.size ≤ 300 ∧ ∃ p, Ans s 0 p ∧ n = ndR (gaA s s.size).l ∧ n ≤ 32 := by
      rcases hN with ⟨a1, a2, a3⟩ | ⟨a0, a, p, a1, ⟨a2, a3, a4⟩ | ⟨a2, a3, a4, a5⟩⟩
      · cases a3
      · cases a4
      · subst a2; exact ⟨a0, p, a1, a3, a4⟩
    have he2 : n % 2 = 0 := by rw [hn]; exact ndR_even _
    obtain ⟨C, hC⟩ := rgt_any hA
    rw [← hn] at hC
    have HC : Hid _ := hC
    clear hN hA hn hC
    go_wp2_with fail
    refine (HSZ.out n _ hm2 hn32).mono ?_
    rintro e w3 ⟨k3, lv, l, rfl, hll, hlr, hO⟩
    have hm3 := hm2.trans k3
    have HLR : Hid _ := hlr
    have HLL : Hid _ := hll
    clear hm2 k3 HSZ hlr hll
    obtain ⟨lo, lcap, rfl, -⟩ := owns_form hO
    have hw23 := hO.lt
    go_wp2_with fail
    go_loopw [9, 10, 11] (fun mv kv iv wr => ∃ j : Nat, 2 * j ≤ n ∧ iv = .int .i64 (2 * j : Nat) ∧ wr.ownsRow w3.heap.size 3 1 mv (2 * j) (zvs (qrL l j)) ∧ wr.ownsRow w3.heap.size 3 1 kv (2 * j) (zvs (xcL l j)) ∧ (∀ g, mv.ownBlock = some g → kv.ownBlock = some g → False) ∧ Mod (fun _ => False) w3 wr) (fun _ _ iv _ => n - (intOf iv).toNat)
    case atStart => exact ⟨0, by omega, rfl, World.ownsRow_nil _ _ _ _, World.ownsRow_nil _ _ _ _, fun g h => by simp [Value.ownBlock] at h, Mod.refl _ _⟩
    case round =>
      obtain ⟨j, hj, rfl, hM, hK, hd, hm⟩ := hrel
      have hws := hm.size
      have hOr := owns_mod hO hm (fun _ _ f => f)
      obtain ⟨mo, mcap, rfl, -⟩ := owns_form hM
      obtain ⟨ko, kcap, rfl, -⟩ := owns_form hK
      by_cases hlt : 2 * j + 1 < n
      · obtain ⟨gb, cp, e1, c0⟩ := inp_cell hOr HLL.out.symm (k := 2 * j) (by omega)
        obtain ⟨gb', cp', e2, c1⟩ := inp_cell hOr HLL.out.symm (k := 2 * j + 1) (by omega)
        simp only [Value.slice.injEq] at e1 e2
        obtain ⟨rfl, -, rfl⟩ := e1
        obtain ⟨e2, -, rfl⟩ := e2
        simp only [Option.some.injEq, Addr.mk.injEq, and_true] at e2
        subst e2
        have hgb : gb < w3.heap.size := (hw23 gb rfl).2
        have b0 := inp_range HLR.out (j := 2 * j) (by have := HLL.out; omega)
        have b1 := inp_range HLR.out (j := 2 * j + 1) (by have := HLL.out; omega)
        have HQ : Hid (qrL l (j + 1) = qrL l j ++ [-inp l (2 * j + 1)] ++ [inp l (2 * j)]) := rfl
        have HX : Hid (xcL l (j + 1) = xcL l j ++ [inp l (2 * j + 1)] ++ [inp l (2 * j)]) := rfl
        generalize inp l (2 * j) = x at *
        generalize inp l (2 * j + 1) = y at *
        generalize qrL l j = Q at *
        generalize xcL l j = X at *
        have q1 : IntKind.i64.wrap (-y) = -y := by simp [IntKind.wrap, IntKind.signed, IntKind.bits]; omega
        have HB : Hid _ := And.intro b0 b1
        clear b0 b1 hOr
        go_wp2_with (at_builtin; refine wpList_push rfl _ _ rfl w3.heap.size _ _ Q rfl hM (-y) rfl (by omega) hws ?_)
        intro v1 wa hM1 hg1 hv1
        have d0 : wa.cell? ⟨gb, 2 * j, none⟩ = some (.int .i64 x) := (World.cell?_of_block (a := ⟨gb, 2 * j, none⟩) (hg1.block gb (by omega) (fun e => by have := (hM.lt gb e).1; omega))).trans c0
        have d1 : wa.cell? ⟨gb, 2 * j + 1, none⟩ = some (.int .i64 y) := (World.cell?_of_block (a := ⟨gb, 2 * j + 1, none⟩) (hg1.block gb (by omega) (fun e => by have := (hM.lt gb e).1; omega))).trans c1
        have hK1 := owns_mod' hK hg1 (fun g h1 h2 => hd g h2 h1)
        have hd1 : ∀ g, v1.ownBlock = some g → (Value.slice ko (2 * j) kcap).ownBlock = some g → False := fun g h1 h2 => by
          rcases hv1 g h1 with h | h
          · exact hd g h h2
          · have := (hK.lt g h2).2; omega
        have hm1 := mod_own hm hM hg1
        have hws1 := hm1.size
        obtain ⟨mo1, mcap1, rfl, -⟩ := owns_form hM1
        clear c0 c1 hM hg1 hv1 hK hd hm hws
        go_wp2_with (at_builtin; refine wpList_push rfl _ _ rfl w3.heap.size _ _ (Q ++ [-y]) rfl hM1 x rfl (by omega) hws1 ?_)
        intro v2 wb hM2 hg2 hv2
        have c0 : wb.cell? ⟨gb, 2 * j, none⟩ = some (.int .i64 x) := (World.cell?_of_block (a := ⟨gb, 2 * j, none⟩) (hg2.block gb (by omega) (fun e => by have := (hM1.lt gb e).1; omega))).trans d0
        have c1 : wb.cell? ⟨gb, 2 * j + 1, none⟩ = some (.int .i64 y) := (World.cell?_of_block (a := ⟨gb, 2 * j + 1, none⟩) (hg2.block gb (by omega) (fun e => by have := (hM1.lt gb e).1; omega))).trans d1
        have hK2 := owns_mod' hK1 hg2 (fun g h1 h2 => hd1 g h2 h1)
        have hd2 : ∀ g, v2.ownBlock = some g → (Value.slice ko (2 * j) kcap).ownBlock = some g → False := fun g h1 h2 => by
          rcases hv2 g h1 with h | h
          · exact hd1 g h h2
          · have := (hK1.lt g h2).2; omega
        have hm2 := mod_own hm1 hM1 hg2
        have hws2 := hm2.size
        obtain ⟨mo2, mcap2, rfl, -⟩ := owns_form hM2
        clear d0 d1 hM1 hg2 hv2 hK1 hd1 hm1 hws1
        go_wp2_with (at_builtin; refine wpList_push rfl _ _ rfl w3.heap.size _ _ X rfl hK2 y rfl (by omega) hws2 ?_)
        intro v3 wc hK3 hg3 hv3
        have d0 : wc.cell? ⟨gb, 2 * j, none⟩ = some (.int .i64 x) := (World.cell?_of_block (a := ⟨gb, 2 * j, none⟩) (hg3.block gb (by omega) (fun e => by have := (hK2.lt gb e).1; omega))).trans c0
        have hM3 := owns_mod' hM2 hg3 (fun g h1 h2 => hd2 g h1 h2)
        have hd3 : ∀ g, (Value.slice mo2 (2 * j + 1 + 1) mcap2).ownBlock = some g → v3.ownBlock = some g → False := fun g h1 h2 => by
          rcases hv3 g h2 with h | h
          · exact hd2 g h1 h
          · have := (hM2.lt g h1).2; omega
        have hm3' := mod_own hm2 hK2 hg3
        have hws3 := hm3'.size
        obtain ⟨ko3, kcap3, rfl, -⟩ := owns_form hK3
        clear c0 c1 hM2 hg3 hv3 hK2 hd2 hm2 hws2
        go_wp2_with (at_builtin; refine wpList_push rfl _ _ rfl w3.heap.size _ _ (X ++ [y]) rfl hK3 x rfl (by omega) hws3 ?_)
        intro v4 wd hK4 hg4 hv4
        have hM4 := owns_mod' hM3 hg4 (fun g h1 h2 => hd3 g h1 h2)
        have hd4 : ∀ g, (Value.slice mo2 (2 * j + 1 + 1) mcap2).ownBlock = some g → v4.ownBlock = some g → False := fun g h1 h2 => by
          rcases hv4 g h2 with h | h
          · exact hd3 g h1 h
          · have := (hM3.lt g h1).2; omega
        have hm4 := mod_own hm3' hK3 hg4
        obtain ⟨ko4, kcap4, rfl, -⟩ := owns_form hK4
        clear d0 hM3 hg4 hv4 hK3 hd3 hm3' hws3
        go_wp2_with fail
        go_roundw
        case rel => exact ⟨j + 1, by omega, by go_num, by rw [HQ.out, List.append_assoc]; exact hM4, by rw [HX.out, List.append_assoc]; exact hK4, hd4, hm4⟩
        case measure => simp [intOf]; omega
      · have hjn : n / 2 = j := by omega
        have hn2 : n = 2 * j := by omega
        have h1 := HC.out.run l HLR.out HLL.out
        have h2 := qr_run HC.out l HLR.out HLL.out he2
        rw [hjn] at h2
        have hal1 := alike_any s l (qrL l j) (.slice lo n lcap) (.slice mo (2 * j) mcap) _ _ wr _ hs3 h1 h2 (by have := HLL.out; omega) (by unfold qrL; rw [prL_len]; omega) HLR.out (prL_range HLR.out (fun x y hx hy => by omega) j (by have := HLL.out; omega)) (by rw [HLL.out]; exact hOr) (by unfold qrL at *; rw [prL_len]; exact hM) (HT.out.mod (hm3.trans hm))
        have hha := fun w => has_any s w hs3
        have hmr := hm3.trans hm
        have HM : Hid _ := hm
        have HAL2 : Hid (noCcw C → ∀ wq, Mod (fun _ => False) wr wq → Calls Tryz.prog 17 #[.string s, .slice lo n lcap, .slice ko (2 * j) kcap] wq fun e w' => e = .returned (.bool true) ∧ Mod (fun _ => False) wq w') := fun hc wq kq => by
          have h3 := xc_run HC.out l HLR.out HLL.out he2 hc
          rw [hjn] at h3
          exact alike_any s l (xcL l j) (.slice lo n lcap) (.slice ko (2 * j) kcap) _ _ wq _ hs3 h1 h3 (by have := HLL.out; omega) (by unfold xcL; rw [prL_len]; omega) HLR.out (prL_range HLR.out (fun x y hx hy => by omega) j (by have := HLL.out; omega)) (by rw [HLL.out]; exact owns_mod hOr kq (fun _ _ f => f)) (by unfold xcL at *; rw [prL_len]; exact owns_mod hK kq (fun _ _ f => f)) (HT.out.mod ((hm3.trans hm).trans kq))
        have q1 : ¬ ((2 * j : Nat) : Int) + 1 < (n : Int) := by omega
        clear h1 h2 hm hd hM hK hOr hjn hn2
        go_wp2_with fail
        refine hal1.mono ?_
        rintro e w4 ⟨rfl, k4⟩
        clear hal1
        go_wp2_with fail
        refine (hha _).mono ?_
        rintro e w5 ⟨b, rfl, hb, k5⟩
        have hm5 := hmr.trans (k4.trans k5)
        cases b with
        | true =>
          clear hha k4 k5
          go_wp2_with fail
          go_ret
          exact ⟨rfl, hm5⟩
        | false =>
          have hal2 := HAL2.out (HC.out.ccw (hb rfl)) w5 (k4.trans k5)
          clear hha k4 k5 HAL2 hb
          go_wp2_with fail
          refine hal2.mono ?_
          rintro e w6 ⟨rfl, k6⟩
          have hm6 := hm5.trans k6
          clear hal2
          go_wp2_with fail
          go_ret
          exact ⟨rfl, hm6⟩
end Go.Proofs.YtmnfndpbblpjiabGreatDoor

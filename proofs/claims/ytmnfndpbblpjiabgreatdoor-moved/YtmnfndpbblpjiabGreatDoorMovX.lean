/- rulerkeep's Moved. -/
import Derived.Test.YtmnfndpbblpjiabGreatDoorTuX
namespace Go.Proofs.YtmnfndpbblpjiabGreatDoor
open Go.RowKit Pu

def mvV (k dx dy : Int) (i : Nat) (x : Int) : Int := if i % 2 = 1 then k * x + dy else k * x + dx
/-- Numbers k times as great, moved in turn. -/
def mvL (k dx dy : Int) (l : List Int) : Nat → List Int
  | 0 => []
  | j + 1 => mvL k dx dy l j ++ [mvV k dx dy j (inp l j)]
theorem mvL_len (k dx dy : Int) (l : List Int) : ∀ j, (mvL k dx dy l j).length = j
  | 0 => rfl
  | j + 1 => by simp [mvL, mvL_len k dx dy l j]
theorem mvL_get (k dx dy : Int) (l : List Int) : ∀ j i, i < j → inp (mvL k dx dy l j) i = mvV k dx dy i (inp l i)
  | 0, i, hi => by omega
  | j + 1, i, hi => by
    have hl := mvL_len k dx dy l j
    have ih := mvL_get k dx dy l j i
    unfold inp at *
    by_cases h' : i < j
    · rw [← ih h', mvL, List.getElem?_append_left (by omega)]
    · obtain rfl : i = j := by omega
      rw [mvL, List.getElem?_append_right (by omega), show i - (mvL k dx dy l i).length = 0 by omega]
      rfl
theorem m_inp_range {l : List Int} (h : InR l) {j : Nat} (hj : j < l.length) : -99 ≤ inp l j ∧ inp l j ≤ 99 := by
  unfold inp
  rw [List.getElem?_eq_getElem hj]
  exact h _ (List.getElem_mem hj)
theorem mv_run {s : ByteArray} {n : Nat} {C : List Cmd} (h : Rgt s n C) (k dx dy : Int) (hk : k ≠ 0) (l : List Int) (hr : InR (mvL k dx dy l n)) : RunA s (jnL (mvL k dx dy l n)) (semC l C 0 0 [] ⟨#[]⟩, 0) := by
  refine h.same ⟨k, 0, dx, dy, 1, by decide, by simpa using hk⟩ l _ hr (mvL_len _ _ _ _ _) (fun j hj => ?_) (.inl rfl)
  rw [mvL_get k dx dy l n (2 * j) (by omega), mvL_get k dx dy l n (2 * j + 1) hj]
  unfold mvV
  rw [if_neg (by omega), if_pos (by omega)]
  constructor <;> simp
theorem m_inp_cell {w : World} {base n : Nat} {v : Value} {l : List Int} (h : w.ownsRow base 3 1 v n (zvs l)) (hn : n = l.length) {k : Nat} (hk : k < n) : ∃ gb cap, v = .slice (some ⟨gb, 0, none⟩) n cap ∧ w.cell? ⟨gb, k, none⟩ = some (.int .i64 (inp l k)) := by
  obtain ⟨ao, cap, rfl, -⟩ := owns_form h
  obtain ⟨gb, rfl, ck⟩ := zvs_cell h hn (k := k) (by omega)
  refine ⟨gb, cap, rfl, ?_⟩
  rw [ck]
  unfold inp
  rw [List.getElem?_eq_getElem (by omega)]
  rfl
theorem m_prod {k x : Int} (hk : -4 ≤ k ∧ k ≤ 4) (hx : -99 ≤ x ∧ x ≤ 99) : -396 ≤ k * x ∧ k * x ≤ 396 := by
  obtain ⟨h1, h2⟩ := hk
  have : k = -4 ∨ k = -3 ∨ k = -2 ∨ k = -1 ∨ k = 0 ∨ k = 1 ∨ k = 2 ∨ k = 3 ∨ k = 4 := by omega
  rcases this with rfl | rfl | rfl | rfl | rfl | rfl | rfl | rfl | rfl <;> omega
theorem m_wr {z : Int} (h : -10000 ≤ z ∧ z ≤ 10000) : IntKind.i64.wrap z = z := by simp [IntKind.wrap, IntKind.signed, IntKind.bits]; omega
def MvEnd (w : World) (k dx dy : Int) (l : List Int) (e : Ending) (w' : World) : Prop :=
  Mod (fun _ => False) w w' ∧ ((∃ u, e = .returned (.tuple #[u, .bool false])) ∨ ∃ v', e = .returned (.tuple #[v', .bool true]) ∧ InR (mvL k dx dy l l.length) ∧ w'.ownsRow w.heap.size 3 1 v' l.length (zvs (mvL k dx dy l l.length)))
set_option maxHeartbeats 2000000 in
set_option maxRecDepth 4000 in
theorem moved_any (k dx dy : Int) (l : List Int) (lv : Value) (n bl : Nat) (w : World) (hk : -4 ≤ k ∧ k ≤ 4) (hx : -99 ≤ dx ∧ dx ≤ 99) (hy : -99 ≤ dy ∧ dy ≤ 99) (hn : n = l.length) (h32 : n ≤ 32) (hr : InR l) (hO : w.ownsRow bl 3 1 lv n (zvs l)) :
    Calls Tryz.prog 20 #[lv, .int .i64 k, .int .i64 dx, .int .i64 dy] w (MvEnd w k dx dy l) := by
  have hlt := hO.lt
  obtain ⟨lo, lcap, rfl, -⟩ := owns_form hO
  have HR : Hid _ := hr
  have HN : Hid (n = l.length) := hn
  clear hr hn
  go_enter Tryz.func20, Tryz.ntmps20
  go_wp2_with fail
  go_loopw [10, 11] (fun ov iv wr => ∃ j : Nat, j ≤ n ∧ iv = .int .i64 j ∧ wr.ownsRow w.heap.size 3 1 ov j (zvs (mvL k dx dy l j)) ∧ Hid (InR (mvL k dx dy l j)) ∧ Mod (fun _ => False) w wr) (fun _ iv _ => n - (intOf iv).toNat)
  case atStart => exact ⟨0, by omega, rfl, World.ownsRow_nil _ _ _ _, (fun x hx => by simp [mvL] at hx : InR _), Mod.refl _ _⟩
  case round =>
    obtain ⟨j, hj, rfl, hM, HI, hm⟩ := hrel
    have hws := hm.size
    have hOr := owns_mod hO hm (fun _ _ f => f)
    obtain ⟨mo, mcap, rfl, -⟩ := owns_form hM
    by_cases hl : j < n
    · obtain ⟨gb, cp, e1, c0⟩ := m_inp_cell hOr HN.out (k := j) hl
      simp only [Value.slice.injEq] at e1
      obtain ⟨rfl, -, rfl⟩ := e1
      have b0 := m_inp_range HR.out (j := j) (by have := HN.out; omega)
      have HQ : Hid (mvL k dx dy l (j + 1) = mvL k dx dy l j ++ [mvV k dx dy j (inp l j)]) := rfl
      generalize inp l j = x at *
      generalize mvL k dx dy l j = Q at *
      have hp := m_prod hk b0
      have HV : Hid (mvV k dx dy j x = if j % 2 = 1 then k * x + dy else k * x + dx) := rfl
      have w1 := m_wr (z := k * x) (by omega)
      have w2 := m_wr (z := k * x + dx) (by omega)
      have w3 := m_wr (z := k * x + dy) (by omega)
      by_cases hodd : j % 2 = 1
      · have q1 : (j : Int) % 2 = 1 := by omega
        have HV2 : Hid (mvV k dx dy j x = k * x + dy) := show mvV k dx dy j x = k * x + dy by rw [HV.out, if_pos hodd]
        clear HV b0 hodd hOr
        by_cases h1 : k * x + dy < -99
        · go_wp2_with fail
          go_ret2
          exact ⟨hm, .inl ⟨_, rfl⟩⟩
        · by_cases h2 : 99 < k * x + dy
          · go_wp2_with fail
            go_ret2
            exact ⟨hm, .inl ⟨_, rfl⟩⟩
          · go_wp2_with (at_builtin; refine wpList_push rfl _ _ rfl w.heap.size _ _ Q rfl hM (k * x + dy) rfl (by omega) hws ?_)
            intro v1 wa hM1 hg1 hv1
            have hm1 := mod_own hm hM hg1
            obtain ⟨mo1, mcap1, rfl, -⟩ := owns_form hM1
            clear hM hg1 hv1 hm hws c0
            go_wp2_with fail
            go_roundw
            case rel =>
              have hI1 : Hid (InR (mvL k dx dy l (j + 1))) := show InR _ by rw [HQ.out, HV2.out]; exact HI.out.snoc (by omega)
              exact ⟨j + 1, by omega, by go_num, by rw [HQ.out, HV2.out]; exact hM1, hI1, hm1⟩
            case measure => simp [intOf]; omega
      · have q1 : (j : Int) % 2 = 0 := by omega
        have HV2 : Hid (mvV k dx dy j x = k * x + dx) := show mvV k dx dy j x = k * x + dx by rw [HV.out, if_neg hodd]
        clear HV b0 hodd hOr
        by_cases h1 : k * x + dx < -99
        · go_wp2_with fail
          go_ret2
          exact ⟨hm, .inl ⟨_, rfl⟩⟩
        · by_cases h2 : 99 < k * x + dx
          · go_wp2_with fail
            go_ret2
            exact ⟨hm, .inl ⟨_, rfl⟩⟩
          · go_wp2_with (at_builtin; refine wpList_push rfl _ _ rfl w.heap.size _ _ Q rfl hM (k * x + dx) rfl (by omega) hws ?_)
            intro v1 wa hM1 hg1 hv1
            have hm1 := mod_own hm hM hg1
            obtain ⟨mo1, mcap1, rfl, -⟩ := owns_form hM1
            clear hM hg1 hv1 hm hws c0
            go_wp2_with fail
            go_roundw
            case rel =>
              have hI1 : Hid (InR (mvL k dx dy l (j + 1))) := show InR _ by rw [HQ.out, HV2.out]; exact HI.out.snoc (by omega)
              exact ⟨j + 1, by omega, by go_num, by rw [HQ.out, HV2.out]; exact hM1, hI1, hm1⟩
            case measure => simp [intOf]; omega
    · have hjn : j = n := by omega
      subst hjn
      have HE : Hid _ := And.intro hm (And.intro HI.out hM)
      clear hOr hM hm
      go_wp2_with fail
      go_ret2
      obtain ⟨hm, hI, hM⟩ := HE.out
      refine ⟨hm, .inr ⟨_, rfl, ?_, ?_⟩⟩
      · rw [← HN.out]; exact hI
      · rw [← HN.out]; exact hM
set_option maxHeartbeats 2000000 in
set_option maxRecDepth 4000 in
theorem moved_walk (s : ByteArray) (v : Value) (t a b : Int) (w : World) (hs : s.size ≤ maxLen) (hS : Ins w v) (ht : isI t) (ha : isI a) (hb : isI b) (hT : Tab w) : Calls Tryz.prog 5 #[.string s, v, .int .i64 t, .int .i64 a, .int .i64 b] w fun e w' => e = .returned (.bool true) ∧ Mod (fun _ => False) w w' := by
  have haw := awake_any w
  have hnd := fun w => kneeds_any s w hs
  have hpt := fun w => kpick_any t 9 w ht (by omega) (by omega)
  have hpa := fun w => kplace_any a w ha
  have hpb := fun w => kplace_any b w hb
  have hrt := pk_range t 9 (by omega)
  have hra := plc_range a
  have hrb := plc_range b
  generalize pk t 9 = pt at *
  generalize plc a = dx at *
  generalize plc b = dy at *
  have hsz : ∀ (n : Nat) (w2 : World), Mod (fun _ => False) w w2 → n ≤ 32 → _ := fun n w2 k hn => sized_any v n w2 (hS.keep k) hn
  have HSZ : Hid _ := hsz
  have HT : Hid (Tab w) := hT
  clear hsz hT ht ha hb
  obtain ⟨ao, len, cap, rfl, -⟩ := hS
  go_enter Tryz.func5, Tryz.ntmps5
  go_wp2_with fail
  refine haw.mono ?_
  rintro e w1 ⟨rfl, k1⟩
  clear haw
  go_wp2_with fail
  refine (hnd _).mono ?_
  rintro e w2 ⟨k2, n, b, hN, rfl⟩
  clear hnd
  have hm2 := k1.trans k2
  clear k1 k2
  cases b with
  | false =>
    have hN0 : NsA s 0 false := by
      rcases hN with ⟨a1, a2, a3⟩ | ⟨a0, a, p, a1, ⟨a2, a3, a4⟩ | ⟨a2, a3, a4, a5⟩⟩
      · exact .inl ⟨a1, rfl, rfl⟩
      · exact .inr ⟨a0, a, p, a1, .inl ⟨a2, rfl, rfl⟩⟩
      · cases a5
    have hrf := fun w => refused_any s w hs hN0
    clear hN hN0
    go_wp2_with fail
    refine (hrf _).mono ?_
    rintro e w3 ⟨rfl, k3⟩
    have hm3 := hm2.trans k3
    clear hrf
    go_wp2_with fail
    go_ret
    exact ⟨rfl, hm3⟩
  | true =>
    obtain ⟨hs3, p, hA, hn, hn32⟩ : s.size ≤ 300 ∧ ∃ p, Ans s 0 p ∧ n = ndR (gaA s s.size).l ∧ n ≤ 32 := by
      rcases hN with ⟨a1, a2, a3⟩ | ⟨a0, a, p, a1, ⟨a2, a3, a4⟩ | ⟨a2, a3, a4, a5⟩⟩
      · cases a3
      · cases a4
      · subst a2; exact ⟨a0, p, a1, a3, a4⟩
    obtain ⟨C, hC⟩ := rgt_any hA
    rw [← hn] at hC
    have HC : Hid _ := hC
    obtain ⟨k, rfl⟩ : ∃ k, pt = k + 4 := ⟨pt - 4, by omega⟩
    have hk : -4 ≤ k ∧ k ≤ 4 := by omega
    have q4 : IntKind.i64.wrap (k + 4 - 4) = k := (m_wr (z := k + 4 - 4) (by omega)).trans (by omega)
    have q5 := m_wr (z := k) (by omega)
    clear hN hA hn hC
    go_wp2_with fail
    refine (hpt _).mono ?_
    rintro e w3 ⟨rfl, rfl⟩
    go_wp2_with fail
    refine (HSZ.out n _ hm2 hn32).mono ?_
    rintro e w3 ⟨k3, lv, l, rfl, hll, hlr, hO⟩
    have hm3 := hm2.trans k3
    have HLR : Hid _ := hlr
    have HLL : Hid _ := hll
    clear hm2 k3 HSZ hlr hll
    have hmv := moved_any k dx dy l lv n _ w3 hk hra hrb HLL.out.symm hn32 HLR.out hO
    obtain ⟨lo, lcap, rfl, -⟩ := owns_form hO
    go_wp2_with fail
    refine (hpa _).mono ?_
    rintro e w4 ⟨rfl, rfl⟩
    go_wp2_with fail
    refine (hpb _).mono ?_
    rintro e w4 ⟨rfl, rfl⟩
    go_wp2_with fail
    refine hmv.mono ?_
    rintro e w4 ⟨k4, ⟨u, rfl⟩ | ⟨mv, rfl, hI, hM⟩⟩
    · have hm4 := hm3.trans k4
      clear hmv hm3 k4 hO
      by_cases h0 : k = 0
      · go_wp2_with fail
        go_ret
        exact ⟨rfl, hm4⟩
      · have hb0 : (k == 0) = false := by rw [beq_eq_false_iff_ne]; exact h0
        go_wp2_with fail
        go_ret
        exact ⟨rfl, hm4⟩
    · have hm4 := hm3.trans k4
      rw [HLL.out] at hI hM
      by_cases h0 : k = 0
      · obtain ⟨mo, mcap, rfl, -⟩ := owns_form hM
        clear hmv hm3 k4 hO hM hI
        go_wp2_with fail
        go_ret
        exact ⟨rfl, hm4⟩
      · have hb0 : (k == 0) = false := by rw [beq_eq_false_iff_ne]; exact h0
        have h1 := HC.out.run l HLR.out HLL.out
        have h2 := mv_run HC.out k dx dy h0 l hI
        have hal := alike_any s l (mvL k dx dy l n) _ mv _ _ w4 _ hs3 h1 h2 (by have := HLL.out; omega) (by rw [mvL_len]; exact hn32) HLR.out hI (by rw [HLL.out]; exact owns_mod hO k4 (fun _ _ f => f)) (by rw [mvL_len]; exact hM) (HT.out.mod hm4)
        obtain ⟨mo, mcap, rfl, -⟩ := owns_form hM
        clear hmv hm3 k4 hO hM hI h1 h2
        go_wp2_with fail
        refine hal.mono ?_
        rintro e w5 ⟨rfl, k5⟩
        have hm5 := hm4.trans k5
        clear hal
        go_wp2_with fail
        go_ret
        exact ⟨rfl, hm5⟩
end Go.Proofs.YtmnfndpbblpjiabGreatDoor

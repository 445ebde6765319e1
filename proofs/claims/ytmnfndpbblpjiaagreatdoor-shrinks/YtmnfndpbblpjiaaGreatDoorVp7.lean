/- The program's splitCode: a code that begins right. -/
import Derived.Test.YtmnfndpbblpjiaaGreatDoorVp6
namespace Go.Proofs.YtmnfndpbblpjiaaGreatDoor
open Go.RowKit Pu
attribute [local go_sem ↓] index_p0 index_p1 index_p2 index_p3
attribute [local go_sem] wrap_b wrap_p1 wrap_p2 wrap_p3

theorem set3_2 {w : World} {b : Nat} {x y z z' : Value} {ty : TypeId} (h : w.heap[b]? = some (.cells #[x, y, z] ty (0, 0))) : (w.setCell ⟨b, 2, none⟩ z').heap[b]? = some (.cells #[x, y, z'] ty (0, 0)) := by
  simp [World.setCell, Array.getElem?_modify, h]
theorem set3_0 {w : World} {b : Nat} {x y z z' : Value} {ty : TypeId} (h : w.heap[b]? = some (.cells #[x, y, z] ty (0, 0))) : (w.setCell ⟨b, 0, none⟩ z').heap[b]? = some (.cells #[z', y, z] ty (0, 0)) := by
  simp [World.setCell, Array.getElem?_modify, h]
theorem set3_1 {w : World} {b : Nat} {x y z z' : Value} {ty : TypeId} (h : w.heap[b]? = some (.cells #[x, y, z] ty (0, 0))) : (w.setCell ⟨b, 1, none⟩ z').heap[b]? = some (.cells #[x, z', z] ty (0, 0)) := by
  simp [World.setCell, Array.getElem?_modify, h]
def set3 (w : World) (b : Nat) (x y z : Value) : World := ((w.setCell ⟨b, 0, none⟩ x).setCell ⟨b, 1, none⟩ y).setCell ⟨b, 2, none⟩ z
theorem set3_own (w : World) (b : Nat) (x y z : Value) : Mod (fun q => q = b) w (set3 w b x y z) := by
  have h0 : Mod (fun q => q = b) w (w.setCell ⟨b, 0, none⟩ x) := (Mod.refl _ w).setCell ⟨b, 0, none⟩ x (fun _ => rfl)
  have h1 := h0.setCell ⟨b, 1, none⟩ y (fun _ => rfl)
  exact h1.setCell ⟨b, 2, none⟩ z (fun _ => rfl)
theorem set3_mod {p : Nat → Prop} {a w : World} (h : Mod p a w) (b : Nat) (x y z : Value) (hb : a.heap.size ≤ b) : Mod p a (set3 w b x y z) := by
  have h0 := h.setCell ⟨b, 0, none⟩ x (fun h => absurd h (Nat.not_lt.2 hb))
  have h1 := h0.setCell ⟨b, 1, none⟩ y (fun h => absurd h (Nat.not_lt.2 hb))
  exact h1.setCell ⟨b, 2, none⟩ z (fun h => absurd h (Nat.not_lt.2 hb))
theorem set3_at {w : World} {b : Nat} {x y z x' y' z' : Value} {ty : TypeId} (h : w.heap[b]? = some (.cells #[x, y, z] ty (0, 0))) : (set3 w b x' y' z').heap[b]? = some (.cells #[x', y', z'] ty (0, 0)) := set3_2 (set3_1 (set3_0 h))
theorem fz3 {w : World} {b : Nat} {C : Array Value} {ty : TypeId} (h : w.heap[b]? = some (.cells C ty (0, 0))) (i : Nat) : w.frozen? ⟨b, i, none⟩ = false := by simp [World.frozen?, h]

set_option maxHeartbeats 3200000 in
set_option maxRecDepth 100000 in
theorem split_ok (s : ByteArray) (w : World) (h6 : 6 ≤ s.size) (hn0 : g s 0 = 82) (hn1 : g s 1 = 85) (ha : 1 ≤ g s 2) (hb : g s 2 ≤ 128) (hc : g s 3 ≤ 32) (hd : g s 5 * 256 + g s 4 ≤ 2000) (hn : s.size = 6 + 4 * (g s 5 * 256 + g s 4)) (hs : s.size ≤ 8006) : Calls Tryz.prog 71 #[.string s] w fun e w' => SplitEnd s w w' e ∧ Mod (fun _ => False) w w' := by
  have HR : Hid (begunB s = true) := show begunB s = true by simp [begunB, h6, hn0, hn1, ha, hb, hc, hd]; exact hn
  have hns : nst s ≤ 2000 := (nst_of HR.out).2.2.1
  obtain ⟨i0, hi, hz0, hz1, hz2⟩ := info_parts Tryz.infoSt
  have h0 : 0 < s.size := by omega
  have h1 : 1 < s.size := by omega
  have h2 : 2 < s.size := by omega
  have h3 : 3 < s.size := by omega
  have i6 : ¬ (s.size : Int) < 6 := by omega
  have b0 : (((s[0]'h0).toNat : Int) != 82) = false := bne_f (m := 82) (by rw [g_in h0] at hn0; exact hn0)
  have b1 : (((s[1]'h1).toNat : Int) != 85) = false := bne_f (m := 85) (by rw [g_in h1] at hn1; exact hn1)
  have j2 : (2 : Int) < (s.size : Int) := by omega
  have j3 : (3 : Int) < (s.size : Int) := by omega
  have l2 := (s[2]'h2).toNat_lt
  have l3 := (s[3]'h3).toNat_lt
  clear hn0 hn1
  have h4 : 4 < s.size := by omega
  have h5 : 5 < s.size := by omega
  have j4 : (4 : Int) < (s.size : Int) := by omega
  have j5 : (5 : Int) < (s.size : Int) := by omega
  have l4 := (s[4]'h4).toNat_lt
  have l5 := (s[5]'h5).toNat_lt
  have q2 : ¬ ((s[2]'h2).toNat : Int) < 1 := by rw [g_in h2] at ha; omega
  have q3 : ¬ (128 : Int) < ((s[2]'h2).toNat : Int) := by rw [g_in h2] at hb; omega
  have q4 : ¬ (32 : Int) < ((s[3]'h3).toNat : Int) := by rw [g_in h3] at hc; omega
  have q5 : ¬ (2000 : Int) < ((s[4]'h4).toNat : Int) + 256 * ((s[5]'h5).toNat : Int) := by rw [g_in h4, g_in h5] at hd; omega
  have q6 : ((s.size : Int) != (6 : Int) + (4 : Int) * (((s[4]'h4).toNat : Int) + (256 : Int) * ((s[5]'h5).toNat : Int))) = false := by rw [g_in h4, g_in h5] at hn; simp; omega
  have HG2 : Hid (g s 2 = (s[2]'h2).toNat) := g_in h2
  have HG3 : Hid (g s 3 = (s[3]'h3).toNat) := g_in h3
  clear hn ha hb hc hd
  go_enter Tryz.func71, Tryz.ntmps71
  go_wp2_with fail
  go_region
  go_wp2_with fail
  go_quiet (fail)
  go_wp2_with fail
  go_loopw [6] (fun i wr => ∃ (k j : Nat) (v : Value), k ≤ nst s ∧ Hid (j = 6 + 4 * k) ∧ i = .int .i64 j ∧ wr.heap[w.heap.size]? = some (.cells #[.int .u8 0, .int .u8 0, .slice none 0 0] 52 (0, 0)) ∧ wr.heap[w.heap.size + 1]? = some (.cells #[.int .u8 (s[2]'h2).toNat, .int .u8 (s[3]'h3).toNat, v] 52 (0, 0)) ∧ PLst wr (w.heap.size + 2) v (stepsTo s k) ∧ Mod (fun _ => False) w wr) (fun i _ => s.size - (intOf i).toNat)
  case atStart => exact ⟨0, 6, .slice none 0 0, by omega, rfl, rfl, by simpa using (alloc2_at w _ _).1, by simpa using (alloc2_at w _ _).2, World.ownsRow_nil _ _ _ _, (((Mod.refl _ _).alloc _).alloc _).drewN _⟩
  case round =>
    obtain ⟨k, j, v, hk, HJ, rfl, hb0, hb1, hL, hm⟩ := hrel
    have hsz := hm.size
    unfold PLst at hL
    rw [stepsTo_len] at hL
    have hn1 : 4 * nst s ≤ s.size - 6 := by unfold nst; omega
    have hn2 : s.size - 6 < 4 * nst s + 4 := by unfold nst; omega
    have hj : 4 * k ≤ j := by have := HJ.out; omega
    have hj2 : j ≤ 4 * k + 6 := by have := HJ.out; omega
    obtain ⟨ao, cap, rfl, -⟩ := owns_form hL
    have hlt1 := lt_of_block hb1
    by_cases hlt : k < nst s
    · have k3 : j + 3 < s.size := by have := HJ.out; omega
      have k0 : j < s.size := by omega
      have k1 : j + 1 < s.size := by omega
      have k2 : j + 2 < s.size := by omega
      have HT : Hid (pcells (stepAt s k) = [.int .u8 s[j].toNat, .int .u8 s[j + 1].toNat, .int .u8 s[j + 2].toNat, .int .u8 s[j + 3].toNat]) := show pcells (stepAt s k) = [.int .u8 s[j].toNat, .int .u8 s[j + 1].toNat, .int .u8 s[j + 2].toNat, .int .u8 s[j + 3].toNat] by
        rw [← g_in k0, ← g_in k1, ← g_in k2, ← g_in k3, HJ.out]; rfl
      have i0a : (0 : Int) ≤ (j : Int) := by omega
      have i0b : (j : Int) < (s.size : Int) := by omega
      have i1b : (j : Int) + 1 < (s.size : Int) := by omega
      have i2b : (j : Int) + 2 < (s.size : Int) := by omega
      have i3b : (j : Int) + 3 < (s.size : Int) := by omega
      have i4b : (j : Int) + 4 ≤ (s.size : Int) := by omega
      have i1a : (0 : Int) ≤ (j : Int) + 1 := by omega
      have i2a : (0 : Int) ≤ (j : Int) + 2 := by omega
      have i3a : (0 : Int) ≤ (j : Int) + 3 := by omega
      have hjb : j ≤ 100000 := by omega
      obtain ⟨c0, c1, c2⟩ := cells3 hb1
      have f2 := fz3 hb1 2
      clear hn1 hn2
      go_wp2_with fail
      go_region
      have hL1 := (hL.alloc (.cells #[.int .u8 s[j].toNat, .int .u8 s[j + 1].toNat, .int .u8 s[j + 2].toNat, .int .u8 s[j + 3].toNat] 107)).drew
      go_wp2_with (at_builtin; refine wpList_append_own _ rfl _ _ 50 rfl (w.heap.size + 2) 107 i0 _ 4 4 Tryz.underlying50 hi hz0 hz1 hz2 rfl (by decide) _ _ _ rfl (hL1.alloc _) ⟨wr.heap.size + 1, 0, none⟩ 1 1 [.int .u8 s[j].toNat, .int .u8 s[j + 1].toNat, .int .u8 s[j + 2].toNat, .int .u8 s[j + 3].toNat] rfl rfl ?c1 ?c2 ?c3 ?c4 ?c5 ?_)
      case c1 => exact World.news_of_block (cs := #[.int .u8 s[j].toNat, .int .u8 s[j + 1].toNat, .int .u8 s[j + 2].toNat, .int .u8 s[j + 3].toNat]) (t := 107) (fr := (0, 0)) (alloc2_at wr _ _).2
      case c2 => simp [Value.oneCell']
      case c3 => unfold maxLen; omega
      case c4 => omega
      case c5 => simp; omega
      intro v' w4 hown4 hgrow _
      have hgm : Mod (fun i => w.heap.size + 2 ≤ i) wr w4 := ((((Mod.refl _ wr).alloc _).drew).alloc _).grown hgrow (fun i hi _ => (hL.lt i hi).1)
      have hb0' := hgm.keep hb0 (by omega)
      have hb1' := hgm.keep hb1 (by omega)
      have hm4 : Mod (fun _ => False) w w4 := ⟨hgm.os.trans hm.os, hgm.tape.trans hm.tape, hgm.output.trans hm.output, Nat.le_trans hm.size hgm.size, fun i hi _ => (hgm.block i (by omega) (by omega)).trans (hm.block i hi (fun f => f))⟩
      obtain ⟨ao', cap', rfl, -⟩ := owns_form hown4
      obtain ⟨d0, d1, d2⟩ := cells3 hb1'
      have f2' := fz3 hb1' 2
      have hown5 : PLst (w4.setCell ⟨w.heap.size + 1, 2, none⟩ (.slice ao' (k + 1) cap')) (w.heap.size + 2) (.slice ao' (k + 1) cap') (stepsTo s (k + 1)) := by
        unfold PLst; rw [stepsTo_len, stepsTo_succ, ← pcellsOf_snoc, HT.out]
        exact owns_mod hown4 ((Mod.refl (fun q => q = w.heap.size + 1) w4).setCell _ _ (fun _ => rfl)) (fun g h1 h2 => by omega)
      have HB0 : Hid ((w4.setCell ⟨w.heap.size + 1, 2, none⟩ (.slice ao' (k + 1) cap')).heap[w.heap.size]? = some (.cells #[.int .u8 0, .int .u8 0, .slice none 0 0] 52 (0, 0))) :=
        ((Mod.refl (fun q => q = w.heap.size + 1) w4).setCell _ _ (fun _ => rfl)).keep hb0' (by omega)
      have HB1 : Hid ((w4.setCell ⟨w.heap.size + 1, 2, none⟩ (.slice ao' (k + 1) cap')).heap[w.heap.size + 1]? = some (.cells #[.int .u8 (s[2]'h2).toNat, .int .u8 (s[3]'h3).toNat, .slice ao' (k + 1) cap'] 52 (0, 0))) := set3_2 (z' := .slice ao' (k + 1) cap') hb1'
      have hm5 : Mod (fun _ => False) w (w4.setCell ⟨w.heap.size + 1, 2, none⟩ (.slice ao' (k + 1) cap')) := hm4.setCell _ _ (fun h => absurd h (by simp))
      clear hown4 hgrow hgm hL hL1 hm hm4 hb0 hb1 hb0' hb1' c0 c1 c2 f2
      go_wp2_with fail
      go_roundw
      case rel => exact ⟨k + 1, j + 4, _, by omega, show j + 4 = 6 + 4 * (k + 1) by have := HJ.out; omega, by go_num, HB0.out, HB1.out, hown5, hm5⟩
      case measure => simp [intOf]; omega
    · have hks : k = nst s := by omega
      have hjs : s.size ≤ j + 3 := by have := HJ.out; omega
      subst hks
      obtain ⟨c0, c1, c2⟩ := cells3 hb1
      obtain ⟨d0, d1, d2⟩ := cells3 hb0
      have e0 := fz3 hb0 0
      have e1 := fz3 hb0 1
      have e2 := fz3 hb0 2
      have hL5 := owns_base (base' := w.heap.size) (owns_mod hL (set3_own wr w.heap.size (.int .u8 (s[2]'h2).toNat) (.int .u8 (s[3]'h3).toNat) (.slice ao (nst s) cap)) (fun g h1 h2 => by omega)) (by omega)
      have hm4 := set3_mod hm w.heap.size (.int .u8 (s[2]'h2).toNat) (.int .u8 (s[3]'h3).toNat) (.slice ao (nst s) cap) (Nat.le_refl _)
      have HC : Hid _ := cells3 (set3_at (x' := .int .u8 (s[2]'h2).toNat) (y' := .int .u8 (s[3]'h3).toNat) (z' := .slice ao (nst s) cap) hb0)
      have HE : Hid (SplitEnd s w (set3 wr w.heap.size (.int .u8 (s[2]'h2).toNat) (.int .u8 (s[3]'h3).toNat) (.slice ao (nst s) cap)) (.returned (.tuple #[.agg #[.int .u8 (s[2]'h2).toNat, .int .u8 (s[3]'h3).toNat, .slice ao (nst s) cap], .bool true]))) := .inr ⟨HR.out, .slice ao (nst s) cap, by rw [HG2.out, HG3.out], by unfold PLst; rw [steps, stepsTo_len]; exact hL5⟩
      clear hL5 hL
      go_wp2_with fail
      obtain ⟨g0, g1, g2⟩ := HC.out
      unfold set3 at g0 g1 g2
      exact bodyPost_ret (v := .tuple #[.agg #[.int .u8 (s[2]'h2).toNat, .int .u8 (s[3]'h3).toNat, .slice ao (nst s) cap], .bool true]) (by simp [results, Tryz.results71, go_sem, g0, g1, g2]) rfl ⟨HE.out, hm4⟩

theorem split_any (s : ByteArray) (w : World) (hs : s.size ≤ 8006) : Calls Tryz.prog 71 #[.string s] w fun e w' => SplitEnd s w w' e ∧ Mod (fun _ => False) w w' := by
  by_cases h6 : 6 ≤ s.size
  · by_cases n0 : g s 0 = 82
    · by_cases n1 : g s 1 = 85
      · by_cases n2 : 1 ≤ g s 2 ∧ g s 2 ≤ 128 ∧ g s 3 ≤ 32
        · by_cases n3 : g s 5 * 256 + g s 4 ≤ 2000
          · by_cases n4 : s.size = 6 + 4 * (g s 5 * 256 + g s 4)
            · exact split_ok s w h6 n0 n1 n2.1 n2.2.1 n2.2.2 n3 n4 hs
            · exact split_bad4 s w h6 n0 n1 n2.1 n2.2.1 n2.2.2 n3 n4 hs
          · exact split_bad3 s w h6 n0 n1 n2.1 n2.2.1 n2.2.2 (by omega) hs
        · exact split_bad2 s w h6 n0 n1 n2 hs
      · exact split_bad1 s w h6 n0 n1 hs
    · exact split_bad0 s w h6 n0 hs
  · exact split_bad6 s w (by omega)
end Go.Proofs.YtmnfndpbblpjiaaGreatDoor

/- The program's splitCode, behind 'RU'. -/
import Derived.Deep.RegionHeld3
import Derived.Test.YtmnfndpbblpjiaaDoorZd03
import Derived.Test.YtmnfndpbblpjiaaDoorZd08
namespace Go.Proofs.YtmnfndpbblpjiaaDoor
open Go.RowKit Pu
attribute [local go_sem] wrap_b

set_option maxHeartbeats 3200000 in
set_option maxRecDepth 100000 in
theorem split_bad2 (s : ByteArray) (w : World) (h6 : 6 ≤ s.size) (hn0 : g s 0 = 82) (hn1 : g s 1 = 85) (hn : ¬ (1 ≤ g s 2 ∧ g s 2 ≤ 128 ∧ g s 3 ≤ 32)) (hs : s.size ≤ 8006) : Calls Tryd.prog 21 #[.string s] w fun e w' => SplitEnd s w w' e ∧ Mod (fun _ => False) w w' := by
  have HR : Hid (begunB s = false) := show begunB s = false by
    cases h : begunB s with
    | false => rfl
    | true => exact absurd ⟨(nst_of h).2.2.2.2.1, (nst_of h).2.2.2.2.2.1, (nst_of h).2.2.2.2.2.2⟩ hn
  have h0 : 0 < s.size := by omega
  have h1 : 1 < s.size := by omega
  have h2 : 2 < s.size := by omega
  have h3 : 3 < s.size := by omega
  have i6 : ¬ (s.size : Int) < 6 := by omega
  have b0 : (((s[0]'h0).toNat : Int) != 82) = false := bne_f (m := 82) (by rw [g_in h0] at hn0; exact hn0)
  have b1 : (((s[1]'h1).toNat : Int) != 85) = false := bne_f (m := 85) (by rw [g_in h1] at hn1; exact hn1)
  have j2 : (2 : Int) < (s.size : Int) := by omega
  have j3 : (3 : Int) < (s.size : Int) := by omega
  have l2 := (s[2]'h2).toNat_lt
  have l3 := (s[3]'h3).toNat_lt
  clear hn0 hn1
  rw [g_in h2, g_in h3] at hn
  by_cases ha : (s[2]'h2).toNat < 1
  · have q2 : ((s[2]'h2).toNat : Int) < 1 := by omega
    clear hn
    go_enter Tryd.func21, Tryd.ntmps21
    go_wp2_with fail
    go_region
    go_wp2_with fail
    exact bodyPost_ret (v := .tuple #[.agg #[.int .u8 0, .int .u8 0, .slice none 0 0], .bool false]) (by simp [results, Tryd.results21, go_sem]) rfl ⟨.inl ⟨HR.out, rfl⟩, (((Mod.refl _ w).alloc _).alloc _).drew⟩
  · have q2 : ¬ ((s[2]'h2).toNat : Int) < 1 := by omega
    by_cases hb : 128 < (s[2]'h2).toNat
    · have q3 : (128 : Int) < ((s[2]'h2).toNat : Int) := by omega
      clear hn
      go_enter Tryd.func21, Tryd.ntmps21
      go_wp2_with fail
      go_region
      go_wp2_with fail
      exact bodyPost_ret (v := .tuple #[.agg #[.int .u8 0, .int .u8 0, .slice none 0 0], .bool false]) (by simp [results, Tryd.results21, go_sem]) rfl ⟨.inl ⟨HR.out, rfl⟩, (((Mod.refl _ w).alloc _).alloc _).drew⟩
    · have q3 : ¬ (128 : Int) < ((s[2]'h2).toNat : Int) := by omega
      have q4 : (32 : Int) < ((s[3]'h3).toNat : Int) := by omega
      clear hn
      go_enter Tryd.func21, Tryd.ntmps21
      go_wp2_with fail
      go_region
      go_wp2_with fail
      exact bodyPost_ret (v := .tuple #[.agg #[.int .u8 0, .int .u8 0, .slice none 0 0], .bool false]) (by simp [results, Tryd.results21, go_sem]) rfl ⟨.inl ⟨HR.out, rfl⟩, (((Mod.refl _ w).alloc _).alloc _).drew⟩
set_option maxHeartbeats 3200000 in
set_option maxRecDepth 100000 in
theorem split_bad3 (s : ByteArray) (w : World) (h6 : 6 ≤ s.size) (hn0 : g s 0 = 82) (hn1 : g s 1 = 85) (ha : 1 ≤ g s 2) (hb : g s 2 ≤ 128) (hc : g s 3 ≤ 32) (hn : 2000 < g s 5 * 256 + g s 4) (hs : s.size ≤ 8006) : Calls Tryd.prog 21 #[.string s] w fun e w' => SplitEnd s w w' e ∧ Mod (fun _ => False) w w' := by
  have HR : Hid (begunB s = false) := show begunB s = false by
    cases h : begunB s with
    | false => rfl
    | true => have := nst_of h; omega
  have h0 : 0 < s.size := by omega
  have h1 : 1 < s.size := by omega
  have h2 : 2 < s.size := by omega
  have h3 : 3 < s.size := by omega
  have i6 : ¬ (s.size : Int) < 6 := by omega
  have b0 : (((s[0]'h0).toNat : Int) != 82) = false := bne_f (m := 82) (by rw [g_in h0] at hn0; exact hn0)
  have b1 : (((s[1]'h1).toNat : Int) != 85) = false := bne_f (m := 85) (by rw [g_in h1] at hn1; exact hn1)
  have j2 : (2 : Int) < (s.size : Int) := by omega
  have j3 : (3 : Int) < (s.size : Int) := by omega
  have l2 := (s[2]'h2).toNat_lt
  have l3 := (s[3]'h3).toNat_lt
  clear hn0 hn1
  have h4 : 4 < s.size := by omega
  have h5 : 5 < s.size := by omega
  have j4 : (4 : Int) < (s.size : Int) := by omega
  have j5 : (5 : Int) < (s.size : Int) := by omega
  have l4 := (s[4]'h4).toNat_lt
  have l5 := (s[5]'h5).toNat_lt
  have q2 : ¬ ((s[2]'h2).toNat : Int) < 1 := by rw [g_in h2] at ha; omega
  have q3 : ¬ (128 : Int) < ((s[2]'h2).toNat : Int) := by rw [g_in h2] at hb; omega
  have q4 : ¬ (32 : Int) < ((s[3]'h3).toNat : Int) := by rw [g_in h3] at hc; omega
  have q5 : (2000 : Int) < ((s[4]'h4).toNat : Int) + 256 * ((s[5]'h5).toNat : Int) := by rw [g_in h4, g_in h5] at hn; omega
  clear hn ha hb hc
  go_enter Tryd.func21, Tryd.ntmps21
  go_wp2_with fail
  go_region
  go_wp2_with fail
  go_quiet (fail)
  go_wp2_with fail
  exact bodyPost_ret (v := .tuple #[.agg #[.int .u8 0, .int .u8 0, .slice none 0 0], .bool false]) (by simp [results, Tryd.results21, go_sem]) rfl ⟨.inl ⟨HR.out, rfl⟩, ((((((Mod.refl _ w).alloc _).alloc _).drewN _).setCell _ _ (fun h => absurd h (Nat.lt_irrefl _))).setCell _ _ (fun h => absurd h (Nat.lt_irrefl _))).setCell _ _ (fun h => absurd h (Nat.lt_irrefl _))⟩
set_option maxHeartbeats 3200000 in
set_option maxRecDepth 100000 in
theorem split_bad4 (s : ByteArray) (w : World) (h6 : 6 ≤ s.size) (hn0 : g s 0 = 82) (hn1 : g s 1 = 85) (ha : 1 ≤ g s 2) (hb : g s 2 ≤ 128) (hc : g s 3 ≤ 32) (hd : g s 5 * 256 + g s 4 ≤ 2000) (hn : s.size ≠ 6 + 4 * (g s 5 * 256 + g s 4)) (hs : s.size ≤ 8006) : Calls Tryd.prog 21 #[.string s] w fun e w' => SplitEnd s w w' e ∧ Mod (fun _ => False) w w' := by
  have HR : Hid (begunB s = false) := show begunB s = false by
    cases h : begunB s with
    | false => rfl
    | true => have := nst_of h; omega
  have h0 : 0 < s.size := by omega
  have h1 : 1 < s.size := by omega
  have h2 : 2 < s.size := by omega
  have h3 : 3 < s.size := by omega
  have i6 : ¬ (s.size : Int) < 6 := by omega
  have b0 : (((s[0]'h0).toNat : Int) != 82) = false := bne_f (m := 82) (by rw [g_in h0] at hn0; exact hn0)
  have b1 : (((s[1]'h1).toNat : Int) != 85) = false := bne_f (m := 85) (by rw [g_in h1] at hn1; exact hn1)
  have j2 : (2 : Int) < (s.size : Int) := by omega
  have j3 : (3 : Int) < (s.size : Int) := by omega
  have l2 := (s[2]'h2).toNat_lt
  have l3 := (s[3]'h3).toNat_lt
  clear hn0 hn1
  have h4 : 4 < s.size := by omega
  have h5 : 5 < s.size := by omega
  have j4 : (4 : Int) < (s.size : Int) := by omega
  have j5 : (5 : Int) < (s.size : Int) := by omega
  have l4 := (s[4]'h4).toNat_lt
  have l5 := (s[5]'h5).toNat_lt
  have q2 : ¬ ((s[2]'h2).toNat : Int) < 1 := by rw [g_in h2] at ha; omega
  have q3 : ¬ (128 : Int) < ((s[2]'h2).toNat : Int) := by rw [g_in h2] at hb; omega
  have q4 : ¬ (32 : Int) < ((s[3]'h3).toNat : Int) := by rw [g_in h3] at hc; omega
  have q5 : ¬ (2000 : Int) < ((s[4]'h4).toNat : Int) + 256 * ((s[5]'h5).toNat : Int) := by rw [g_in h4, g_in h5] at hd; omega
  have q6 : ((s.size : Int) != (6 : Int) + (4 : Int) * (((s[4]'h4).toNat : Int) + (256 : Int) * ((s[5]'h5).toNat : Int))) = true := by rw [g_in h4, g_in h5] at hn; simp; omega
  clear hn ha hb hc hd
  go_enter Tryd.func21, Tryd.ntmps21
  go_wp2_with fail
  go_region
  go_wp2_with fail
  go_quiet (fail)
  go_wp2_with fail
  exact bodyPost_ret (v := .tuple #[.agg #[.int .u8 0, .int .u8 0, .slice none 0 0], .bool false]) (by simp [results, Tryd.results21, go_sem]) rfl ⟨.inl ⟨HR.out, rfl⟩, ((((((Mod.refl _ w).alloc _).alloc _).drewN _).setCell _ _ (fun h => absurd h (Nat.lt_irrefl _))).setCell _ _ (fun h => absurd h (Nat.lt_irrefl _))).setCell _ _ (fun h => absurd h (Nat.lt_irrefl _))⟩
end Go.Proofs.YtmnfndpbblpjiaaDoor

/- The program's splitCode: a code that begins right. -/
namespace Go.Proofs.YtmnfndpbblpjiaaDoor
open Go.RowKit Pu
attribute [local go_sem] index_p0 index_p1 index_p2 index_p3
attribute [local go_sem] wrap_b wrap_p1 wrap_p2 wrap_p3

theorem set3_2 {w : World} {b : Nat} {x y z z' : Value} {ty : TypeId} (h : w.heap[b]? = some (.cells #[x, y, z] ty (0, 0))) : (w.setCell ⟨b, 2, none⟩ z').heap[b]? = some (.cells #[x, y, z'] ty (0, 0)) := by
  simp [World.setCell, Array.getElem?_modify, h]
theorem set3_0 {w : World} {b : Nat} {x y z z' : Value} {ty : TypeId} (h : w.heap[b]? = some (.cells #[x, y, z] ty (0, 0))) : (w.setCell ⟨b, 0, none⟩ z').heap[b]? = some (.cells #[z', y, z] ty (0, 0)) := by
  simp [World.setCell, Array.getElem?_modify, h]
theorem set3_1 {w : World} {b : Nat} {x y z z' : Value} {ty : TypeId} (h : w.heap[b]? = some (.cells #[x, y, z] ty (0, 0))) : (w.setCell ⟨b, 1, none⟩ z').heap[b]? = some (.cells #[x, z', z] ty (0, 0)) := by
  simp [World.setCell, Array.getElem?_modify, h]
def set3 (w : World) (b : Nat) (x y z : Value) : World := ((w.setCell ⟨b, 0, none⟩ x).setCell ⟨b, 1, none⟩ y).setCell ⟨b, 2, none⟩ z
theorem set3_own (w : World) (b : Nat) (x y z : Value) : Mod (fun q => q = b) w (set3 w b x y z) := by
  have h0 : Mod (fun q => q = b) w (w.setCell ⟨b, 0, none⟩ x) := (Mod.refl _ w).setCell ⟨b, 0, none⟩ x (fun _ => rfl)
  have h1 := h0.setCell ⟨b, 1, none⟩ y (fun _ => rfl)
  exact h1.setCell ⟨b, 2, none⟩ z (fun _ => rfl)
theorem set3_mod {p : Nat → Prop} {a w : World} (h : Mod p a w) (b : Nat) (x y z : Value) (hb : a.heap.size ≤ b) : Mod p a (set3 w b x y z) := by
  have h0 := h.setCell ⟨b, 0, none⟩ x (fun h => absurd h (Nat.not_lt.2 hb))
  have h1 := h0.setCell ⟨b, 1, none⟩ y (fun h => absurd h (Nat.not_lt.2 hb))
  exact h1.setCell ⟨b, 2, none⟩ z (fun h => absurd h (Nat.not_lt.2 hb))
theorem set3_at {w : World} {b : Nat} {x y z x' y' z' : Value} {ty : TypeId} (h : w.heap[b]? = some (.cells #[x, y, z] ty (0, 0))) : (set3 w b x' y' z').heap[b]? = some (.cells #[x', y', z'] ty (0, 0)) := set3_2 (set3_1 (set3_0 h))
theorem fz3 {w : World} {b : Nat} {C : Array Value} {ty : TypeId} (h : w.heap[b]? = some (.cells C ty (0, 0))) (i : Nat) : w.frozen? ⟨b, i, none⟩ = false := by simp [World.frozen?, h]

set_option maxHeartbeats 3200000 in
set_option maxRecDepth 100000 in
theorem split_ok (s : ByteArray) (w : World) (h6 : 6 ≤ s.size) (hn0 : g s 0 = 82) (hn1 : g s 1 = 85) (ha : 1 ≤ g s 2) (hb : g s 2 ≤ 128) (hc : g s 3 ≤ 32) (hd : g s 5 * 256 + g s 4 ≤ 2000) (hn : s.size = 6 + 4 * (g s 5 * 256 + g s 4)) (hs : s.size ≤ 8006) : Calls Tryd.prog 21 #[.string s] w fun e w' => SplitEnd s w w' e ∧ Mod (fun _ => False) w w' := by
  have HR : Hid (begunB s = true) := show begunB s = true by simp [begunB, h6, hn0, hn1, ha, hb, hc, hd]; exact hn
  have hns : nst s ≤ 2000 := (nst_of HR.out).2.2.1
  obtain ⟨i0, hi, hz0, hz1, hz2⟩ := info_parts Tryd.infoSt
  have h0 : 0 < s.size := by omega
  have h1 : 1 < s.size := by omega
  have h2 : 2 < s.size := by omega
  have h3 : 3 < s.size := by omega
  have i6 : ¬ (s.size : Int) < 6 := by omega
  have b0 : (((s[0]'h0).toNat : Int) != 82) = false := bne_f (m := 82) (by rw [g_in h0] at hn0; exact hn0)
  have b1 : (((s[1]'h1).toNat : Int) != 85) = false := bne_f (m := 85) (by rw [g_in h1] at hn1; exact hn1)
  have j2 : (2 : Int) < (s.size : Int) := by omega
  have j3 : (3 : Int) < (s.size : Int) := by omega
  have l2 := (s[2]'h2).toNat_lt
  have l3 := (s[3]'h3).toNat_lt
  clear hn0 hn1
  have h4 : 4 < s.size := by omega
  have h5 : 5 < s.size := by omega
  have j4 : (4 : Int) < (s.size : Int) := by omega
  have j5 : (5 : Int) < (s.size : Int) := by omega
  have l4 := (s[4]'h4).toNat_lt
  have l5 := (s[5]'h5).toNat_lt
  have q2 : ¬ ((s[2]'h2).toNat : Int) < 1 := by rw [g_in h2] at ha; omega
  have q3 : ¬ (128 : Int) < ((s[2]'h2).toNat : Int) := by rw [g_in h2] at hb; omega
  have q4 : ¬ (32 : Int) < ((s[3]'h3).toNat : Int) := by rw [g_in h3] at hc; omega
  have q5 : ¬ (2000 : Int) < ((s[4]'h4).toNat : Int) + 256 * ((s[5]'h5).toNat : Int) := by rw [g_in h4, g_in h5] at hd; omega
  have q6 : ((s.size : Int) != (6 : Int) + (4 : Int) * (((s[4]'h4).toNat : Int) + (256 : Int) * ((s[5]'h5).toNat : Int))) = false := by rw [g_in h4, g_in h5] at hn; simp; omega
  have HG2 : Hid (g s 2 = (s[2]'h2).toNat) := g_in h2
  have HG3 : Hid (g s 3 = (s[3]'h3).toNat) := g_in h3
  clear hn ha hb hc hd
  go_enter Tryd.func21, Tryd.ntmps21
  go_wp2_with fail
  go_region
  go_wp2_with fail
  go_quiet (fail)
  go_wp2_with fail
  go_loopw [6] (fun i wr => ∃ (k j : Nat) (v : Value), k ≤ nst s ∧ Hid (j = 6 + 4 * k) ∧ i = .int .i64 j ∧ wr.heap[w.heap.size]? = some (.cells #[.int .u8 0, .int .u8 0, .slice none 0 0] 41 (0, 0)) ∧ wr.heap[w.heap.size + 1]? = some (.cells #[.int .u8 (s[2]'h2).toNat, .int .u8 (s[3]'h3).toNat, v] 41 (0, 0)) ∧ PLst wr (w.heap.size + 2) v (stepsTo s k) ∧ Mod (fun _ => False) w wr) (fun i _ => s.size - (intOf i).toNat)
  case atStart => exact ⟨0, 6, .slice none 0 0, by omega, rfl, rfl, by simpa using (alloc2_at w _ _).1, by simpa using (alloc2_at w _ _).2, World.ownsRow_nil _ _ _ _, (((Mod.refl _ _).alloc _).alloc _).drewN _⟩
  case round =>
    obtain ⟨k, j, v, hk, HJ, rfl, hb0, hb1, hL, hm⟩ := hrel
    have hsz := hm.size
    unfold PLst at hL
    rw [stepsTo_len] at hL
    have hn1 : 4 * nst s ≤ s.size - 6 := by unfold nst; omega
    have hn2 : s.size - 6 < 4 * nst s + 4 := by unfold nst; omega
    have hj : 4 * k ≤ j := by have := HJ.out; omega
    have hj2 : j ≤ 4 * k + 6 := by have := HJ.out; omega
    obtain ⟨ao, cap, rfl, -⟩ := owns_form hL
    have hlt1 := lt_of_block hb1
    by_cases hlt : k < nst s
    · have k3 : j + 3 < s.size := by have := HJ.out; omega
      have k0 : j < s.size := by omega
      have k1 : j + 1 < s.size := by omega
      have k2 : j + 2 < s.size := by omega
      have HT : Hid (pcells (stepAt s k) = [.int .u8 s[j].toNat, .int .u8 s[j + 1].toNat, .int .u8 s[j + 2].toNat, .int .u8 s[j + 3].toNat]) := show pcells (stepAt s k) = [.int .u8 s[j].toNat, .int .u8 s[j + 1].toNat, .int .u8 s[j + 2].toNat, .int .u8 s[j + 3].toNat] by
        rw [← g_in k0, ← g_in k1, ← g_in k2, ← g_in k3, HJ.out]; rfl
      have i0a : (0 : Int) ≤ (j : Int) := by omega
      have i0b : (j : Int) < (s.size : Int) := by omega
      have i1b : (j : Int) + 1 < (s.size : Int) := by omega
      have i2b : (j : Int) + 2 < (s.size : Int) := by omega
      have i3b : (j : Int) + 3 < (s.size : Int) := by omega
      have i4b : (j : Int) + 4 ≤ (s.size : Int) := by omega
      have i1a : (0 : Int) ≤ (j : Int) + 1 := by omega
      have i2a : (0 : Int) ≤ (j : Int) + 2 := by omega
      have i3a : (0 : Int) ≤ (j : Int) + 3 := by omega
      have hjb : j ≤ 100000 := by omega
      obtain ⟨c0, c1, c2⟩ := cells3 hb1
      have f2 := fz3 hb1 2
      clear hn1 hn2
      go_wp2_with fail
      go_region
      have hL1 := (hL.alloc (.cells #[.int .u8 s[j].toNat, .int .u8 s[j + 1].toNat, .int .u8 s[j + 2].toNat, .int .u8 s[j + 3].toNat] 52)).drew
      go_wp2_with (at_builtin; refine wpList_append_own _ rfl _ _ 39 rfl (w.heap.size + 2) 52 i0 _ 4 4 Tryd.underlying39 hi hz0 hz1 hz2 rfl (by decide) _ _ _ rfl (hL1.alloc _) ⟨wr.heap.size + 1, 0, none⟩ 1 1 [.int .u8 s[j].toNat, .int .u8 s[j + 1].toNat, .int .u8 s[j + 2].toNat, .int .u8 s[j + 3].toNat] rfl rfl ?c1 ?c2 ?c3 ?c4 ?c5 ?_)
      case c1 => exact World.news_of_block (cs := #[.int .u8 s[j].toNat, .int .u8 s[j + 1].toNat, .int .u8 s[j + 2].toNat, .int .u8 s[j + 3].toNat]) (t := 52) (fr := (0, 0)) (alloc2_at wr _ _).2
      case c2 => simp [Value.oneCell']
      case c3 => unfold maxLen; omega
      case c4 => omega
      case c5 => simp; omega
      intro v' w4 hown4 hgrow _
      have hgm : Mod (fun i => w.heap.size + 2 ≤ i) wr w4 := ((((Mod.refl _ wr).alloc _).drew).alloc _).grown hgrow (fun i hi _ => (hL.lt i hi).1)
      have hb0' := hgm.keep hb0 (by omega)
      have hb1' := hgm.keep hb1 (by omega)
      have hm4 : Mod (fun _ => False) w w4 := ⟨hgm.os.trans hm.os, hgm.tape.trans hm.tape, hgm.output.trans hm.output, Nat.le_trans hm.size hgm.size, fun i hi _ => (hgm.block i (by omega) (by omega)).trans (hm.block i hi (fun f => f))⟩
      obtain ⟨ao', cap', rfl, -⟩ := owns_form hown4
      obtain ⟨d0, d1, d2⟩ := cells3 hb1'
      have f2' := fz3 hb1' 2
      have hown5 : PLst (w4.setCell ⟨w.heap.size + 1, 2, none⟩ (.slice ao' (k + 1) cap')) (w.heap.size + 2) (.slice ao' (k + 1) cap') (stepsTo s (k + 1)) := by
        unfold PLst; rw [stepsTo_len, stepsTo_succ, ← pcellsOf_snoc, HT.out]
        exact owns_mod hown4 ((Mod.refl (fun q => q = w.heap.size + 1) w4).setCell _ _ (fun _ => rfl)) (fun g h1 h2 => by omega)
      have HB0 : Hid ((w4.setCell ⟨w.heap.size + 1, 2, none⟩ (.slice ao' (k + 1) cap')).heap[w.heap.size]? = some (.cells #[.int .u8 0, .int .u8 0, .slice none 0 0] 41 (0, 0))) :=
        ((Mod.refl (fun q => q = w.heap.size + 1) w4).setCell _ _ (fun _ => rfl)).keep hb0' (by omega)
      have HB1 : Hid ((w4.setCell ⟨w.heap.size + 1, 2, none⟩ (.slice ao' (k + 1) cap')).heap[w.heap.size + 1]? = some (.cells #[.int .u8 (s[2]'h2).toNat, .int .u8 (s[3]'h3).toNat, .slice ao' (k + 1) cap'] 41 (0, 0))) := set3_2 (z' := .slice ao' (k + 1) cap') hb1'
      have hm5 : Mod (fun _ => False) w (w4.setCell ⟨w.heap.size + 1, 2, none⟩ (.slice ao' (k + 1) cap')) := hm4.setCell _ _ (fun h => absurd h (by simp))
      clear hown4 hgrow hgm hL hL1 hm hm4 hb0 hb1 hb0' hb1' c0 c1 c2 f2
      go_wp2_with fail
      go_roundw
      case rel => exact ⟨k + 1, j + 4, _, by omega, show j + 4 = 6 + 4 * (k + 1) by have := HJ.out; omega, by go_num, HB0.out, HB1.out, hown5, hm5⟩
      case measure => simp [intOf]; omega
    · have hks : k = nst s := by omega
      have hjs : s.size ≤ j + 3 := by have := HJ.out; omega
      subst hks
      obtain ⟨c0, c1, c2⟩ := cells3 hb1
      obtain ⟨d0, d1, d2⟩ := cells3 hb0
      have e0 := fz3 hb0 0
      have e1 := fz3 hb0 1
      have e2 := fz3 hb0 2
      have hL5 := owns_base (base' := w.heap.size) (owns_mod hL (set3_own wr w.heap.size (.int .u8 (s[2]'h2).toNat) (.int .u8 (s[3]'h3).toNat) (.slice ao (nst s) cap)) (fun g h1 h2 => by omega)) (by omega)
      have hm4 := set3_mod hm w.heap.size (.int .u8 (s[2]'h2).toNat) (.int .u8 (s[3]'h3).toNat) (.slice ao (nst s) cap) (Nat.le_refl _)
      have HC : Hid _ := cells3 (set3_at (x' := .int .u8 (s[2]'h2).toNat) (y' := .int .u8 (s[3]'h3).toNat) (z' := .slice ao (nst s) cap) hb0)
      have HE : Hid (SplitEnd s w (set3 wr w.heap.size (.int .u8 (s[2]'h2).toNat) (.int .u8 (s[3]'h3).toNat) (.slice ao (nst s) cap)) (.returned (.tuple #[.agg #[.int .u8 (s[2]'h2).toNat, .int .u8 (s[3]'h3).toNat, .slice ao (nst s) cap], .bool true]))) := .inr ⟨HR.out, .slice ao (nst s) cap, by rw [HG2.out, HG3.out], by unfold PLst; rw [steps, stepsTo_len]; exact hL5⟩
      clear hL5 hL
      go_wp2_with fail
      obtain ⟨g0, g1, g2⟩ := HC.out
      unfold set3 at g0 g1 g2
      exact bodyPost_ret (v := .tuple #[.agg #[.int .u8 (s[2]'h2).toNat, .int .u8 (s[3]'h3).toNat, .slice ao (nst s) cap], .bool true]) (by simp [results, Tryd.results21, go_sem, g0, g1, g2]) rfl ⟨HE.out, hm4⟩

theorem split_any (s : ByteArray) (w : World) (hs : s.size ≤ 8006) : Calls Tryd.prog 21 #[.string s] w fun e w' => SplitEnd s w w' e ∧ Mod (fun _ => False) w w' := by
  by_cases h6 : 6 ≤ s.size
  · by_cases n0 : g s 0 = 82
    · by_cases n1 : g s 1 = 85
      · by_cases n2 : 1 ≤ g s 2 ∧ g s 2 ≤ 128 ∧ g s 3 ≤ 32
        · by_cases n3 : g s 5 * 256 + g s 4 ≤ 2000
          · by_cases n4 : s.size = 6 + 4 * (g s 5 * 256 + g s 4)
            · exact split_ok s w h6 n0 n1 n2.1 n2.2.1 n2.2.2 n3 n4 hs
            · exact split_bad4 s w h6 n0 n1 n2.1 n2.2.1 n2.2.2 n3 n4 hs
          · exact split_bad3 s w h6 n0 n1 n2.1 n2.2.1 n2.2.2 (by omega) hs
        · exact split_bad2 s w h6 n0 n1 n2 hs
      · exact split_bad1 s w h6 n0 n1 hs
    · exact split_bad0 s w h6 n0 hs
  · exact split_bad6 s w (by omega)
end Go.Proofs.YtmnfndpbblpjiaaDoor

/- The program's numbers: made of a sign and limbs, of an int; their sign, how many digits. -/
namespace Go.Proofs.YtmnfndpbblpjiaaDoor
open Go.RowKit Pu

abbrev n9 (nb : Bool) (v : Value) : Value := .agg #[.bool nb, v]
def N9 (w : World) (nb : Bool) (v : Value) (l : List Nat) : Prop := C9 nb l ∧ w.ownsRow 0 82 1 v l.length (uvs l)
theorem N9.mod {w w' : World} {nb : Bool} {v : Value} {l : List Nat} (h : N9 w nb v l) (hm : Mod (fun _ => False) w w') : N9 w' nb v l := ⟨h.1, owns_mod h.2 hm (fun _ _ f => f)⟩
def N9E (w : World) (x : Int) (n : Nat) (e : Ending) (w' : World) : Prop := Mod (fun _ => False) w w' ∧ ∃ nb v l, e = .returned (n9 nb v) ∧ N9 w' nb v l ∧ num9 nb l = x ∧ l.length ≤ n
theorem own_apart {w w' : World} {rb base n : Nat} {u : Value} {xs : List Value} {t : TypeId} (h : w.ownsRow base 82 1 u n xs) (hm : Mod (fun q => q = rb) w w') {C : Array Value} (hb : w.heap[rb]? = some (.cells C t (0, 0))) (ht : t ≠ 82) : w'.ownsRow base 82 1 u n xs := by
  refine owns_mod' h hm (fun g h1 h2 => ?_)
  subst h2
  obtain ⟨_, ⟨rfl, _⟩ | ⟨g', cap, cur, rfl, _, hg, _⟩⟩ := h
  · simp [Value.ownBlock] at h1
  · simp [Value.ownBlock] at h1
    subst h1
    rw [hb] at hg
    simp at hg
    exact ht hg.2
theorem n9_end {w wX : World} {b base n : Nat} {o1 o2 : Value} {nb : Bool} {v : Value} {l : List Nat} {x : Int} (hb : wX.heap[b]? = some (.cells #[o1, o2] 68 (0, 0))) (hw : w.heap.size ≤ b) (hm : Mod (fun _ => False) w wX) (hO : wX.ownsRow base 82 1 v l.length (uvs l)) (hc : C9 nb l) (hx : num9 nb l = x) (hn : l.length ≤ n) :
    N9E w x n (.returned (n9 nb v)) (set2at wX b 0 (.bool nb) v) ∧ (set2at wX b 0 (.bool nb) v).cell? ⟨b, 0, none⟩ = some (.bool nb) ∧ (set2at wX b 0 (.bool nb) v).cell? ⟨b, 1, none⟩ = some v := by
  refine ⟨⟨set2at_new hm b 0 _ _ hw, nb, v, l, rfl, ⟨hc, own_apart (owns_base hO (Nat.zero_le _)) (set2at_own wX b 0 (.bool nb) v) hb (by decide)⟩, hx, hn⟩, ?_, ?_⟩
  · rw [set2at_cell hb]; simp
  · rw [set2at_cell hb]; simp
theorem c2_of {w : World} {b : Nat} {x y : Value} {ty : TypeId} (h : w.heap[b]? = some (.cells #[x, y] ty (0, 0))) : w.cell? ⟨b, 0, none⟩ = some x ∧ w.cell? ⟨b, 1, none⟩ = some y := by simp [World.cell?, h]
theorem Pu.C9.nil : C9 false [] := ⟨fun _ h => by simp at h, fun _ h => by simp at h, fun _ => rfl⟩

set_option maxHeartbeats 800000 in
theorem signed_any (nb : Bool) (v : Value) (l : List Nat) (base : Nat) (w : World) (hO : w.ownsRow base 82 1 v l.length (uvs l)) (hd : D9 l) (ht : T9 l) (hl : l.length ≤ 100000) :
    Calls Tryd.prog 63 #[.bool nb, v] w (N9E w (num9 nb l) l.length) := by
  obtain ⟨ao, cap, rfl, -⟩ := owns_form hO
  by_cases h0 : l.length = 0
  · have hl0 : l = [] := List.eq_nil_of_length_eq_zero h0
    have hb : ((l.length : Int) == 0) = true := beq_t (m := 0) h0
    have HE : Hid (N9E w (num9 nb l) l.length (.returned (n9 false (.slice none 0 0))) (w.alloc (.cells #[.bool false, .slice none 0 0] 68))) :=
      ⟨(Mod.refl _ w).alloc _, false, .slice none 0 0, [], rfl, ⟨C9.nil, World.ownsRow_nil _ _ _ _⟩, by subst hl0; cases nb <;> simp [num9, v9], Nat.zero_le _⟩
    clear hl0 h0
    go_enter Tryd.func63, Tryd.ntmps63
    go_wp2_with fail
    exact bodyPost_ret (v := n9 false (.slice none 0 0)) (by simp [results, Tryd.results63, go_sem]) rfl HE.out
  · have hb : ((l.length : Int) == 0) = false := beq_f (m := 0) h0
    have HE : Hid (N9E w (num9 nb l) l.length (.returned (n9 nb (.slice ao l.length cap))) (w.alloc (.cells #[.bool nb, .slice ao l.length cap] 68))) :=
      ⟨(Mod.refl _ w).alloc _, nb, .slice ao l.length cap, l, rfl, ⟨⟨hd, ht, fun e => absurd (by rw [e]; rfl) h0⟩, owns_base (owns_mod hO ((Mod.refl (fun _ => False) w).alloc _) (fun _ _ f => f)) (Nat.zero_le _)⟩, rfl, Nat.le_refl _⟩
    clear h0
    go_enter Tryd.func63, Tryd.ntmps63
    go_wp2_with fail
    exact bodyPost_ret (v := n9 nb (.slice ao l.length cap)) (by simp [results, Tryd.results63, go_sem]) rfl HE.out

set_option maxHeartbeats 800000 in
theorem sign9_any (nb : Bool) (v : Value) (l : List Nat) (w : World) (hN : N9 w nb v l) (hl : l.length ≤ 100000) : Calls Tryd.prog 38 #[n9 nb v] w fun e w' => e = .returned (.int .i64 (sgn (num9 nb l))) ∧ Mod (fun _ => False) w w' := by
  obtain ⟨ao, cap, rfl, -⟩ := owns_form hN.2
  have hmA : Mod (fun _ => False) w (w.alloc (.cells #[.bool nb, .slice ao l.length cap] 68)) := (Mod.refl _ w).alloc _
  by_cases h0 : l.length = 0
  · have hl0 : l = [] := List.eq_nil_of_length_eq_zero h0
    have hb : ((l.length : Int) == 0) = true := beq_t (m := 0) h0
    have HE : Hid (sgn (num9 nb l) = 0) := show _ = _ by subst hl0; cases nb <;> simp [num9, v9, sgn]
    clear hl0 h0
    go_enter Tryd.func38, Tryd.ntmps38
    go_wp2_with fail
    go_ret
    exact ⟨by rw [HE.out]; rfl, hmA⟩
  · have hb : ((l.length : Int) == 0) = false := beq_f (m := 0) h0
    have hp : 0 < v9 l := Nat.pos_of_ne_zero fun e => h0 (by rw [v9_nil hN.1.2.1 e]; rfl)
    clear h0
    cases nb
    · have HE : Hid (sgn (num9 false l) = 1) := show _ = _ by unfold sgn num9; simp; omega
      go_enter Tryd.func38, Tryd.ntmps38
      go_wp2_with fail
      go_ret
      exact ⟨by rw [HE.out]; rfl, hmA⟩
    · have HE : Hid (sgn (num9 true l) = -1) := show _ = _ by unfold sgn num9; simp; omega
      go_enter Tryd.func38, Tryd.ntmps38
      go_wp2_with fail
      go_ret
      exact ⟨by rw [HE.out]; rfl, hmA⟩

set_option maxHeartbeats 800000 in
theorem fromint_any (x : Int) (w : World) (h1 : -1000000 < x) (h2 : x < 1000000) : Calls Tryd.prog 55 #[.int .i64 x] w (N9E w x 3) := by
  have hR0 := heap_alloc_new w (.cells #[.bool false, .slice none 0 0] 68)
  have hm0 : Mod (fun _ => False) w (w.alloc (.cells #[.bool false, .slice none 0 0] 68)) := (Mod.refl _ w).alloc _
  have HH : Hid _ := And.intro hR0 hm0
  clear hR0 hm0
  by_cases hx : x < 0
  · obtain ⟨n, rfl⟩ : ∃ n : Nat, x = -(n : Int) := ⟨x.natAbs, by omega⟩
    have hn : n ≤ 1000000 := by omega
    have hn0 : 0 < n := by omega
    have w1 : IntKind.i64.wrap (-(n : Int) + 1) = -(n : Int) + 1 := by simp [IntKind.wrap, IntKind.signed, IntKind.bits]; omega
    have w2 : IntKind.i64.wrap (-(-(n : Int) + 1)) = (n : Int) - 1 := by simp [IntKind.wrap, IntKind.signed, IntKind.bits]; omega
    have w3 : IntKind.u64.wrap ((n : Int) - 1) = (n : Int) - 1 := wrap_u64 (by omega) (by omega)
    have w4 : IntKind.u64.wrap ((n : Int) - 1 + 1) = (n : Int) := by rw [wrap_u64 (by omega) (by omega)]; omega
    have w5 : IntKind.u64.wrap (n : Int) = (n : Int) := wrap_u64 (by omega) (by omega)
    go_enter Tryd.func55, Tryd.ntmps55
    go_wp2_with fail
    obtain ⟨hR0, hm0⟩ := HH.out
    generalize w.alloc (.cells #[.bool false, .slice none 0 0] 68) = W at *
    refine (limbs_any n W hn).mono ?_
    rintro e w2 ⟨hm2, v2, l2, rfl, hO2, hd2, ht2, hv2, hl2⟩
    have hR2 := hm2.keep hR0 (fun f => f)
    obtain ⟨r0, r1⟩ := c2_of hR2
    have f0 := fz3 hR2 0
    have f1 := fz3 hR2 1
    obtain ⟨vo, vcap, rfl, -⟩ := owns_form hO2
    have HE : Hid _ := n9_end (x := -(n : Int)) hR2 (Nat.le_refl _) (hm0.trans hm2) hO2 (nb := true) ⟨hd2, ht2, fun e => by rw [e] at hv2; simp [v9] at hv2; omega⟩ (show num9 true l2 = _ by simp [num9, hv2]) hl2
    clear hR2 hm2 hO2 hd2 ht2 hv2 HH hR0 hm0
    go_wp2_with fail
    obtain ⟨k1, q0, q1⟩ := HE.out
    unfold set2at at q0 q1
    exact bodyPost_ret (by simp [results, Tryd.results55, go_sem, q0, q1]) rfl k1
  · obtain ⟨n, rfl⟩ : ∃ n : Nat, x = (n : Int) := ⟨x.toNat, by omega⟩
    have hn : n ≤ 1000000 := by omega
    have w5 : IntKind.u64.wrap (n : Int) = (n : Int) := wrap_u64 (by omega) (by omega)
    have hx2 : ¬ (n : Int) < 0 := by omega
    go_enter Tryd.func55, Tryd.ntmps55
    go_wp2_with fail
    obtain ⟨hR0, hm0⟩ := HH.out
    generalize w.alloc (.cells #[.bool false, .slice none 0 0] 68) = W at *
    refine (limbs_any n W hn).mono ?_
    rintro e w2 ⟨hm2, v2, l2, rfl, hO2, hd2, ht2, hv2, hl2⟩
    have hR2 := hm2.keep hR0 (fun f => f)
    obtain ⟨r0, r1⟩ := c2_of hR2
    have f0 := fz3 hR2 0
    have f1 := fz3 hR2 1
    obtain ⟨vo, vcap, rfl, -⟩ := owns_form hO2
    have HE : Hid _ := n9_end (x := (n : Int)) hR2 (Nat.le_refl _) (hm0.trans hm2) hO2 (nb := false) ⟨hd2, ht2, fun _ => rfl⟩ (show num9 false l2 = _ by simp [num9, hv2]) hl2
    clear hR2 hm2 hO2 hd2 ht2 hv2 HH hR0 hm0
    go_wp2_with fail
    obtain ⟨k1, q0, q1⟩ := HE.out
    unfold set2at at q0 q1
    exact bodyPost_ret (by simp [results, Tryd.results55, go_sem, q0, q1]) rfl k1
end Go.Proofs.YtmnfndpbblpjiaaDoor

/- How many decimal digits a number of the program's has. -/
namespace Go.Proofs.YtmnfndpbblpjiaaDoor
open Go.RowKit Pu

theorem Pu.pow9 (m : Nat) : 1000000000 ^ m = 10 ^ (9 * m) := by rw [show (1000000000 : Nat) = 10 ^ 9 from rfl, ← Nat.pow_mul]
theorem Pu.digits_iff {l b : List Nat} {t j n : Nat} (hl : l = b ++ [t]) (hd : D9 l) (hj : j = 0 ∨ 10 ^ (j - 1) ≤ t) (hj2 : t < 10 ^ j) (ht : t ≠ 0) : n < 9 * b.length + j ↔ 10 ^ n ≤ v9 l := by
  subst hl
  have hb : D9 b := fun d h => hd d (List.mem_append_left _ h)
  have h1 := v9_lt hb
  rw [v9_append]
  simp only [v9, Nat.mul_zero, Nat.add_zero]
  rw [pow9] at *
  have hj0 : j ≠ 0 := by intro e; subst e; simp at hj2; omega
  have hlow : 10 ^ (j - 1) ≤ t := by rcases hj with h | h; (· omega); exact h
  constructor
  · intro hn
    have a1 : 10 ^ (9 * b.length) * 10 ^ (j - 1) ≤ 10 ^ (9 * b.length) * t := Nat.mul_le_mul_left _ hlow
    rw [← Nat.pow_add] at a1
    have a2 : 10 ^ n ≤ 10 ^ (9 * b.length + (j - 1)) := Nat.pow_le_pow_right (by omega) (by omega)
    omega
  · intro hv
    by_cases hn : n < 9 * b.length + j
    · exact hn
    · exfalso
      have a1 : 10 ^ (9 * b.length) * (t + 1) ≤ 10 ^ (9 * b.length) * 10 ^ j := Nat.mul_le_mul_left _ hj2
      rw [← Nat.pow_add, Nat.mul_add] at a1
      have a2 : 10 ^ (9 * b.length + j) ≤ 10 ^ n := Nat.pow_le_pow_right (by omega) (by omega)
      omega

set_option maxHeartbeats 800000 in
set_option maxRecDepth 4000 in
theorem digits_any (nb : Bool) (v : Value) (l : List Nat) (w : World) (hN : N9 w nb v l) (hl : l.length ≤ 50000) : Calls Tryd.prog 48 #[n9 nb v] w fun e w' => (∃ d : Nat, e = .returned (.int .i64 (d : Int)) ∧ d ≤ 1000000 ∧ ∀ n, 1 ≤ n → (n < d ↔ 10 ^ n ≤ v9 l)) ∧ Mod (fun _ => False) w w' := by
  obtain ⟨hd, ht, -⟩ := hN.1
  obtain ⟨ao, cap, rfl, -⟩ := owns_form hN.2
  have hO := hN.2
  have hm0 : Mod (fun _ => False) w (w.alloc (.cells #[.bool nb, .slice ao l.length cap] 68)) := (Mod.refl _ w).alloc _
  have hO0 := owns_mod hO hm0 (fun _ _ f => f)
  clear hN hO
  by_cases h0 : l = []
  · have HR : Hid (∀ n, 1 ≤ n → (n < 1 ↔ 10 ^ n ≤ v9 l)) := fun n hn => by
      have : 0 < 10 ^ n := Nat.pow_pos (by omega)
      rw [h0]; simp [v9]; omega
    have hb : ((l.length : Int) == 0) = true := by subst h0; rfl
    have hlz : l.length = 0 := by rw [h0]; rfl
    have HLZ : l.length ≤ 0 := by omega
    clear h0 hlz
    go_enter Tryd.func48, Tryd.ntmps48
    go_wp2_with fail
    go_ret
    exact ⟨⟨1, rfl, by omega, HR.out⟩, hm0⟩
  · obtain ⟨b, t, hbt⟩ : ∃ b t, l = b ++ [t] := ⟨l.dropLast, l.getLast h0, (List.dropLast_concat_getLast h0).symm⟩
    have HBT : Hid (l = b ++ [t]) := hbt
    have hlb : l.length = b.length + 1 := by rw [hbt]; simp
    have ht0 : t ≠ 0 := ht t (by rw [hbt]; simp)
    have ht9 : t < 1000000000 := hd t (by rw [hbt]; simp)
    have hb : ((l.length : Int) == 0) = false := by rw [beq_eq_false_iff_ne]; omega
    have hkl : b.length < l.length := by omega
    obtain ⟨gb, rfl, ct0⟩ := uvs_cell hO0 rfl hkl
    have hlt' : l[b.length] = t := by
      have : l[b.length]? = some t := by rw [hbt]; simp
      rw [List.getElem?_eq_getElem hkl] at this
      injection this
    rw [hlt'] at ct0
    clear hbt hlt' hO0
    have HV : Hid (∀ (j n : Nat), (j = 0 ∨ 10 ^ (j - 1) ≤ t) → t < 10 ^ j → (n < 9 * b.length + j ↔ 10 ^ n ≤ v9 l)) := fun j n h1 h2 => digits_iff HBT.out hd h1 h2 ht0
    generalize v9 l = vv at *
    rw [hlb] at ct0 hm0 hb ⊢
    have hbl : b.length ≤ 50000 := by omega
    clear hlb hkl hl h0 HBT
    go_enter Tryd.func48, Tryd.ntmps48
    go_wp2_with fail
    go_loop [4, 5] (fun kv pv => ∃ (j u : Nat), j ≤ 9 ∧ Hid (u = t / 10 ^ j) ∧ u < 1000000000 ∧ kv = .int .i64 (9 * (b.length : Int) + (j : Int)) ∧ pv = .int .u64 u ∧ Hid (j = 0 ∨ 10 ^ (j - 1) ≤ t)) (fun _ pv => (intOf pv).toNat)
    case atStart => exact ⟨0, t, by omega, show t = t / 10 ^ 0 by simp, by omega, by simp; omega, rfl, .inl rfl⟩
    case round =>
      obtain ⟨j, u, hj, HU, hu, rfl, rfl, HJ⟩ := hrel
      by_cases hpt : 0 < u
      · have h10 : 10 ^ j ≤ t := by
          refine Nat.le_of_not_lt fun h => ?_
          have := HU.out
          rw [Nat.div_eq_of_lt h] at this
          omega
        have hj9 : j < 9 := by
          refine Nat.lt_of_not_le fun h => ?_
          have : 10 ^ 9 ≤ 10 ^ j := Nat.pow_le_pow_right (by omega) h
          omega
        have HU2 : Hid (u / 10 = t / 10 ^ (j + 1)) := show _ = _ by rw [HU.out, Nat.div_div_eq_div_mul, Nat.pow_succ]
        have HJ2 : Hid (j + 1 = 0 ∨ 10 ^ (j + 1 - 1) ≤ t) := .inr h10
        clear h10 HU HJ
        go_wp2_with fail
        go_round
        case rel => exact ⟨j + 1, u / 10, by omega, HU2, by omega, by go_num, by go_num, HJ2⟩
        case measure => simp [intOf]; omega
      · have h10 : t < 10 ^ j := by
          have h := HU.out
          have : t / 10 ^ j = 0 := by omega
          rcases Nat.div_eq_zero_iff.1 this with h | h
          · have : 0 < 10 ^ j := Nat.pow_pos (by omega)
            omega
          · exact h
        have HR : Hid (∀ n, 1 ≤ n → (n < 9 * b.length + j ↔ 10 ^ n ≤ vv)) := fun n _ => HV.out j n HJ.out h10
        clear h10 HU HJ
        go_wp2_with fail
        go_ret
        exact ⟨⟨9 * b.length + j, by simp, by omega, HR.out⟩, hm0⟩
end Go.Proofs.YtmnfndpbblpjiaaDoor

/- Sums of the program's numbers. -/
namespace Go.Proofs.YtmnfndpbblpjiaaDoor
open Go.RowKit Pu

theorem Pu.num9_same (nb : Bool) {l m k : List Nat} (h : v9 k = v9 l + v9 m) : num9 nb k = num9 nb l + num9 nb m := by
  cases nb <;> simp [num9, h] <;> omega
theorem Pu.num9_less {nb nc : Bool} (hn : nb ≠ nc) {l m k : List Nat} (hl : v9 l ≤ v9 m) (h : v9 k = v9 m - v9 l) : num9 nc k = num9 nb l + num9 nc m := by
  cases nb <;> cases nc <;> simp at hn <;> simp [num9, h] <;> omega
theorem Pu.num9_more {nb nc : Bool} (hn : nb ≠ nc) {l m k : List Nat} (hl : v9 m ≤ v9 l) (h : v9 k = v9 l - v9 m) : num9 nb k = num9 nb l + num9 nc m := by
  cases nb <;> cases nc <;> simp at hn <;> simp [num9, h] <;> omega
theorem Pu.num9_mul {nb nc : Bool} {l m k : List Nat} (h : v9 k = v9 l * v9 m) : num9 (nb != nc) k = num9 nb l * num9 nc m := by
  cases nb <;> cases nc <;> simp [num9, h, Int.mul_neg, Int.neg_mul]
theorem v9_len {a b : List Nat} (da : D9 a) (tb : T9 b) (h : v9 b ≤ v9 a) : b.length ≤ a.length := by
  refine Nat.le_of_not_lt fun hh => ?_
  have := v9_shorter da tb hh
  omega

set_option maxHeartbeats 1600000 in
set_option maxRecDepth 4000 in
theorem sum_any (nb nc : Bool) (v u : Value) (l m : List Nat) (w : World) (hN : N9 w nb v l) (hU : w.ownsRow 0 82 1 u m.length (uvs m)) (dm : D9 m) (tm : T9 m) (ll : l.length ≤ 40000) (lm : m.length ≤ 40000) :
    Calls Tryd.prog 62 #[n9 nb v, .bool nc, u] w (N9E w (num9 nb l + num9 nc m) (max l.length m.length + 1)) := by
  obtain ⟨⟨dl, tl, -⟩, hO⟩ := hN
  obtain ⟨vo, vcap, rfl, -⟩ := owns_form hO
  obtain ⟨uo, ucap, rfl, -⟩ := owns_form hU
  obtain ⟨a1, a2⟩ := alloc2_at w (.cells #[.bool nb, .slice vo l.length vcap] 68) (.cells #[.bool false, .slice none 0 0] 68)
  have hm0 : Mod (fun _ => False) w ((w.alloc (.cells #[.bool nb, .slice vo l.length vcap] 68)).alloc (.cells #[.bool false, .slice none 0 0] 68)) := ((Mod.refl _ w).alloc _).alloc _
  have HH : Hid _ := And.intro a1 (And.intro a2 hm0)
  clear a1 a2 hm0
  have HDL : Hid (D9 l ∧ T9 l ∧ D9 m ∧ T9 m) := ⟨dl, tl, dm, tm⟩
  clear dl tl dm tm
  obtain ⟨mx, hmx, hml, hmm, hm4⟩ : ∃ mx, max l.length m.length + 1 = mx ∧ l.length + 1 ≤ mx ∧ m.length + 1 ≤ mx ∧ mx ≤ 40001 := ⟨_, rfl, by omega, by omega, by omega⟩
  rw [hmx]
  have HMX : Hid (max l.length m.length + 1 = mx) := hmx
  clear hmx
  by_cases hne : nb = nc
  · have hb : (nb == nc) = true := by simp [hne]
    have HS : Hid (∀ k : List Nat, v9 k = v9 l + v9 m → num9 nc k = num9 nb l + num9 nc m) := fun k h => by subst hne; exact num9_same nb h
    generalize num9 nb l + num9 nc m = tot at *
    clear hne
    go_enter Tryd.func62, Tryd.ntmps62
    go_wp2_with fail
    generalize (w.alloc (.cells #[.bool nb, .slice vo l.length vcap] 68)).alloc (.cells #[.bool false, .slice none 0 0] 68) = W at *
    obtain ⟨hA0, hR0, hm0⟩ := HH.out
    clear HH
    refine (total_any _ _ l m 0 0 W (owns_mod hO hm0 (fun _ _ f => f)) (owns_mod hU hm0 (fun _ _ f => f)) HDL.out.1 HDL.out.2.2.1 (by omega) (by omega)).mono ?_
    rw [HMX.out]
    rintro e w2 ⟨hm2, v2, l2, rfl, hO2, hd2, ht2, hv2, hl2⟩
    have hs := signed_any nc v2 l2 _ w2 hO2 hd2 ht2 (by omega)
    have HX : Hid (num9 nc l2 = tot) := HS.out l2 hv2
    have hR2 := hm2.keep hR0 (fun f => f)
    have hm2w := hm0.trans hm2
    clear hO2 hd2 ht2 hv2 hm2
    go_wp2_with fail
    refine hs.mono ?_
    rintro e w3 ⟨hm3, nb3, v3, l3, rfl, hN3, hx3, hl3⟩
    have hR3 := hm3.keep hR2 (fun f => f)
    obtain ⟨r0, r1⟩ := c2_of hR3
    have f0 := fz3 hR3 0
    have f1 := fz3 hR3 1
    obtain ⟨vo3, vcap3, rfl, -⟩ := owns_form hN3.2
    have HE : Hid _ := n9_end (x := tot) (n := mx) hR3 (by omega) (hm2w.trans hm3) hN3.2 hN3.1 (hx3.trans HX.out) (by omega)
    clear hR3 hm3 hN3 hx3 hs hR2 hm2w
    go_wp2_with fail
    obtain ⟨k1, q0, q1⟩ := HE.out
    unfold set2at at q0 q1
    exact bodyPost_ret (by simp [results, Tryd.results62, go_sem, q0, q1]) rfl k1
  · have hb : (nb == nc) = false := by simp [hne]
    have hlt := less9_any (.slice vo l.length vcap) (.slice uo m.length ucap) l m 0 0 _ (owns_mod hO HH.out.2.2 (fun _ _ f => f)) (owns_mod hU HH.out.2.2 (fun _ _ f => f)) HDL.out.1 HDL.out.2.2.1 HDL.out.2.1 HDL.out.2.2.2 (by omega) (by omega)
    by_cases hc : v9 l < v9 m
    · have HS : Hid (∀ k : List Nat, v9 k = v9 m - v9 l → num9 nc k = num9 nb l + num9 nc m) := fun k h => num9_less hne (by omega) h
      generalize num9 nb l + num9 nc m = tot at *
      have hld : decide (v9 l < v9 m) = true := by simpa using hc
      rw [hld] at hlt
      have HLE : Hid (v9 l ≤ v9 m ∧ l.length ≤ m.length) := ⟨by omega, v9_len HDL.out.2.2.1 HDL.out.2.1 (by omega)⟩
      clear hne hc hld
      go_enter Tryd.func62, Tryd.ntmps62
      go_wp2_with fail
      generalize (w.alloc (.cells #[.bool nb, .slice vo l.length vcap] 68)).alloc (.cells #[.bool false, .slice none 0 0] 68) = W at *
      obtain ⟨hA0, hR0, hm0⟩ := HH.out
      clear HH
      refine hlt.mono ?_
      rintro e w1 ⟨rfl, hm1⟩
      have hA1 := hm1.keep hA0 (fun f => f)
      have hR1 := hm1.keep hR0 (fun f => f)
      have hm01 := hm0.trans hm1
      obtain ⟨g0, g1⟩ := c2_of hA1
      clear hA0 hR0 hm0 hA1 hlt hm1
      have hR0 := hR1
      have hm0 := hm01
      clear hR1 hm01
      go_wp2_with fail
      refine (diff_any _ _ m l 0 0 w1 (owns_mod hU hm0 (fun _ _ f => f)) (owns_mod hO hm0 (fun _ _ f => f)) HDL.out.2.2.1 HDL.out.1 HLE.out.1 HLE.out.2 (by omega)).mono ?_
      rintro e w2 ⟨hm2, v2, l2, rfl, hO2, hd2, ht2, hv2, hl2⟩
      have hs := signed_any nc v2 l2 _ w2 hO2 hd2 ht2 (by omega)
      have HX : Hid (num9 nc l2 = tot) := HS.out l2 hv2
      have hR2 := hm2.keep hR0 (fun f => f)
      have hm2w := hm0.trans hm2
      clear hO2 hd2 ht2 hv2 hm2
      go_wp2_with fail
      refine hs.mono ?_
      rintro e w3 ⟨hm3, nb3, v3, l3, rfl, hN3, hx3, hl3⟩
      have hR3 := hm3.keep hR2 (fun f => f)
      obtain ⟨r0, r1⟩ := c2_of hR3
      have f0 := fz3 hR3 0
      have f1 := fz3 hR3 1
      obtain ⟨vo3, vcap3, rfl, -⟩ := owns_form hN3.2
      have HE : Hid _ := n9_end (x := tot) (n := mx) hR3 (by omega) (hm2w.trans hm3) hN3.2 hN3.1 (hx3.trans HX.out) (by omega)
      clear hR3 hm3 hN3 hx3 hs hR2 hm2w
      go_wp2_with fail
      obtain ⟨k1, q0, q1⟩ := HE.out
      unfold set2at at q0 q1
      exact bodyPost_ret (by simp [results, Tryd.results62, go_sem, q0, q1]) rfl k1
    · have HS : Hid (∀ k : List Nat, v9 k = v9 l - v9 m → num9 nb k = num9 nb l + num9 nc m) := fun k h => num9_more hne (by omega) h
      generalize num9 nb l + num9 nc m = tot at *
      have hld : decide (v9 l < v9 m) = false := by simpa using hc
      rw [hld] at hlt
      have HLE : Hid (v9 m ≤ v9 l ∧ m.length ≤ l.length) := ⟨by omega, v9_len HDL.out.1 HDL.out.2.2.2 (by omega)⟩
      clear hne hc hld
      go_enter Tryd.func62, Tryd.ntmps62
      go_wp2_with fail
      generalize (w.alloc (.cells #[.bool nb, .slice vo l.length vcap] 68)).alloc (.cells #[.bool false, .slice none 0 0] 68) = W at *
      obtain ⟨hA0, hR0, hm0⟩ := HH.out
      clear HH
      refine hlt.mono ?_
      rintro e w1 ⟨rfl, hm1⟩
      have hA1 := hm1.keep hA0 (fun f => f)
      have hR1 := hm1.keep hR0 (fun f => f)
      have hm01 := hm0.trans hm1
      obtain ⟨g0, g1⟩ := c2_of hA1
      have hd := diff_any _ _ l m 0 0 w1.drew (owns_mod hO hm01.drew (fun _ _ f => f)) (owns_mod hU hm01.drew (fun _ _ f => f)) HDL.out.1 HDL.out.2.2.1 HLE.out.1 HLE.out.2 (by omega)
      clear hA0 hR0 hm0 hlt hm1
      go_wp2_with fail
      go_region_held3 (fun w' => w'.cell? ⟨w.heap.size, 0, none⟩ = some (.bool nb) ∧ w'.cell? ⟨w.heap.size, 1, none⟩ = some (.slice vo l.length vcap))
        (first | go_keep | (exact hkeep) | (exact hkeep2))
        (first
          | (go_at_call 69; refine hd.mono ?_; rintro e w2 ⟨hm2, v2, l2, rfl, hO2, hd2, ht2, hv2, hl2⟩; have hkeep := And.intro (hm2.cell (a := w1.drew) g0) (hm2.cell (a := w1.drew) g1))
          | (go_at_call 63; refine (signed_any nb v2 l2 _ w2 hO2 hd2 ht2 (by omega)).mono ?_; rintro e w3 ⟨hm3, nb3, v3, l3, rfl, hN3, hx3, hl3⟩; have hkeep := And.intro (hm3.cell (hm2.cell (a := w1.drew) g0)) (hm3.cell (hm2.cell (a := w1.drew) g1)); have hR3 := hm3.keep (hm2.keep (a := w1.drew) hR1 (fun f => f)) (fun f => f); obtain ⟨r0, r1⟩ := c2_of hR3; have f0 := fz3 hR3 0; have f1 := fz3 hR3 1; obtain ⟨vo3, vcap3, rfl, -⟩ := owns_form hN3.2; have hkeep2 := And.intro ((set2_cell (w.heap.size + 1) w3 (.bool nb3) (.slice vo3 l3.length vcap3) w.heap.size 0 (by omega)).trans hkeep.1) ((set2_cell (w.heap.size + 1) w3 (.bool nb3) (.slice vo3 l3.length vcap3) w.heap.size 1 (by omega)).trans hkeep.2)))
      have HE : Hid _ := n9_end (x := tot) (n := mx) hR3 (by omega) ((hm01.drew.trans hm2).trans hm3) hN3.2 hN3.1 (hx3.trans (HS.out l2 hv2)) (by omega)
      clear hR3 hm3 hN3 hx3 hR1 hm01 hm2 hO2 hd2 ht2 hv2
      go_wp2_with fail
      obtain ⟨k1, q0, q1⟩ := HE.out
      unfold set2at at q0 q1
      exact bodyPost_ret (by simp [results, Tryd.results62, go_sem, q0, q1]) rfl k1
end Go.Proofs.YtmnfndpbblpjiaaDoor

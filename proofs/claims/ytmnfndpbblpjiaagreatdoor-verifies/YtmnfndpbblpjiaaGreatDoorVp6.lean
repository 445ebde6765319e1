/- The program's splitCode, behind 'RU'. -/
import Derived.Test.YtmnfndpbblpjiaaGreatDoorVp5
import Derived.Test.YtmnfndpbblpjiaaGreatDoorRv1
namespace Go.Proofs.YtmnfndpbblpjiaaGreatDoor
open Go.RowKit Pu
attribute [local go_sem] wrap_b

set_option maxHeartbeats 3200000 in
set_option maxRecDepth 100000 in
theorem split_bad2 (s : ByteArray) (w : World) (h6 : 6 ≤ s.size) (hn0 : g s 0 = 82) (hn1 : g s 1 = 85) (hn : ¬ (1 ≤ g s 2 ∧ g s 2 ≤ 128 ∧ g s 3 ≤ 32)) (hs : s.size ≤ 8006) : Calls Tryz.prog 71 #[.string s] w fun e w' => SplitEnd s w w' e ∧ Mod (fun _ => False) w w' := by
  have HR : Hid (begunB s = false) := show begunB s = false by
    cases h : begunB s with
    | false => rfl
    | true => exact absurd ⟨(nst_of h).2.2.2.2.1, (nst_of h).2.2.2.2.2.1, (nst_of h).2.2.2.2.2.2⟩ hn
  have h0 : 0 < s.size := by omega
  have h1 : 1 < s.size := by omega
  have h2 : 2 < s.size := by omega
  have h3 : 3 < s.size := by omega
  have i6 : ¬ (s.size : Int) < 6 := by omega
  have b0 : (((s[0]'h0).toNat : Int) != 82) = false := bne_f (m := 82) (by rw [g_in h0] at hn0; exact hn0)
  have b1 : (((s[1]'h1).toNat : Int) != 85) = false := bne_f (m := 85) (by rw [g_in h1] at hn1; exact hn1)
  have j2 : (2 : Int) < (s.size : Int) := by omega
  have j3 : (3 : Int) < (s.size : Int) := by omega
  have l2 := (s[2]'h2).toNat_lt
  have l3 := (s[3]'h3).toNat_lt
  clear hn0 hn1
  rw [g_in h2, g_in h3] at hn
  by_cases ha : (s[2]'h2).toNat < 1
  · have q2 : ((s[2]'h2).toNat : Int) < 1 := by omega
    clear hn
    go_enter Tryz.func71, Tryz.ntmps71
    go_wp2_with fail
    go_region
    go_wp2_with fail
    exact bodyPost_ret (v := .tuple #[.agg #[.int .u8 0, .int .u8 0, .slice none 0 0], .bool false]) (by simp [results, Tryz.results71, go_sem]) rfl ⟨.inl ⟨HR.out, rfl⟩, (((Mod.refl _ w).alloc _).alloc _).drew⟩
  · have q2 : ¬ ((s[2]'h2).toNat : Int) < 1 := by omega
    by_cases hb : 128 < (s[2]'h2).toNat
    · have q3 : (128 : Int) < ((s[2]'h2).toNat : Int) := by omega
      clear hn
      go_enter Tryz.func71, Tryz.ntmps71
      go_wp2_with fail
      go_region
      go_wp2_with fail
      exact bodyPost_ret (v := .tuple #[.agg #[.int .u8 0, .int .u8 0, .slice none 0 0], .bool false]) (by simp [results, Tryz.results71, go_sem]) rfl ⟨.inl ⟨HR.out, rfl⟩, (((Mod.refl _ w).alloc _).alloc _).drew⟩
    · have q3 : ¬ (128 : Int) < ((s[2]'h2).toNat : Int) := by omega
      have q4 : (32 : Int) < ((s[3]'h3).toNat : Int) := by omega
      clear hn
      go_enter Tryz.func71, Tryz.ntmps71
      go_wp2_with fail
      go_region
      go_wp2_with fail
      exact bodyPost_ret (v := .tuple #[.agg #[.int .u8 0, .int .u8 0, .slice none 0 0], .bool false]) (by simp [results, Tryz.results71, go_sem]) rfl ⟨.inl ⟨HR.out, rfl⟩, (((Mod.refl _ w).alloc _).alloc _).drew⟩
set_option maxHeartbeats 3200000 in
set_option maxRecDepth 100000 in
theorem split_bad3 (s : ByteArray) (w : World) (h6 : 6 ≤ s.size) (hn0 : g s 0 = 82) (hn1 : g s 1 = 85) (ha : 1 ≤ g s 2) (hb : g s 2 ≤ 128) (hc : g s 3 ≤ 32) (hn : 2000 < g s 5 * 256 + g s 4) (hs : s.size ≤ 8006) : Calls Tryz.prog 71 #[.string s] w fun e w' => SplitEnd s w w' e ∧ Mod (fun _ => False) w w' := by
  have HR : Hid (begunB s = false) := show begunB s = false by
    cases h : begunB s with
    | false => rfl
    | true => have := nst_of h; omega
  have h0 : 0 < s.size := by omega
  have h1 : 1 < s.size := by omega
  have h2 : 2 < s.size := by omega
  have h3 : 3 < s.size := by omega
  have i6 : ¬ (s.size : Int) < 6 := by omega
  have b0 : (((s[0]'h0).toNat : Int) != 82) = false := bne_f (m := 82) (by rw [g_in h0] at hn0; exact hn0)
  have b1 : (((s[1]'h1).toNat : Int) != 85) = false := bne_f (m := 85) (by rw [g_in h1] at hn1; exact hn1)
  have j2 : (2 : Int) < (s.size : Int) := by omega
  have j3 : (3 : Int) < (s.size : Int) := by omega
  have l2 := (s[2]'h2).toNat_lt
  have l3 := (s[3]'h3).toNat_lt
  clear hn0 hn1
  have h4 : 4 < s.size := by omega
  have h5 : 5 < s.size := by omega
  have j4 : (4 : Int) < (s.size : Int) := by omega
  have j5 : (5 : Int) < (s.size : Int) := by omega
  have l4 := (s[4]'h4).toNat_lt
  have l5 := (s[5]'h5).toNat_lt
  have q2 : ¬ ((s[2]'h2).toNat : Int) < 1 := by rw [g_in h2] at ha; omega
  have q3 : ¬ (128 : Int) < ((s[2]'h2).toNat : Int) := by rw [g_in h2] at hb; omega
  have q4 : ¬ (32 : Int) < ((s[3]'h3).toNat : Int) := by rw [g_in h3] at hc; omega
  have q5 : (2000 : Int) < ((s[4]'h4).toNat : Int) + 256 * ((s[5]'h5).toNat : Int) := by rw [g_in h4, g_in h5] at hn; omega
  clear hn ha hb hc
  go_enter Tryz.func71, Tryz.ntmps71
  go_wp2_with fail
  go_region
  go_wp2_with fail
  go_quiet (fail)
  go_wp2_with fail
  exact bodyPost_ret (v := .tuple #[.agg #[.int .u8 0, .int .u8 0, .slice none 0 0], .bool false]) (by simp [results, Tryz.results71, go_sem]) rfl ⟨.inl ⟨HR.out, rfl⟩, ((((((Mod.refl _ w).alloc _).alloc _).drewN _).setCell _ _ (fun h => absurd h (Nat.lt_irrefl _))).setCell _ _ (fun h => absurd h (Nat.lt_irrefl _))).setCell _ _ (fun h => absurd h (Nat.lt_irrefl _))⟩
set_option maxHeartbeats 3200000 in
set_option maxRecDepth 100000 in
theorem split_bad4 (s : ByteArray) (w : World) (h6 : 6 ≤ s.size) (hn0 : g s 0 = 82) (hn1 : g s 1 = 85) (ha : 1 ≤ g s 2) (hb : g s 2 ≤ 128) (hc : g s 3 ≤ 32) (hd : g s 5 * 256 + g s 4 ≤ 2000) (hn : s.size ≠ 6 + 4 * (g s 5 * 256 + g s 4)) (hs : s.size ≤ 8006) : Calls Tryz.prog 71 #[.string s] w fun e w' => SplitEnd s w w' e ∧ Mod (fun _ => False) w w' := by
  have HR : Hid (begunB s = false) := show begunB s = false by
    cases h : begunB s with
    | false => rfl
    | true => have := nst_of h; omega
  have h0 : 0 < s.size := by omega
  have h1 : 1 < s.size := by omega
  have h2 : 2 < s.size := by omega
  have h3 : 3 < s.size := by omega
  have i6 : ¬ (s.size : Int) < 6 := by omega
  have b0 : (((s[0]'h0).toNat : Int) != 82) = false := bne_f (m := 82) (by rw [g_in h0] at hn0; exact hn0)
  have b1 : (((s[1]'h1).toNat : Int) != 85) = false := bne_f (m := 85) (by rw [g_in h1] at hn1; exact hn1)
  have j2 : (2 : Int) < (s.size : Int) := by omega
  have j3 : (3 : Int) < (s.size : Int) := by omega
  have l2 := (s[2]'h2).toNat_lt
  have l3 := (s[3]'h3).toNat_lt
  clear hn0 hn1
  have h4 : 4 < s.size := by omega
  have h5 : 5 < s.size := by omega
  have j4 : (4 : Int) < (s.size : Int) := by omega
  have j5 : (5 : Int) < (s.size : Int) := by omega
  have l4 := (s[4]'h4).toNat_lt
  have l5 := (s[5]'h5).toNat_lt
  have q2 : ¬ ((s[2]'h2).toNat : Int) < 1 := by rw [g_in h2] at ha; omega
  have q3 : ¬ (128 : Int) < ((s[2]'h2).toNat : Int) := by rw [g_in h2] at hb; omega
  have q4 : ¬ (32 : Int) < ((s[3]'h3).toNat : Int) := by rw [g_in h3] at hc; omega
  have q5 : ¬ (2000 : Int) < ((s[4]'h4).toNat : Int) + 256 * ((s[5]'h5).toNat : Int) := by rw [g_in h4, g_in h5] at hd; omega
  have q6 : ((s.size : Int) != (6 : Int) + (4 : Int) * (((s[4]'h4).toNat : Int) + (256 : Int) * ((s[5]'h5).toNat : Int))) = true := by rw [g_in h4, g_in h5] at hn; simp; omega
  clear hn ha hb hc hd
  go_enter Tryz.func71, Tryz.ntmps71
  go_wp2_with fail
  go_region
  go_wp2_with fail
  go_quiet (fail)
  go_wp2_with fail
  exact bodyPost_ret (v := .tuple #[.agg #[.int .u8 0, .int .u8 0, .slice none 0 0], .bool false]) (by simp [results, Tryz.results71, go_sem]) rfl ⟨.inl ⟨HR.out, rfl⟩, ((((((Mod.refl _ w).alloc _).alloc _).drewN _).setCell _ _ (fun h => absurd h (Nat.lt_irrefl _))).setCell _ _ (fun h => absurd h (Nat.lt_irrefl _))).setCell _ _ (fun h => absurd h (Nat.lt_irrefl _))⟩
end Go.Proofs.YtmnfndpbblpjiaaGreatDoor

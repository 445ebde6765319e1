/- The document's Check. -/
import Derived.Test.YtmnfndpbblpjiaaGreatDoorCk
namespace Go.Proofs.YtmnfndpbblpjiaaGreatDoor
open Go.RowKit Pu

theorem Pu.whole_head {s : ByteArray} (h : Whole s) : g s 0 ≠ 61 := by
  obtain ⟨x, hx, _⟩ := h
  by_cases h0 : s.size = 0
  · rw [g_out (by omega)]; decide
  · obtain ⟨d, hd⟩ : ∃ d, s.size = 1 + d := ⟨s.size - 1, by omega⟩
    rw [hd] at hx
    obtain ⟨y, hy⟩ := stA_le hx
    intro he
    simp [stA, nx, he, isL] at hy

set_option maxHeartbeats 400000 in
theorem rcheck_long (s : ByteArray) (w : World) (hs : 300 < s.size) (hm : s.size ≤ maxLen) : Calls Tryz.prog 37 #[.string s] w fun e w' => e = .returned (.tuple #[.int .i64 1, .int .i64 0]) ∧ w = w' := by
  unfold maxLen at hm
  go_enter Tryz.func37, Tryz.ntmps37
  go_wp2_with fail
  go_ret2
  exact ⟨rfl, rfl⟩

set_option maxHeartbeats 1000000 in
set_option maxRecDepth 100000 in
theorem rcheck_any (s : ByteArray) (w : World) (hs : s.size ≤ 300) : Calls Tryz.prog 37 #[.string s] w fun e w' => (∃ a b : Nat, Ans s a b ∧ e = .returned (.tuple #[.int .i64 a, .int .i64 b])) ∧ Mod (fun _ => False) w w' := by
  go_enter Tryz.func37, Tryz.ntmps37
  go_wp2_with fail
  refine (place_any s w hs).mono ?_
  rintro e w1 ⟨hm1, ⟨rfl, hw⟩ | ⟨k, rfl, hst⟩⟩
  · go_wp2_with fail
    refine (stmts_any s w1 hs (whole_head hw)).mono ?_
    rintro e w2 ⟨hm2, v, rfl, hL⟩
    have hll := (ga_len s s.size).1
    have HAns : Hid (∀ (a b : Nat) (p : List (St × Nat)) (hk : b < (gaA s s.size).l.length), Ok p → sts p = (gaA s s.size).l.take b → err p (gaA s s.size).l[b] ≠ 0 → a = err p (gaA s s.size).l[b] → Ans s a b) := fun a b p hk h1 h2 h3 h4 => .inr (.inl ⟨hw, p, hk, h1, h2, h3, h4⟩)
    have HOk : Hid (∀ p, Ok p → sts p = (gaA s s.size).l → Ans s 0 0) := fun p h1 h2 => .inr (.inr ⟨hw, rfl, rfl, p, h1, h2⟩)
    generalize (gaA s s.size).l = l at *
    have hm := hm1.trans hm2
    clear hm1 hm2
    obtain ⟨ao, cap, rfl, -⟩ := owns_form hL
    go_wp2_with fail
    go_loopw [6] (fun i wr => ∃ (k : Nat) (p : List (St × Nat)), k ≤ l.length ∧ i = .int .i64 k ∧ p.length = k ∧ Ok p ∧ sts p = l.take p.length ∧ RLst wr w1.heap.size (.slice ao l.length cap) l ∧ Mod (fun _ => False) w wr) (fun i _ => l.length - (intOf i).toNat)
    case atStart => exact ⟨0, [], by omega, rfl, rfl, Ok.nil, rfl, hL, hm⟩
    case round =>
      clear hL hm
      obtain ⟨k, p, hk, rfl, rfl, hok, hp, hL, hm⟩ := hrel
      have HP : Hid (sts p = l.take p.length) := hp
      clear hp
      by_cases hlt : p.length < l.length
      · by_cases he : err p l[p.length] = 0
        · have HE : Hid (err p l[p.length] = 0) := he
          clear he
          go_wp2_with fail
          have hF := fault_any _ l w1.heap.size wr p (by omega) hL hok HP.out hlt
          rw [HE.out] at hF
          refine hF.mono ?_
          clear hF
          rintro e w3 ⟨rfl, hm3⟩
          have hL3 := hL.mod hm3
          have hm4 := hm.trans hm3
          clear hL hm hm3
          go_wp2_with fail
          go_roundw
          case rel => exact ⟨p.length + 1, p ++ [(l[p.length], wgh p l[p.length])], by omega, by go_num, by simp, hok.snoc HE.out, by
            rw [List.length_append]; simp only [sts, List.map_append]; rw [show (p.map Prod.fst) = l.take p.length from HP.out]; exact (take_snoc' l p.length hlt).symm, hL3, hm4⟩
          case measure => simp [intOf]; omega
        · have hF := fault_any _ l w1.heap.size wr p (by omega) hL hok HP.out hlt
          have HF : Hid (Calls Tryz.prog 67 #[.slice ao l.length cap, .int .i64 p.length] wr fun e w' => e = .returned (.int .i64 (err p l[p.length])) ∧ Mod (fun _ => False) wr w') := hF
          have HA : Hid (Ans s (err p l[p.length]) p.length) := HAns.out _ _ p hlt hok HP.out he rfl
          clear hF HAns HOk
          generalize err p l[p.length] = er at *
          have hb : ((er : Int) != 0) = true := by rw [bne_iff_ne]; omega
          go_wp2_with fail
          refine HF.out.mono ?_
          rintro e w3 ⟨rfl, hm3⟩
          go_wp2_with fail
          go_ret2
          exact ⟨⟨er, p.length, HA.out, rfl⟩, hm.trans hm3⟩
      · have HA : Hid (Ans s 0 0) := HOk.out p hok (by rw [HP.out, List.take_of_length_le (by omega)])
        go_wp2_with fail
        go_ret2
        exact ⟨⟨0, 0, HA.out, rfl⟩, hm⟩
  · go_wp2_with fail
    go_ret2
    exact ⟨⟨2, k, .inl ⟨hst, rfl⟩, rfl⟩, hm1⟩
end Go.Proofs.YtmnfndpbblpjiaaGreatDoor

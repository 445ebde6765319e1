/- The scanner's step at every state, and place. -/
import Derived.Test.YtmnfndpbblpjiaaGreatDoorRf1a
import Derived.Test.YtmnfndpbblpjiaaGreatDoorRf1b
import Derived.Test.YtmnfndpbblpjiaaGreatDoorRf1c
namespace Go.Proofs.YtmnfndpbblpjiaaGreatDoor
open Go.RowKit Pu

theorem Pu.nx_bound {x y : Sc} {c : Nat} (h : nx x c = some y) : y.st ≤ 7 ∧ y.n ≤ x.n + 1 ∧ y.le ≤ x.le + 1 ∧ y.ar ≤ x.ar + 1 := by
  unfold nx at h
  repeat' (split at h)
  all_goals first | (simp at h; done) | (injection h with h; subst h; simp)
theorem Pu.stA_bound {s : ByteArray} : ∀ {k : Nat} {x : Sc}, stA s k = some x → x.st ≤ 7 ∧ x.n ≤ k ∧ x.le ≤ k ∧ x.ar ≤ k := by
  intro k
  induction k with
  | zero => intro x h; simp [stA] at h; subst h; simp
  | succ k ih =>
    intro y h
    obtain ⟨x, hx, hn⟩ := stA_back h
    have := ih hx
    have := nx_bound hn
    omega

theorem next_any (xb : Nat) (x : Sc) (c : Nat) (w : World) (hX : Scn w xb x) (hst : x.st ≤ 7) (hn : x.n ≤ 300) (hl : x.le ≤ 300) (ha : x.ar ≤ 300) (hc : c < 256) :
    Calls Tryz.prog 112 #[.pointer (some ⟨xb, 0, none⟩), .int .u8 c] w (NextEnd xb x c w) := by
  obtain ⟨st, n, le, ar⟩ := x
  have hLf : ∀ {b : Prop}, (isL c = true → b) → (isL c = false → b) → b := fun p q => by
    cases h : isL c
    · exact q h
    · exact p h
  simp only at hst hn hl ha
  match st, hst with
  | 0, _ =>
    by_cases h16 : n = 16
    · exact next0_0 xb n le ar c w hX hn hl ha hc (beq_t (m := 16) h16)
    · by_cases h63 : c = 63
      · exact next0_1 xb n le ar c w hX hn hl ha hc (beq_f (m := 16) h16) (beq_t (m := 63) h63)
      · exact hLf (fun h => next0_2 xb n le ar c w hX hn hl ha hc (beq_f (m := 16) h16) (beq_f (m := 63) h63) h) (fun h => next0_3 xb n le ar c w hX hn hl ha hc (beq_f (m := 16) h16) (beq_f (m := 63) h63) h)
  | 1, _ =>
    by_cases h61 : c = 61
    · exact next1_0 xb n le ar c w hX hn hl ha hc (beq_t (m := 61) h61)
    · exact next1_1 xb n le ar c w hX hn hl ha hc (beq_f (m := 61) h61)
  | 2, _ => exact hLf (fun h => next2_0 xb n le ar c w hX hn hl ha hc h) (fun h => next2_1 xb n le ar c w hX hn hl ha hc h)
  | 3, _ =>
    refine hLf (fun h => ?_) (fun h => ?_)
    · by_cases hle : le < 6
      · exact next3_0 xb n le ar c w hX hn hl ha hc h hle
      · exact next3_1 xb n le ar c w hX hn hl ha hc h (by omega) (beq_f (m := 40) (by have := (isL_iff c).1 h; omega))
    · by_cases h40 : c = 40
      · exact next3_2 xb n le ar c w hX hn hl ha hc h (beq_t (m := 40) h40)
      · exact next3_3 xb n le ar c w hX hn hl ha hc h (beq_f (m := 40) h40)
  | 4, _ =>
    refine hLf (fun h => next4_0 xb n le ar c w hX hn hl ha hc h) (fun h => ?_)
    by_cases h41 : c = 41
    · exact next4_1 xb n le ar c w hX hn hl ha hc h (beq_t (m := 41) h41)
    · exact next4_2 xb n le ar c w hX hn hl ha hc h (beq_f (m := 41) h41)
  | 5, _ =>
    by_cases h41 : c = 41
    · exact next5_0 xb n le ar c w hX hn hl ha hc (beq_t (m := 41) h41)
    · by_cases h44 : c = 44
      · by_cases hae : ar < 4
        · exact next5_1 xb n le ar c w hX hn hl ha hc (beq_f (m := 41) h41) (beq_t (m := 44) h44) hae
        · exact next5_2 xb n le ar c w hX hn hl ha hc (beq_f (m := 41) h41) (beq_t (m := 44) h44) (by omega)
      · exact next5_3 xb n le ar c w hX hn hl ha hc (beq_f (m := 41) h41) (beq_f (m := 44) h44)
  | 6, _ => exact hLf (fun h => next6_0 xb n le ar c w hX hn hl ha hc h) (fun h => next6_1 xb n le ar c w hX hn hl ha hc h)
  | 7, _ =>
    by_cases h59 : c = 59
    · exact next7_0 xb n le ar c w hX hn hl ha hc (beq_t (m := 59) h59)
    · exact next7_1 xb n le ar c w hX hn hl ha hc (beq_f (m := 59) h59)

set_option maxHeartbeats 800000 in
set_option maxRecDepth 100000 in
theorem place_any (s : ByteArray) (w : World) (hs : s.size ≤ 300) :
    Calls Tryz.prog 66 #[.string s] w fun e w' => Mod (fun _ => False) w w' ∧ ((e = .returned (.int .i64 (-1)) ∧ Whole s) ∨ ∃ k : Nat, e = .returned (.int .i64 k) ∧ Stuck s k) := by
  go_enter Tryz.func66, Tryz.ntmps66
  go_wp2
  have hX0 : Scn (w.alloc (.cells #[.int .i64 0, .int .i64 0, .int .i64 0, .int .i64 0] 167)) w.heap.size ⟨0, 0, 0, 0⟩ := by unfold Scn; show (w.heap.push _)[w.heap.size]? = _; simp
  go_loopw [4] (fun i wr => ∃ (k : Nat) (x : Sc), k ≤ s.size ∧ i = .int .i64 k ∧ Scn wr w.heap.size x ∧ stA s k = some x ∧ Mod (fun _ => False) w wr) (fun i _ => s.size - (intOf i).toNat)
  case atStart => exact ⟨0, _, by omega, rfl, hX0, rfl, (Mod.refl _ w).alloc _⟩
  case round =>
    clear hX0
    obtain ⟨k, x, hk, rfl, hX, hst, hm⟩ := hrel
    have hsz := hm.size
    have hbd := stA_bound hst
    have HST : Hid (stA s k = some x) := hst
    clear hst
    by_cases hlt : k < s.size
    · have hg := g_in hlt
      have HG : Hid (g s k = s[k].toNat) := hg
      have hgl := g_lt s k
      clear hg
      go_wp2_with fail
      have hN := next_any w.heap.size x (g s k) wr hX hbd.1 (by omega) (by omega) (by omega) hgl
      rw [HG.out] at hN
      refine hN.mono ?_
      rintro e w2 (⟨hn, rfl, rfl⟩ | ⟨y, hn, rfl, hY, hm2⟩)
      · rw [← HG.out] at hn
        have HN : Hid (nx x (g s k) = none) := hn
        clear hn hN
        go_wp2
        go_ret
        exact ⟨hm, .inr ⟨k, rfl, x, HST.out, .inl ⟨hlt, HN.out⟩⟩⟩
      · rw [← HG.out] at hn
        have HN : Hid (nx x (g s k) = some y) := hn
        have hm3 : Mod (fun _ => False) w w2 := ⟨hm2.os.trans hm.os, hm2.tape.trans hm.tape, hm2.output.trans hm.output, Nat.le_trans hm.size hm2.size, fun i hi _ => (hm2.block i (by omega) (by omega)).trans (hm.block i hi (fun f => f))⟩
        clear hn hN hm hm2 hX
        go_wp2
        go_roundw
        case rel => exact ⟨k + 1, y, by omega, by go_num, hY, stA_succ HST.out HN.out, hm3⟩
        case measure => simp [intOf]; omega
    · have hks : k = s.size := by omega
      subst hks
      obtain ⟨st, n, le, ar⟩ := x
      have c0 := hX.c0
      by_cases h0 : st = 0
      · subst h0
        go_wp2
        go_ret
        exact ⟨hm, .inl ⟨rfl, _, HST.out, rfl⟩⟩
      · have hq : ((st : Int) != 0) = true := by rw [bne_iff_ne]; omega
        go_wp2
        go_ret
        exact ⟨hm, .inr ⟨s.size, rfl, _, HST.out, .inr ⟨rfl, h0⟩⟩⟩
end Go.Proofs.YtmnfndpbblpjiaaGreatDoor

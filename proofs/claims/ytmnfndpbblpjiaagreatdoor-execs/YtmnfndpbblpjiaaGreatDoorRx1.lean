/- The document's decimal, numeral. -/
import Derived.Test.YtmnfndpbblpjiaaGreatDoorBase
import Derived.Test.YtmnfndpbblpjiaaGreatDoorPx
namespace Go.Proofs.YtmnfndpbblpjiaaGreatDoor
open Go.RowKit Pu

theorem one_byte (w : World) (n : Nat) (hn : n < 256) :
    (convert 75 9 (.slice (some ⟨w.heap.size, 0, none⟩) 1 1)).run Tryz.prog (w.alloc (.cells #[.int .u8 (n : Int)] 5))
      = .ok (.string ⟨#[UInt8.ofNat n]⟩) (w.alloc (.cells #[.int .u8 (n : Int)] 5)) := by
  refine run_convert_bytes_back (P := Tryz.prog) _ 75 9 5 ⟨w.heap.size, 0, none⟩ 1 [UInt8.ofNat n] Tryz.underlying75 Tryz.underlying5 Tryz.underlying9 ?_
  intro j hj
  have hj2 : j = 0 := by simpa using hj
  subst hj2
  have hc : (w.alloc (.cells #[.int .u8 (n : Int)] 5)).cell? ⟨w.heap.size, 0, none⟩ = #[Value.int .u8 (n : Int)][0]? := World.cell?_alloc_mark w _ _ _ 0
  have ha : (⟨w.heap.size, 0, none⟩ : Addr).add 0 = ⟨w.heap.size, 0, none⟩ := by simp [Addr.add]
  rw [ha, hc]
  simp
  omega

set_option maxHeartbeats 800000 in
set_option maxRecDepth 100000 in
theorem decimal_nat (n : Nat) (w : World) (hn : n ≤ 99) : Calls Tryz.prog 78 #[.int .i64 (n : Int)] w fun e w' => e = .returned (.string (dec (n : Int))) ∧ Mod (fun _ => False) w w' := by
  have HD : Hid (dec (n : Int) = ⟨(decN n).toArray⟩) := dec_nat n
  have hq : (48 : Int) + (n : Int) / 10 = ((48 + n / 10 : Nat) : Int) := by omega
  have hr : (48 : Int) + (n : Int) % 10 = ((48 + n % 10 : Nat) : Int) := by omega
  generalize dec (n : Int) = ans at *
  by_cases h9 : 9 < n
  · have HE : Hid (ans = ⟨#[UInt8.ofNat (48 + n / 10), UInt8.ofNat (48 + n % 10)]⟩) := show _ = _ by rw [HD.out]; unfold decN; rw [if_pos h9]
    have k1 := one_byte w (48 + n / 10) (by omega)
    have k2 := one_byte (w.alloc (.cells #[.int .u8 ((48 + n / 10 : Nat) : Int)] 5)) (48 + n % 10) (by omega)
    have hm : Mod (fun _ => False) w ((w.alloc (.cells #[.int .u8 ((48 + n / 10 : Nat) : Int)] 5)).alloc (.cells #[.int .u8 ((48 + n % 10 : Nat) : Int)] 5)) := ((Mod.refl _ w).alloc _).alloc _
    simp only [World.size_alloc] at k2
    rw [← hq] at k1 k2 hm
    rw [← hr] at k2 hm
    generalize UInt8.ofNat (48 + n / 10) = b1 at *
    generalize UInt8.ofNat (48 + n % 10) = b2 at *
    clear hq hr HD
    go_enter Tryz.func78, Tryz.ntmps78
    go_wp2_with fail
    go_ret
    exact ⟨by rw [HE.out]; rfl, hm⟩
  · have HE : Hid (ans = ⟨#[UInt8.ofNat (48 + n % 10)]⟩) := show _ = _ by rw [HD.out]; unfold decN; rw [if_neg h9]
    have k2 := one_byte w (48 + n % 10) (by omega)
    have hm : Mod (fun _ => False) w (w.alloc (.cells #[.int .u8 ((48 + n % 10 : Nat) : Int)] 5)) := (Mod.refl _ w).alloc _
    rw [← hr] at k2 hm
    generalize UInt8.ofNat (48 + n % 10) = b2 at *
    clear hq hr HD
    go_enter Tryz.func78, Tryz.ntmps78
    go_wp2_with fail
    go_ret
    exact ⟨by rw [HE.out]; rfl, hm⟩

set_option maxHeartbeats 800000 in
set_option maxRecDepth 100000 in
theorem decimal_neg (n : Nat) (w : World) (h0 : 0 < n) (hn : n ≤ 99) : Calls Tryz.prog 78 #[.int .i64 (-(n : Int))] w fun e w' => e = .returned (.string (dec (-(n : Int)))) ∧ Mod (fun _ => False) w w' := by
  have HD : Hid (dec (-(n : Int)) = ⟨(45 :: decN n).toArray⟩) := dec_neg n h0
  have hq : (48 : Int) + (n : Int) / 10 = ((48 + n / 10 : Nat) : Int) := by omega
  have hr : (48 : Int) + (n : Int) % 10 = ((48 + n % 10 : Nat) : Int) := by omega
  generalize dec (-(n : Int)) = ans at *
  by_cases h9 : 9 < n
  · have HE : Hid (ans = ⟨#[45, UInt8.ofNat (48 + n / 10), UInt8.ofNat (48 + n % 10)]⟩) := show _ = _ by rw [HD.out]; unfold decN; rw [if_pos h9]
    have k1 := one_byte w (48 + n / 10) (by omega)
    have k2 := one_byte (w.alloc (.cells #[.int .u8 ((48 + n / 10 : Nat) : Int)] 5)) (48 + n % 10) (by omega)
    have hm : Mod (fun _ => False) w ((w.alloc (.cells #[.int .u8 ((48 + n / 10 : Nat) : Int)] 5)).alloc (.cells #[.int .u8 ((48 + n % 10 : Nat) : Int)] 5)) := ((Mod.refl _ w).alloc _).alloc _
    simp only [World.size_alloc] at k2
    rw [← hq] at k1 k2 hm
    rw [← hr] at k2 hm
    generalize UInt8.ofNat (48 + n / 10) = b1 at *
    generalize UInt8.ofNat (48 + n % 10) = b2 at *
    clear hq hr HD
    go_enter Tryz.func78, Tryz.ntmps78
    go_wp2_with fail
    go_ret
    exact ⟨by rw [HE.out]; rfl, hm⟩
  · have HE : Hid (ans = ⟨#[45, UInt8.ofNat (48 + n % 10)]⟩) := show _ = _ by rw [HD.out]; unfold decN; rw [if_neg h9]
    have k2 := one_byte w (48 + n % 10) (by omega)
    have hm : Mod (fun _ => False) w (w.alloc (.cells #[.int .u8 ((48 + n % 10 : Nat) : Int)] 5)) := (Mod.refl _ w).alloc _
    rw [← hr] at k2 hm
    generalize UInt8.ofNat (48 + n % 10) = b2 at *
    clear hq hr HD
    go_enter Tryz.func78, Tryz.ntmps78
    go_wp2_with fail
    go_ret
    exact ⟨by rw [HE.out]; rfl, hm⟩

theorem decimal_any (n : Int) (w : World) (h1 : -99 ≤ n) (h2 : n ≤ 99) : Calls Tryz.prog 78 #[.int .i64 n] w fun e w' => e = .returned (.string (dec n)) ∧ Mod (fun _ => False) w w' := by
  by_cases h : n < 0
  · have := decimal_neg n.natAbs w (by omega) (by omega)
    rwa [show -((n.natAbs : Nat) : Int) = n by omega] at this
  · have := decimal_nat n.natAbs w (by omega)
    rwa [show ((n.natAbs : Nat) : Int) = n by omega] at this
end Go.Proofs.YtmnfndpbblpjiaaGreatDoor

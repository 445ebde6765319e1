/- The document's numeral. -/
import Derived.Test.YtmnfndpbblpjiaaGreatDoorRx1
namespace Go.Proofs.YtmnfndpbblpjiaaGreatDoor
open Go.RowKit Pu

theorem bytes_inj {a b : ByteArray} (h : a.toList = b.toList) : a = b := by
  obtain ⟨⟨a⟩⟩ := a
  obtain ⟨⟨b⟩⟩ := b
  rw [ByteArray.toList_mk, ByteArray.toList_mk] at h
  rw [h]
def numAns (o : Option Int) : Value := match o with
  | some n => .tuple #[.int .i64 n, .bool true]
  | none => .tuple #[.int .i64 0, .bool false]

set_option maxHeartbeats 800000 in
set_option maxRecDepth 100000 in
theorem numeral_any (t : ByteArray) (w : World) : Calls Tryz.prog 74 #[.string t] w fun e w' => e = .returned (numAns (numer t)) ∧ Mod (fun _ => False) w w' := by
  go_enter Tryz.func74, Tryz.ntmps74
  go_wp2_with fail
  go_loopw [4] (fun nv wr => ∃ j : Nat, j ≤ 199 ∧ nv = .int .i64 ((j : Int) - 99) ∧ Mod (fun _ => False) w wr ∧ Hid (∀ i : Nat, i < j → t ≠ dec ((i : Int) - 99))) (fun nv _ => (100 - intOf nv).toNat)
  case atStart => exact ⟨0, by omega, rfl, Mod.refl _ _, fun i hi => by omega⟩
  case round =>
    obtain ⟨j, hj, rfl, hm, HN⟩ := hrel
    by_cases hlt : j < 199
    · go_wp2_with fail
      refine (decimal_any ((j : Int) - 99) _ (by omega) (by omega)).mono ?_
      rintro e w2 ⟨rfl, hm2⟩
      have hm3 := hm.trans hm2
      clear hm hm2
      by_cases heq : t = dec ((j : Int) - 99)
      · have HV : Hid (numer t = some ((j : Int) - 99)) := numer_some hlt heq HN.out
        have hb : (t.toList == (dec ((j : Int) - 99)).toList) = true := by rw [← heq]; exact beq_self_eq_true _
        clear heq HN
        go_wp2_with fail
        go_ret2
        exact ⟨by rw [HV.out]; rfl, hm3⟩
      · have HN2 : Hid (∀ i : Nat, i < j + 1 → t ≠ dec ((i : Int) - 99)) := fun i hi => by
          by_cases e : i = j
          · subst e; exact heq
          · exact HN.out i (by omega)
        have hb : (t.toList == (dec ((j : Int) - 99)).toList) = false := by rw [beq_eq_false_iff_ne]; exact fun e => heq (bytes_inj e)
        clear heq HN
        go_wp2_with fail
        go_roundw
        case rel => exact ⟨j + 1, by omega, by go_num, hm3, HN2⟩
        case measure => simp [intOf]; omega
    · have HV : Hid (numer t = none) := numer_none (fun i hi => HN.out i (by omega))
      go_wp2_with fail
      go_ret2
      exact ⟨by rw [HV.out]; rfl, hm⟩
end Go.Proofs.YtmnfndpbblpjiaaGreatDoor

/- The document's Inputs. -/
import Derived.Test.YtmnfndpbblpjiaaGreatDoorRx2
import Derived.Test.YtmnfndpbblpjiaaGreatDoorRn2
namespace Go.Proofs.YtmnfndpbblpjiaaGreatDoor
open Go.RowKit Pu

/-- What Inputs answers. -/
def InpEnd (w : World) (o : Option (List Int)) (e : Ending) (w' : World) : Prop := Mod (fun _ => False) w w' ∧ match o with
  | none => e = .returned (.tuple #[.slice none 0 0, .bool false])
  | some l => ∃ v, e = .returned (.tuple #[v, .bool true]) ∧ w'.ownsRow w.heap.size 3 1 v l.length (zvs l)
theorem inpEnd_none {w w' : World} (hm : Mod (fun _ => False) w w') : InpEnd w none (.returned (.tuple #[.slice none 0 0, .bool false])) w' := ⟨hm, rfl⟩
theorem inpEnd_some {w w' : World} {l : List Int} {v : Value} (hm : Mod (fun _ => False) w w') (h : w'.ownsRow w.heap.size 3 1 v l.length (zvs l)) : InpEnd w (some l) (.returned (.tuple #[v, .bool true])) w' := ⟨hm, v, rfl, h⟩

set_option maxHeartbeats 800000 in
set_option maxRecDepth 100000 in
theorem inputs_any (s : ByteArray) (w : World) (hs : s.size ≤ 140) : Calls Tryz.prog 45 #[.string s] w (InpEnd w (inps s)) := by
  obtain ⟨i0, hi, hz0, hz1, hz2⟩ := info_parts Tryz.info3
  by_cases h0 : s.size = 0
  · have hse : s = ⟨#[]⟩ := by
      apply ByteArray.ext
      exact Array.eq_empty_of_size_eq_zero h0
    have HV : Hid (inps s = some []) := show _ = _ by simp [inps, h0]
    have hb : (s.toList == ([] : List UInt8)) = true := by rw [hse, ByteArray.toList_mk []]; rfl
    clear hse h0
    generalize inps s = ans at *
    go_enter Tryz.func45, Tryz.ntmps45
    go_wp2_with fail
    go_ret2
    rw [HV.out]
    exact inpEnd_some (Mod.refl _ _) (World.ownsRow_nil _ _ _ _)
  · have hb : (s.toList == ([] : List UInt8)) = false := by
      rw [beq_eq_false_iff_ne]
      intro e
      have : s = ⟨#[]⟩ := bytes_inj (by rw [e]; exact (ByteArray.toList_mk []).symm)
      rw [this] at h0
      exact h0 rfl
    have H0 : Hid (s.size ≠ 0) := h0
    clear h0
    go_enter Tryz.func45, Tryz.ntmps45
    go_wp2_with fail
    go_loopw [4, 5, 6, 7, 8] (fun lv fv iv _ _ wr => ∃ (i f : Nat) (l : List Int), i ≤ s.size + 1 ∧ iv = .int .i64 i ∧ fv = .int .i64 f ∧ f ≤ i ∧ l.length ≤ i ∧ wr.ownsRow w.heap.size 3 1 lv l.length (zvs l) ∧ Mod (fun _ => False) w wr ∧ Hid (inpSt s i = some (f, l))) (fun _ _ iv _ _ _ => s.size + 1 - (intOf iv).toNat)
    case atStart => exact ⟨0, 0, [], by omega, rfl, rfl, by omega, by simp, World.ownsRow_nil _ _ _ _, Mod.refl _ _, rfl⟩
    case round =>
      obtain ⟨i, f, l, hil, rfl, rfl, hfi, hll, hown, hm, HI⟩ := hrel
      obtain ⟨lo, lcap, rfl, -⟩ := owns_form hown
      by_cases hlt : i ≤ s.size
      · by_cases hc : i = s.size ∨ g s i = 44
        · have HBAD : Hid (numer (s.extract f i) = none → inps s = none) := fun h => inps_bad H0.out hlt HI.out hc h
          have HNUM : Hid (∀ n, numer (s.extract f i) = some n → inpSt s (i + 1) = some (i + 1, l ++ [n])) := fun n h => inpSt_num HI.out hc h
          by_cases hie : i = s.size
          · have b1 : ((i : Int) == (s.size : Int)) = true := beq_t hie
            clear hie
            clear hc
            go_wp2_with fail
            refine (numeral_any (s.extract f i) _).mono ?_
            rintro e w2 ⟨he, hm2⟩
            have hm3 := hm.trans hm2
            have hown3 := owns_mod hown hm2 (fun _ _ f => f)
            clear hm hm2 hown
            cases hnu : numer (s.extract f i) with
            | none =>
              have HV : Hid (inps s = none) := HBAD.out hnu
              rw [hnu] at he
              simp only [numAns] at he
              subst he
              go_wp2_with fail
              go_ret2
              rw [HV.out]
              exact inpEnd_none hm3
            | some n =>
              have hr := numer_range hnu
              have hsz := hm3.size
              have HI2 : Hid (inpSt s (i + 1) = some (i + 1, l ++ [n])) := HNUM.out n hnu
              rw [hnu] at he
              simp only [numAns] at he
              subst he
              clear hnu HBAD HNUM HI
              go_wp2_with (at_builtin; refine wpList_append_own _ rfl _ _ 39 rfl w.heap.size 3 i0 (.int .i64 0) 1 8 Tryz.underlying39 hi hz0 hz1 hz2 rfl (by decide) _ _ _ rfl (hown3.alloc _) ⟨w2.heap.size, 0, none⟩ 1 1 [.int .i64 n] rfl rfl ?p1 ?p2 ?p3 ?p4 ?p5 ?_)
              case p1 => exact cell_one_new _ _ _
              case p2 => first | rfl | (intro u hu; simp at hu; subst hu; rfl)
              case p3 => unfold maxLen; omega
              case p4 => omega
              case p5 => first | omega | (simp; omega)
              intro v4 w4 hown4 hgrow _
              have hm4 : Mod (fun _ => False) w w4 := (hm3.alloc _).grown hgrow (fun q hq hlt => by have := (hown3.lt q hq).1; omega)
              have hown5 : w4.ownsRow w.heap.size 3 1 v4 (l ++ [n]).length (zvs (l ++ [n])) := by
                have e1 : zvs (l ++ [n]) = zvs l ++ [.int .i64 n] := by simp [zvs]
                rw [e1, List.length_append]; exact hown4
              obtain ⟨oo4, ocap4, rfl, -⟩ := owns_form hown4
              clear hown4 hgrow hown3 hm3
              go_wp2_with fail
              go_roundw
              case rel => exact ⟨i + 1, i + 1, l ++ [n], by omega, by go_num, by go_num, by omega, by simp; omega, hown5, hm4, HI2⟩
              case measure => simp [intOf]; omega
          · have b1 : ((i : Int) == (s.size : Int)) = false := beq_f hie
            have hlt2 : i < s.size := by omega
            have hlt3 : (i : Int) < (s.size : Int) := by omega
            have b2 : (((s[i]'hlt2).toNat : Int) == 44) = true := beq_t (m := 44) (by rw [← g_in hlt2]; omega)
            clear hc
            go_wp2_with fail
            refine (numeral_any (s.extract f i) _).mono ?_
            rintro e w2 ⟨he, hm2⟩
            have hm3 := hm.trans hm2
            have hown3 := owns_mod hown hm2 (fun _ _ f => f)
            clear hm hm2 hown
            cases hnu : numer (s.extract f i) with
            | none =>
              have HV : Hid (inps s = none) := HBAD.out hnu
              rw [hnu] at he
              simp only [numAns] at he
              subst he
              go_wp2_with fail
              go_ret2
              rw [HV.out]
              exact inpEnd_none hm3
            | some n =>
              have hr := numer_range hnu
              have hsz := hm3.size
              have HI2 : Hid (inpSt s (i + 1) = some (i + 1, l ++ [n])) := HNUM.out n hnu
              rw [hnu] at he
              simp only [numAns] at he
              subst he
              clear hnu HBAD HNUM HI
              go_wp2_with (at_builtin; refine wpList_append_own _ rfl _ _ 39 rfl w.heap.size 3 i0 (.int .i64 0) 1 8 Tryz.underlying39 hi hz0 hz1 hz2 rfl (by decide) _ _ _ rfl (hown3.alloc _) ⟨w2.heap.size, 0, none⟩ 1 1 [.int .i64 n] rfl rfl ?p1 ?p2 ?p3 ?p4 ?p5 ?_)
              case p1 => exact cell_one_new _ _ _
              case p2 => first | rfl | (intro u hu; simp at hu; subst hu; rfl)
              case p3 => unfold maxLen; omega
              case p4 => omega
              case p5 => first | omega | (simp; omega)
              intro v4 w4 hown4 hgrow _
              have hm4 : Mod (fun _ => False) w w4 := (hm3.alloc _).grown hgrow (fun q hq hlt => by have := (hown3.lt q hq).1; omega)
              have hown5 : w4.ownsRow w.heap.size 3 1 v4 (l ++ [n]).length (zvs (l ++ [n])) := by
                have e1 : zvs (l ++ [n]) = zvs l ++ [.int .i64 n] := by simp [zvs]
                rw [e1, List.length_append]; exact hown4
              obtain ⟨oo4, ocap4, rfl, -⟩ := owns_form hown4
              clear hown4 hgrow hown3 hm3
              go_wp2_with fail
              go_roundw
              case rel => exact ⟨i + 1, i + 1, l ++ [n], by omega, by go_num, by go_num, by omega, by simp; omega, hown5, hm4, HI2⟩
              case measure => simp [intOf]; omega
        · have HI2 : Hid (inpSt s (i + 1) = some (f, l)) := inpSt_on HI.out hc
          have hlt2 : i < s.size := by omega
          have hlt3 : (i : Int) < (s.size : Int) := by omega
          have b1 : ((i : Int) == (s.size : Int)) = false := beq_f (by omega)
          have b2 : (((s[i]'hlt2).toNat : Int) == 44) = false := beq_f (m := 44) (by rw [← g_in hlt2]; omega)
          clear HI hc
          go_wp2_with fail
          go_roundw
          case rel => exact ⟨i + 1, f, l, by omega, by go_num, rfl, by omega, by omega, hown, hm, HI2⟩
          case measure => simp [intOf]; omega
      · have hi' : i = s.size + 1 := by omega
        have HV : Hid (inps s = some l) := inps_good H0.out (by rw [← hi']; exact HI.out)
        generalize inps s = ans at *
        clear hi' HI
        go_wp2_with fail
        go_ret2
        rw [HV.out]
        exact inpEnd_some hm hown
end Go.Proofs.YtmnfndpbblpjiaaGreatDoor

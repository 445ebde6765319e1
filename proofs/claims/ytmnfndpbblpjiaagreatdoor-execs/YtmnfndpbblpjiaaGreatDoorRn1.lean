/- The document's numbers: Less, Sign, order, made. -/
import Derived.Test.YtmnfndpbblpjiaaGreatDoorRv3
import Derived.Test.YtmnfndpbblpjiaaGreatDoorPn
namespace Go.Proofs.YtmnfndpbblpjiaaGreatDoor
open Go.RowKit Pu

abbrev nm2 (nb : Bool) (v : Value) : Value := .agg #[.bool nb, v]
/-- A number in memory. -/
def Nm (w : World) (nb : Bool) (v : Value) (l : List Nat) : Prop := Canon nb l ∧ w.ownsRow 0 3 1 v l.length (ivs l)
theorem Nm.mod {w w' : World} {nb : Bool} {v : Value} {l : List Nat} (h : Nm w nb v l) (hm : Mod (fun _ => False) w w') : Nm w' nb v l := ⟨h.1, owns_mod h.2 hm (fun _ _ f => f)⟩
def lessB (nb : Bool) (l : List Nat) : Bool := !nb && decide (0 < l.length)
theorem less_canon {nb : Bool} {l : List Nat} (h : Canon nb l) : Canon (lessB nb l) l ∧ num (lessB nb l) l = -num nb l := by
  obtain ⟨h1, h2, h3⟩ := h
  cases l with
  | nil => have := h3 rfl; subst this; exact ⟨⟨h1, h2, fun _ => rfl⟩, by simp [lessB, num, val]⟩
  | cons d l => exact ⟨⟨h1, h2, fun e => by cases e⟩, by simp [lessB]; exact num_neg nb _⟩

set_option maxHeartbeats 800000 in
set_option maxRecDepth 100000 in
theorem less_any (nb : Bool) (v : Value) (l : List Nat) (w : World) (hN : Nm w nb v l) (_hl : l.length ≤ 100000) : Calls Tryz.prog 135 #[nm2 nb v] w fun e w' => e = .returned (nm2 (lessB nb l) v) ∧ Mod (fun _ => False) w w' := by
  have hcan := hN.1
  obtain ⟨ao, cap, rfl, -⟩ := owns_form hN.2
  clear hN
  cases nb with
  | true =>
    go_enter Tryz.func135, Tryz.ntmps135
    go_wp2_with fail
    exact bodyPost_ret (v := nm2 false (.slice ao l.length cap)) (by simp [results, Tryz.results135, go_sem]) rfl ⟨rfl, ((Mod.refl _ w).alloc _).alloc _⟩
  | false =>
    go_enter Tryz.func135, Tryz.ntmps135
    go_wp2_with fail
    exact bodyPost_ret (v := nm2 (lessB false l) (.slice ao l.length cap)) (by simp [results, Tryz.results135, go_sem, lessB]) rfl ⟨rfl, ((Mod.refl _ w).alloc _).alloc _⟩

def sgI (x : Int) : Int := if x < 0 then -1 else if x = 0 then 0 else 1
set_option maxHeartbeats 800000 in
set_option maxRecDepth 100000 in
theorem sign_any (nb : Bool) (v : Value) (l : List Nat) (w : World) (hN : Nm w nb v l) (hl : l.length ≤ 100000) : Calls Tryz.prog 77 #[nm2 nb v] w fun e w' => e = .returned (.int .i64 (sgI (num nb l))) ∧ Mod (fun _ => False) w w' := by
  have hcan := hN.1
  obtain ⟨ao, cap, rfl, -⟩ := owns_form hN.2
  have hsg := hcan.sign
  clear hN
  have hm0 : Mod (fun _ => False) w (w.alloc (.cells #[.bool nb, .slice ao l.length cap] 116)) := (Mod.refl _ w).alloc _
  by_cases h0 : l = []
  · have HR : Hid (sgI (num nb l) = 0) := show sgI (num nb l) = 0 by unfold sgI; rw [hsg.1.2 h0]; rfl
    have hb : ((l.length : Int) == 0) = true := by subst h0; rfl
    clear h0 hsg
    go_enter Tryz.func77, Tryz.ntmps77
    go_wp2_with fail
    go_ret
    exact ⟨by rw [HR.out]; rfl, hm0⟩
  · have hb : ((l.length : Int) == 0) = false := by rw [beq_eq_false_iff_ne]; have := List.length_pos_iff.2 h0; omega
    cases nb with
    | true =>
      have HR : Hid (sgI (num true l) = -1) := show sgI (num true l) = -1 by unfold sgI; rw [if_pos (hsg.2.2 rfl)]
      clear hsg
      go_enter Tryz.func77, Tryz.ntmps77
      go_wp2_with fail
      go_ret
      exact ⟨by rw [HR.out]; rfl, hm0⟩
    | false =>
      have HR : Hid (sgI (num false l) = 1) := show sgI (num false l) = 1 by
        unfold sgI; rw [if_neg (fun h => by have := hsg.2.1 h; cases this), if_neg (fun h => h0 (hsg.1.1 h))]
      clear hsg
      go_enter Tryz.func77, Tryz.ntmps77
      go_wp2_with fail
      go_ret
      exact ⟨by rw [HR.out]; rfl, hm0⟩

theorem val_cmp {a b : List Nat} (k : Nat) (ha : Dig a) (hl : a.length = b.length) (hk : k < a.length) (hlt : a[k] < b[k]'(by omega)) (he : a.drop (k + 1) = b.drop (k + 1)) : val a < val b := by
  have e1 : a = a.take k ++ a[k] :: a.drop (k + 1) := by rw [← List.drop_eq_getElem_cons hk, List.take_append_drop]
  have e2 : b = b.take k ++ b[k]'(by omega) :: b.drop (k + 1) := by rw [← List.drop_eq_getElem_cons (by omega), List.take_append_drop]
  rw [e1, e2, he]
  exact val_less (fun d hd => ha d (List.mem_of_mem_take hd)) (by simp; omega) hlt

set_option maxHeartbeats 800000 in
set_option maxRecDepth 100000 in
theorem order_any (u v : Value) (a b : List Nat) (w : World) (hU : w.ownsRow 0 3 1 u a.length (ivs a)) (hV : w.ownsRow 0 3 1 v b.length (ivs b)) (ha : Dig a) (hb : Dig b) (hta : Top a) (htb : Top b) (la : a.length ≤ 100000) (_lb : b.length ≤ 100000) :
    Calls Tryz.prog 170 #[u, v] w fun e w' => e = .returned (.int .i64 (sgI ((val a : Int) - val b))) ∧ Mod (fun _ => False) w w' := by
  obtain ⟨ao, acap, rfl, -⟩ := owns_form hU
  obtain ⟨bo, bcap, rfl, -⟩ := owns_form hV
  by_cases hlen : a.length = b.length
  · have HLen : Hid (a.length = b.length) := hlen
    have hb1 : ((a.length : Int) != (b.length : Int)) = false := by rw [hlen]; simp
    clear hlen
    go_enter Tryz.func170, Tryz.ntmps170
    go_wp2_with fail
    go_loopw [5] (fun i wr => ∃ j : Nat, j ≤ a.length ∧ i = .int .i64 ((j : Int) - 1) ∧ (∃ n, wr = w.drewN n) ∧ Hid (a.drop j = b.drop j)) (fun i _ => (intOf i + 1).toNat)
    case atStart => exact ⟨a.length, by omega, rfl, ⟨0, rfl⟩, show a.drop a.length = b.drop a.length by rw [List.drop_of_length_le (by omega), List.drop_of_length_le (by have := HLen.out; omega)]⟩
    case round =>
      obtain ⟨j, hj, rfl, ⟨n, rfl⟩, HD⟩ := hrel
      cases j with
      | zero =>
        have HR : Hid (sgI ((val a : Int) - val b) = 0) := show sgI ((val a : Int) - val b) = 0 by
          have : a = b := by simpa using HD.out
          rw [this]; unfold sgI; simp
        go_wp2_with fail
        go_ret
        exact ⟨by rw [HR.out]; rfl, Mod.same n _ w⟩
      | succ j =>
        have hja : j < a.length := by omega
        have hjb : j < b.length := by have := HLen.out; omega
        have e1 : ((j + 1 : Nat) : Int) - 1 = (j : Int) := by omega
        rw [e1]
        clear e1
        obtain ⟨ga, rfl, ca⟩ := ivs_cell hU rfl hja
        obtain ⟨gb, rfl, cb⟩ := ivs_cell hV rfl hjb
        have hda := ha _ (List.getElem_mem hja)
        have hdb := hb _ (List.getElem_mem hjb)
        have i1 : (0 : Int) ≤ (j : Int) := by omega
        have i2 : (j : Int) < (a.length : Int) := by omega
        have i3 : (j : Int) < (b.length : Int) := by omega
        rcases Nat.lt_trichotomy a[j] b[j] with hc | hc | hc
        · have HR : Hid (sgI ((val a : Int) - val b) = -1) := show sgI ((val a : Int) - val b) = -1 by
            have := val_cmp j ha HLen.out hja hc HD.out
            unfold sgI; rw [if_pos (by omega)]
          go_wp2_with fail
          go_quiet (fail)
          go_wp2_with fail
          go_ret
          exact ⟨by rw [HR.out]; rfl, by rw [World.drewN_drewN]; exact Mod.same _ _ w⟩
        · have HE : Hid (a.drop j = b.drop j) := show a.drop j = b.drop j by rw [List.drop_eq_getElem_cons hja, List.drop_eq_getElem_cons hjb, HD.out, hc]
          have h1 : ¬ ((a[j] : Int) < (b[j] : Int)) := by omega
          have h2 : ¬ ((b[j] : Int) < (a[j] : Int)) := by omega
          clear hc
          go_wp2_with fail
          go_quiet (fail)
          go_wp2_with fail
          go_quiet (fail)
          go_wp2_with fail
          go_roundw
          case rel => exact ⟨j, by omega, by go_num, ⟨_, rfl⟩, HE⟩
          case measure => simp [intOf]
        · have HR : Hid (sgI ((val a : Int) - val b) = 1) := show sgI ((val a : Int) - val b) = 1 by
            have := val_cmp j hb HLen.out.symm hjb hc HD.out.symm
            unfold sgI; rw [if_neg (by omega), if_neg (by omega)]
          have h1 : ¬ ((a[j] : Int) < (b[j] : Int)) := by omega
          go_wp2_with fail
          go_quiet (fail)
          go_wp2_with fail
          go_quiet (fail)
          go_wp2_with fail
          go_ret
          exact ⟨by rw [HR.out]; rfl, by rw [World.drewN_drewN, World.drewN_drewN]; exact Mod.same _ _ w⟩
  · have hb1 : ((a.length : Int) != (b.length : Int)) = true := by rw [bne_iff_ne]; omega
    by_cases hlt : a.length < b.length
    · have HR : Hid (sgI ((val a : Int) - val b) = -1) := show sgI ((val a : Int) - val b) = -1 by
        have := val_shorter ha htb hlt
        unfold sgI; rw [if_pos (by omega)]
      go_enter Tryz.func170, Tryz.ntmps170
      go_wp2_with fail
      go_ret
      exact ⟨by rw [HR.out]; rfl, Mod.refl _ _⟩
    · have HR : Hid (sgI ((val a : Int) - val b) = 1) := show sgI ((val a : Int) - val b) = 1 by
        have := val_shorter hb hta (by omega)
        unfold sgI; rw [if_neg (by omega), if_neg (by omega)]
      go_enter Tryz.func170, Tryz.ntmps170
      go_wp2_with fail
      go_ret
      exact ⟨by rw [HR.out]; rfl, Mod.refl _ _⟩
end Go.Proofs.YtmnfndpbblpjiaaGreatDoor

/- The document's look at a step: proper, right. -/
import Derived.Test.YtmnfndpbblpjiaaGreatDoorRv2
namespace Go.Proofs.YtmnfndpbblpjiaaGreatDoor
open Go.RowKit Pu

set_option maxHeartbeats 1600000 in
set_option maxRecDepth 100000 in
theorem proper_any (t : Stp) (regs ins : Nat) (w : World) (hs : Small t) (_hr : regs < 256) (_hn : ins < 256) : Calls Tryz.prog 115 #[st4 t, .int .i64 regs, .int .i64 ins] w fun e w' => e = .returned (.bool (properB t regs ins)) ∧ Mod (fun _ => False) w w' := by
  obtain ⟨s0, s1, s2, s3⟩ := hs
  have hm0 : Mod (fun _ => False) w (w.alloc (.cells #[.int .i64 t.op, .int .i64 t.x, .int .i64 t.y, .int .i64 t.z] 114)) := (Mod.refl _ w).alloc _
  have HP : Hid (properB t regs ins = if 7 < t.op ∨ regs ≤ t.x then false else if t.op = 0 ∧ ins ≤ t.y then false else if t.op = 6 ∧ t.y ≠ 0 then false else if t.op = 7 then decide (t.y < 3) && decide (t.z < 16) else decide (t.z = 0) || (decide (2 ≤ t.op) && decide (t.op ≤ 4))) := rfl
  generalize properB t regs ins = pb at *
  obtain ⟨op, x, y, z⟩ := t
  simp only at s0 s1 s2 s3 HP ⊢
  by_cases h7 : 7 < op
  · have HR : Hid (pb = false) := show pb = false by rw [HP.out, if_pos (.inl h7)]
    clear HP
    go_enter Tryz.func115, Tryz.ntmps115
    go_wp2_with fail
    go_ret
    exact ⟨by rw [HR.out]; rfl, hm0⟩
  · by_cases hx : regs ≤ x
    · have HR : Hid (pb = false) := show pb = false by rw [HP.out, if_pos (.inr hx)]
      clear HP
      go_enter Tryz.func115, Tryz.ntmps115
      go_wp2_with fail
      go_ret
      exact ⟨by rw [HR.out]; rfl, hm0⟩
    · have HP1 : Hid (pb = if op = 0 ∧ ins ≤ y then false else if op = 6 ∧ y ≠ 0 then false else if op = 7 then decide (y < 3) && decide (z < 16) else decide (z = 0) || (decide (2 ≤ op) && decide (op ≤ 4))) := show pb = _ by rw [HP.out, if_neg (by omega)]
      clear HP
      by_cases h0 : op = 0
      · by_cases hy : ins ≤ y
        · have HR : Hid (pb = false) := show pb = false by rw [HP1.out, if_pos ⟨h0, hy⟩]
          have hb : ((op : Int) == 0) = true := beq_t (m := 0) h0
          clear HP1 h0
          go_enter Tryz.func115, Tryz.ntmps115
          go_wp2_with fail
          go_ret
          exact ⟨by rw [HR.out]; rfl, hm0⟩
        · have HR : Hid (pb = decide (z = 0)) := show pb = decide (z = 0) by rw [HP1.out, if_neg (by omega), if_neg (by omega), if_neg (by omega)]; simp [h0]
          clear HP1
          subst h0
          by_cases hz : z = 0
          · have hzb : ((z : Int) == 0) = true := beq_t (m := 0) hz
            have HR2 : Hid (pb = true) := show pb = true by rw [HR.out]; simpa using hz
            clear hz HR
            go_enter Tryz.func115, Tryz.ntmps115
            go_wp2_with fail
            go_ret
            exact ⟨by rw [HR2.out]; rfl, hm0⟩
          · have hzb : ((z : Int) == 0) = false := beq_f (m := 0) hz
            have HR2 : Hid (pb = false) := show pb = false by rw [HR.out]; simpa using hz
            clear HR
            go_enter Tryz.func115, Tryz.ntmps115
            go_wp2_with fail
            go_ret
            exact ⟨by rw [HR2.out]; rfl, hm0⟩
      · have b0 : ((op : Int) == 0) = false := beq_f (m := 0) h0
        by_cases h6 : op = 6
        · subst h6
          by_cases hy : y = 0
          · have HR : Hid (pb = decide (z = 0)) := show pb = decide (z = 0) by rw [HP1.out, if_neg (by omega), if_neg (by omega), if_neg (by omega)]; simp
            have hyb : ((y : Int) != 0) = false := by rw [hy]; rfl
            clear HP1 hy
            by_cases hz : z = 0
            · have hzb : ((z : Int) == 0) = true := beq_t (m := 0) hz
              have HR2 : Hid (pb = true) := show pb = true by rw [HR.out]; simpa using hz
              clear hz HR
              go_enter Tryz.func115, Tryz.ntmps115
              go_wp2_with fail
              go_ret
              exact ⟨by rw [HR2.out]; rfl, hm0⟩
            · have hzb : ((z : Int) == 0) = false := beq_f (m := 0) hz
              have HR2 : Hid (pb = false) := show pb = false by rw [HR.out]; simpa using hz
              clear HR
              go_enter Tryz.func115, Tryz.ntmps115
              go_wp2_with fail
              go_ret
              exact ⟨by rw [HR2.out]; rfl, hm0⟩
          · have HR : Hid (pb = false) := show pb = false by rw [HP1.out, if_neg (by omega), if_pos ⟨rfl, hy⟩]
            have hyb : ((y : Int) != 0) = true := by rw [bne_iff_ne]; omega
            clear HP1
            go_enter Tryz.func115, Tryz.ntmps115
            go_wp2_with fail
            go_ret
            exact ⟨by rw [HR.out]; rfl, hm0⟩
        · have b6 : ((op : Int) == 6) = false := beq_f (m := 6) h6
          by_cases h7e : op = 7
          · have HR : Hid (pb = (decide (y < 3) && decide (z < 16))) := show pb = _ by rw [HP1.out, if_neg (by omega), if_neg (by omega), if_pos h7e]
            subst h7e
            clear HP1
            by_cases hy : y < 3
            · have HR2 : Hid (pb = decide ((z : Int) < 16)) := show pb = _ by rw [HR.out, Bool.eq_iff_iff]; simp [hy]; omega
              clear HR
              go_enter Tryz.func115, Tryz.ntmps115
              go_wp2_with fail
              go_ret
              exact ⟨by rw [HR2.out]; rfl, hm0⟩
            · have HR2 : Hid (pb = false) := show pb = _ by rw [HR.out]; simp [hy]
              clear HR
              go_enter Tryz.func115, Tryz.ntmps115
              go_wp2_with fail
              go_ret
              exact ⟨by rw [HR2.out]; rfl, hm0⟩
          · have HR : Hid (pb = (decide (z = 0) || (decide (2 ≤ op) && decide (op ≤ 4)))) := show pb = _ by rw [HP1.out, if_neg (by omega), if_neg (by omega), if_neg h7e]
            have b7 : ((op : Int) == 7) = false := beq_f (m := 7) h7e
            clear HP1
            by_cases hz : z = 0
            · have hzb : ((z : Int) == 0) = true := beq_t (m := 0) hz
              have HR2 : Hid (pb = true) := show pb = true by rw [HR.out]; simp [hz]
              clear hz HR
              go_enter Tryz.func115, Tryz.ntmps115
              go_wp2_with fail
              go_ret
              exact ⟨by rw [HR2.out]; rfl, hm0⟩
            · have hzb : ((z : Int) == 0) = false := beq_f (m := 0) hz
              by_cases h2 : 2 ≤ op
              · have HR2 : Hid (pb = decide ((op : Int) ≤ 4)) := show pb = _ by rw [HR.out, Bool.eq_iff_iff]; simp [hz, h2]; omega
                clear HR
                go_enter Tryz.func115, Tryz.ntmps115
                go_wp2_with fail
                go_ret
                exact ⟨by rw [HR2.out]; rfl, hm0⟩
              · have HR2 : Hid (pb = false) := show pb = false by rw [HR.out]; simp [hz, h2]
                clear HR
                go_enter Tryz.func115, Tryz.ntmps115
                go_wp2_with fail
                go_ret
                exact ⟨by rw [HR2.out]; rfl, hm0⟩

theorem ivs_cell {w : World} {base n : Nat} {ao : Option Addr} {cap : Nat} {l : List Nat} (h : w.ownsRow base 3 1 (.slice ao n cap) n (ivs l)) (hn : n = l.length) {k : Nat} (hk : k < l.length) :
    ∃ gb, ao = some ⟨gb, 0, none⟩ ∧ w.cell? ⟨gb, k, none⟩ = some (.int .i64 (l[k] : Int)) := by
  subst hn
  obtain ⟨gb, rfl, hc⟩ := owns_cell h (j := k) (by omega)
  exact ⟨gb, rfl, by rw [hc]; simp [ivs, hk]⟩
theorem reads_small {t : Stp} (h : Small t) : ∀ r ∈ readsOf t, r < 256 := by
  obtain ⟨h0, h1, h2, h3⟩ := h
  intro r hr
  unfold readsOf at hr
  simp only [List.mem_append] at hr
  rcases hr with (hr | hr) | hr <;> split at hr <;> simp at hr <;> omega

set_option maxHeartbeats 1600000 in
set_option maxRecDepth 100000 in
theorem right_any (v : Value) (l : List Stp) (k regs ins base : Nat) (w : World) (hl : l.length ≤ 3000) (hk : k < l.length) (hL : TLst w base v l) (hsm : ∀ t ∈ l, Small t) (hr : regs < 256) (hn : ins < 256) :
    Calls Tryz.prog 69 #[v, .int .i64 k, .int .i64 regs, .int .i64 ins] w fun e w' => e = .returned (.bool (rightB l k l[k] regs ins)) ∧ Mod (fun _ => False) w w' := by
  obtain ⟨ao, cap, rfl, -⟩ := owns_form hL
  obtain ⟨gb, rfl, c0, c1, c2, c3⟩ := hL.cell hk
  have hs := hsm _ (List.getElem_mem hk)
  have HSM : Hid (∀ t ∈ l, Small t) := hsm
  clear hsm
  have hrl := readsOf_len l[k]
  have hrs := reads_small hs
  have HRS : Hid (∀ r ∈ readsOf l[k], r < 256) := hrs
  clear hrs
  have HB : Hid (rightB l k l[k] regs ins = (properB l[k] regs ins && (readsOf l[k]).all fun r => decide (r < regs) && decide (0 ≤ setterI l r k))) := rfl
  generalize rightB l k l[k] regs ins = rb at *
  generalize l[k] = t at *
  cases hp : properB t regs ins with
  | false =>
    have HR : Hid (rb = false) := show rb = false by rw [HB.out, hp]; rfl
    go_enter Tryz.func69, Tryz.ntmps69
    go_wp2_with fail
    refine (proper_any t regs ins _ hs hr hn).mono ?_
    rintro e w1 ⟨rfl, hm1⟩
    go_wp2_with fail
    go_ret
    exact ⟨by rw [HR.out]; rfl, hm1⟩
  | true =>
    have HB2 : Hid (rb = (readsOf t).all fun r => decide (r < regs) && decide (0 ≤ setterI l r k)) := show rb = _ by rw [HB.out, hp]; rfl
    clear HB
    go_enter Tryz.func69, Tryz.ntmps69
    go_wp2_with fail
    refine (proper_any t regs ins _ hs hr hn).mono ?_
    rintro e w1 ⟨rfl, hm1⟩
    have hL1 := hL.mod hm1
    have hbe : w1.heap[gb]? = w.heap[gb]? := hm1.block gb (by obtain ⟨_, h | ⟨_, _, _, he, _, hb, _⟩⟩ := hL; (· cases h.1); cases he; exact lt_of_block hb) (fun f => f)
    have d0 := (World.cell?_of_block (a := ⟨gb, k * 4, none⟩) hbe).trans c0
    have d1 := (World.cell?_of_block (a := ⟨gb, k * 4 + 1, none⟩) hbe).trans c1
    have d2 := (World.cell?_of_block (a := ⟨gb, k * 4 + 2, none⟩) hbe).trans c2
    have d3 := (World.cell?_of_block (a := ⟨gb, k * 4 + 3, none⟩) hbe).trans c3
    clear c0 c1 c2 c3 hbe hL
    go_wp2_with fail
    refine (reads_any t _ hs).mono ?_
    rintro e w2 ⟨hm2, v2, rfl, hown⟩
    have hL2 := hL1.mod hm2
    have hm := hm1.trans hm2
    clear d0 d1 d2 d3 hL1 hm1 hm2
    generalize readsOf t = rs at *
    obtain ⟨ao2, cap2, rfl, -⟩ := owns_form hown
    go_wp2_with fail
    go_loop [11] (fun i => ∃ j : Nat, j ≤ rs.length ∧ i = .int .i64 j ∧ Hid (∀ q (hq : q < rs.length), q < j → rs[q] < regs ∧ 0 ≤ setterI l rs[q] k)) (fun i => rs.length - (intOf i).toNat)
    case atStart => exact ⟨0, by omega, rfl, fun q hq h => by omega⟩
    case round =>
      obtain ⟨j, hj, rfl, HN⟩ := hrel
      by_cases hlt : j < rs.length
      · obtain ⟨rb2, rfl, cj⟩ := ivs_cell hown rfl hlt
        have hrj := HRS.out _ (List.getElem_mem hlt)
        by_cases hreg : rs[j] < regs
        · have hsg := setterI_ge l rs[j] k
          have hsl := setterI_lt l rs[j] k
          by_cases hset : 0 ≤ setterI l rs[j] k
          · have HS : Hid (0 ≤ setterI l rs[j] k) := hset
            have hb : decide (setterI l rs[j] k < 0) = false := by simp; exact hset
            go_wp2_with fail
            refine (setter_any (.slice (some ⟨gb, 0, none⟩) l.length cap) l k rs[j] base w2 hl (by omega) hL2 HSM.out hrj).mono ?_
            rintro e w3 ⟨rfl, rfl⟩
            go_wp2_with fail
            go_round
            case rel => exact ⟨j + 1, by omega, by go_num, fun q hq h => by by_cases e : q = j; (· subst e; exact ⟨hreg, HS.out⟩); exact HN.out q hq (by omega)⟩
            case measure => simp [intOf]; omega
          · have HR : Hid (rb = false) := show rb = false by
              rw [HB2.out, Bool.eq_false_iff, ne_eq, List.all_eq_true]
              intro H
              have := H rs[j] (List.getElem_mem hlt)
              simp at this
              exact hset this.2
            have hb : decide (setterI l rs[j] k < 0) = true := by simp; omega
            go_wp2_with fail
            refine (setter_any (.slice (some ⟨gb, 0, none⟩) l.length cap) l k rs[j] base w2 hl (by omega) hL2 HSM.out hrj).mono ?_
            rintro e w3 ⟨rfl, rfl⟩
            go_wp2_with fail
            go_ret
            exact ⟨by rw [HR.out]; rfl, hm⟩
        · have HR : Hid (rb = false) := show rb = false by
            rw [HB2.out, Bool.eq_false_iff, ne_eq, List.all_eq_true]
            intro H
            have := H rs[j] (List.getElem_mem hlt)
            simp at this
            exact hreg this.1
          go_wp2_with fail
          go_ret
          exact ⟨by rw [HR.out]; rfl, hm⟩
      · have HR : Hid (rb = true) := show rb = true by
          rw [HB2.out, List.all_eq_true]
          intro r hr
          obtain ⟨q, hq, rfl⟩ := List.getElem_of_mem hr
          have := HN.out q hq (by omega)
          simp [this.1, this.2]
        go_wp2_with fail
        go_ret
        exact ⟨by rw [HR.out]; rfl, hm⟩
end Go.Proofs.YtmnfndpbblpjiaaGreatDoor

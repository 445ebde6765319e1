/- The document's look at a step: proper, right. -/
import Derived.Test.YtmnfndpbblpjiabGreatDoorZb02
import Derived.Test.YtmnfndpbblpjiabGreatDoorZb01
namespace Go.Proofs.YtmnfndpbblpjiabGreatDoor
open Go.RowKit Pu

set_option maxHeartbeats 1600000 in
set_option maxRecDepth 100000 in
theorem proper_any (t : Stp) (regs ins : Nat) (w : World) (hs : Small t) (_hr : regs < 256) (_hn : ins < 256) : Calls Tryz.prog 150 #[st4 t, .int .i64 regs, .int .i64 ins] w fun e w' => e = .returned (.bool (properB t regs ins)) ∧ Mod (fun _ => False) w w' := by
  obtain ⟨s0, s1, s2, s3⟩ := hs
  have hm0 : Mod (fun _ => False) w (w.alloc (.cells #[.int .i64 t.op, .int .i64 t.x, .int .i64 t.y, .int .i64 t.z] 152)) := (Mod.refl _ w).alloc _
  have HP : Hid (properB t regs ins = if 7 < t.op ∨ regs ≤ t.x then false else if t.op = 0 ∧ ins ≤ t.y then false else if t.op = 6 ∧ t.y ≠ 0 then false else if t.op = 7 then decide (t.y < 3) && decide (t.z < 16) else decide (t.z = 0) || (decide (2 ≤ t.op) && decide (t.op ≤ 4))) := rfl
  generalize properB t regs ins = pb at *
  obtain ⟨op, x, y, z⟩ := t
  simp only at s0 s1 s2 s3 HP ⊢
  by_cases h7 : 7 < op
  · have HR : Hid (pb = false) := show pb = false by rw [HP.out, if_pos (.inl h7)]
    clear HP
    go_enter Tryz.func150, Tryz.ntmps150
    go_wp2_with fail
    go_ret
    exact ⟨by rw [HR.out]; rfl, hm0⟩
  · by_cases hx : regs ≤ x
    · have HR : Hid (pb = false) := show pb = false by rw [HP.out, if_pos (.inr hx)]
      clear HP
      go_enter Tryz.func150, Tryz.ntmps150
      go_wp2_with fail
      go_ret
      exact ⟨by rw [HR.out]; rfl, hm0⟩
    · have HP1 : Hid (pb = if op = 0 ∧ ins ≤ y then false else if op = 6 ∧ y ≠ 0 then false else if op = 7 then decide (y < 3) && decide (z < 16) else decide (z = 0) || (decide (2 ≤ op) && decide (op ≤ 4))) := show pb = _ by rw [HP.out, if_neg (by omega)]
      clear HP
      by_cases h0 : op = 0
      · by_cases hy : ins ≤ y
        · have HR : Hid (pb = false) := show pb = false by rw [HP1.out, if_pos ⟨h0, hy⟩]
          have hb : ((op : Int) == 0) = true := beq_t (m := 0) h0
          clear HP1 h0
          go_enter Tryz.func150, Tryz.ntmps150
          go_wp2_with fail
          go_ret
          exact ⟨by rw [HR.out]; rfl, hm0⟩
        · have HR : Hid (pb = decide (z = 0)) := show pb = decide (z = 0) by rw [HP1.out, if_neg (by omega), if_neg (by omega), if_neg (by omega)]; simp [h0]
          clear HP1
          subst h0
          by_cases hz : z = 0
          · have hzb : ((z : Int) == 0) = true := beq_t (m := 0) hz
            have HR2 : Hid (pb = true) := show pb = true by rw [HR.out]; simpa using hz
            clear hz HR
            go_enter Tryz.func150, Tryz.ntmps150
            go_wp2_with fail
            go_ret
            exact ⟨by rw [HR2.out]; rfl, hm0⟩
          · have hzb : ((z : Int) == 0) = false := beq_f (m := 0) hz
            have HR2 : Hid (pb = false) := show pb = false by rw [HR.out]; simpa using hz
            clear HR
            go_enter Tryz.func150, Tryz.ntmps150
            go_wp2_with fail
            go_ret
            exact ⟨by rw [HR2.out]; rfl, hm0⟩
      · have b0 : ((op : Int) == 0) = false := beq_f (m := 0) h0
        by_cases h6 : op = 6
        · subst h6
          by_cases hy : y = 0
          · have HR : Hid (pb = decide (z = 0)) := show pb = decide (z = 0) by rw [HP1.out, if_neg (by omega), if_neg (by omega), if_neg (by omega)]; simp
            have hyb : ((y : Int) != 0) = false := by rw [hy]; rfl
            clear HP1 hy
            by_cases hz : z = 0
            · have hzb : ((z : Int) == 0) = true := beq_t (m := 0) hz
              have HR2 : Hid (pb = true) := show pb = true by rw [HR.out]; simpa using hz
              clear hz HR
              go_enter Tryz.func150, Tryz.ntmps150
              go_wp2_with fail
              go_ret
              exact ⟨by rw [HR2.out]; rfl, hm0⟩
            · have hzb : ((z : Int) == 0) = false := beq_f (m := 0) hz
              have HR2 : Hid (pb = false) := show pb = false by rw [HR.out]; simpa using hz
              clear HR
              go_enter Tryz.func150, Tryz.ntmps150
              go_wp2_with fail
              go_ret
              exact ⟨by rw [HR2.out]; rfl, hm0⟩
          · have HR : Hid (pb = false) := show pb = false by rw [HP1.out, if_neg (by omega), if_pos ⟨rfl, hy⟩]
            have hyb : ((y : Int) != 0) = true := by rw [bne_iff_ne]; omega
            clear HP1
            go_enter Tryz.func150, Tryz.ntmps150
            go_wp2_with fail
            go_ret
            exact ⟨by rw [HR.out]; rfl, hm0⟩
        · have b6 : ((op : Int) == 6) = false := beq_f (m := 6) h6
          by_cases h7e : op = 7
          · have HR : Hid (pb = (decide (y < 3) && decide (z < 16))) := show pb = _ by rw [HP1.out, if_neg (by omega), if_neg (by omega), if_pos h7e]
            subst h7e
            clear HP1
            by_cases hy : y < 3
            · have HR2 : Hid (pb = decide ((z : Int) < 16)) := show pb = _ by rw [HR.out, Bool.eq_iff_iff]; simp [hy]; omega
              clear HR
              go_enter Tryz.func150, Tryz.ntmps150
              go_wp2_with fail
              go_ret
              exact ⟨by rw [HR2.out]; rfl, hm0⟩
            · have HR2 : Hid (pb = false) := show pb = _ by rw [HR.out]; simp [hy]
              clear HR
              go_enter Tryz.func150, Tryz.ntmps150
              go_wp2_with fail
              go_ret
              exact ⟨by rw [HR2.out]; rfl, hm0⟩
          · have HR : Hid (pb = (decide (z = 0) || (decide (2 ≤ op) && decide (op ≤ 4)))) := show pb = _ by rw [HP1.out, if_neg (by omega), if_neg (by omega), if_neg h7e]
            have b7 : ((op : Int) == 7) = false := beq_f (m := 7) h7e
            clear HP1
            by_cases hz : z = 0
            · have hzb : ((z : Int) == 0) = true := beq_t (m := 0) hz
              have HR2 : Hid (pb = true) := show pb = true by rw [HR.out]; simp [hz]
              clear hz HR
              go_enter Tryz.func150, Tryz.ntmps150
              go_wp2_with fail
              go_ret
              exact ⟨by rw [HR2.out]; rfl, hm0⟩
            · have hzb : ((z : Int) == 0) = false := beq_f (m := 0) hz
              by_cases h2 : 2 ≤ op
              · have HR2 : Hid (pb = decide ((op : Int) ≤ 4)) := show pb = _ by rw [HR.out, Bool.eq_iff_iff]; simp [hz, h2]; omega
                clear HR
                go_enter Tryz.func150, Tryz.ntmps150
                go_wp2_with fail
                go_ret
                exact ⟨by rw [HR2.out]; rfl, hm0⟩
              · have HR2 : Hid (pb = false) := show pb = false by rw [HR.out]; simp [hz, h2]
                clear HR
                go_enter Tryz.func150, Tryz.ntmps150
                go_wp2_with fail
                go_ret
                exact ⟨by rw [HR2.out]; rfl, hm0⟩

theorem ivs_cell {w : World} {base n : Nat} {ao : Option Addr} {cap : Nat} {l : List Nat} (h : w.ownsRow base 3 1 (.slice ao n cap) n (ivs l)) (hn : n = l.length) {k : Nat} (hk : k < l.length) :
    ∃ gb, ao = some ⟨gb, 0, none⟩ ∧ w.cell? ⟨gb, k, none⟩ = some (.int .i64 (l[k] : Int)) := by
  subst hn
  obtain ⟨gb, rfl, hc⟩ := owns_cell h (j := k) (by omega)
  exact ⟨gb, rfl, by rw [hc]; simp [ivs, hk]⟩
theorem reads_small {t : Stp} (h : Small t) : ∀ r ∈ readsOf t, r < 256 := by
  obtain ⟨h0, h1, h2, h3⟩ := h
  intro r hr
  unfold readsOf at hr
  simp only [List.mem_append] at hr
  rcases hr with (hr | hr) | hr <;> split at hr <;> simp at hr <;> omega

set_option maxHeartbeats 1600000 in
set_option maxRecDepth 100000 in
theorem right_any (v : Value) (l : List Stp) (k regs ins base : Nat) (w : World) (hl : l.length ≤ 3000) (hk : k < l.length) (hL : TLst w base v l) (hsm : ∀ t ∈ l, Small t) (hr : regs < 256) (hn : ins < 256) :
    Calls Tryz.prog 102 #[v, .int .i64 k, .int .i64 regs, .int .i64 ins] w fun e w' => e = .returned (.bool (rightB l k l[k] regs ins)) ∧ Mod (fun _ => False) w w' := by
  obtain ⟨ao, cap, rfl, -⟩ := owns_form hL
  obtain ⟨gb, rfl, c0, c1, c2, c3⟩ := hL.cell hk
  have hs := hsm _ (List.getElem_mem hk)
  have HSM : Hid (∀ t ∈ l, Small t) := hsm
  clear hsm
  have hrl := readsOf_len l[k]
  have hrs := reads_small hs
  have HRS : Hid (∀ r ∈ readsOf l[k], r < 256) := hrs
  clear hrs
  have HB : Hid (rightB l k l[k] regs ins = (properB l[k] regs ins && (readsOf l[k]).all fun r => decide (r < regs) && decide (0 ≤ setterI l r k))) := rfl
  generalize rightB l k l[k] regs ins = rb at *
  generalize l[k] = t at *
  cases hp : properB t regs ins with
  | false =>
    have HR : Hid (rb = false) := show rb = false by rw [HB.out, hp]; rfl
    go_enter Tryz.func102, Tryz.ntmps102
    go_wp2_with fail
    refine (proper_any t regs ins _ hs hr hn).mono ?_
    rintro e w1 ⟨rfl, hm1⟩
    go_wp2_with fail
    go_ret
    exact ⟨by rw [HR.out]; rfl, hm1⟩
  | true =>
    have HB2 : Hid (rb = (readsOf t).all fun r => decide (r < regs) && decide (0 ≤ setterI l r k)) := show rb = _ by rw [HB.out, hp]; rfl
    clear HB
    go_enter Tryz.func102, Tryz.ntmps102
    go_wp2_with fail
    refine (proper_any t regs ins _ hs hr hn).mono ?_
    rintro e w1 ⟨rfl, hm1⟩
    have hL1 := hL.mod hm1
    have hbe : w1.heap[gb]? = w.heap[gb]? := hm1.block gb (by obtain ⟨_, h | ⟨_, _, _, he, _, hb, _⟩⟩ := hL; (· cases h.1); cases he; exact lt_of_block hb) (fun f => f)
    have d0 := (World.cell?_of_block (a := ⟨gb, k * 4, none⟩) hbe).trans c0
    have d1 := (World.cell?_of_block (a := ⟨gb, k * 4 + 1, none⟩) hbe).trans c1
    have d2 := (World.cell?_of_block (a := ⟨gb, k * 4 + 2, none⟩) hbe).trans c2
    have d3 := (World.cell?_of_block (a := ⟨gb, k * 4 + 3, none⟩) hbe).trans c3
    clear c0 c1 c2 c3 hbe hL
    go_wp2_with fail
    refine (reads_any t _ hs).mono ?_
    rintro e w2 ⟨hm2, v2, rfl, hown⟩
    have hL2 := hL1.mod hm2
    have hm := hm1.trans hm2
    clear d0 d1 d2 d3 hL1 hm1 hm2
    generalize readsOf t = rs at *
    obtain ⟨ao2, cap2, rfl, -⟩ := owns_form hown
    go_wp2_with fail
    go_loop [11] (fun i => ∃ j : Nat, j ≤ rs.length ∧ i = .int .i64 j ∧ Hid (∀ q (hq : q < rs.length), q < j → rs[q] < regs ∧ 0 ≤ setterI l rs[q] k)) (fun i => rs.length - (intOf i).toNat)
    case atStart => exact ⟨0, by omega, rfl, fun q hq h => by omega⟩
    case round =>
      obtain ⟨j, hj, rfl, HN⟩ := hrel
      by_cases hlt : j < rs.length
      · obtain ⟨rb2, rfl, cj⟩ := ivs_cell hown rfl hlt
        have hrj := HRS.out _ (List.getElem_mem hlt)
        by_cases hreg : rs[j] < regs
        · have hsg := setterI_ge l rs[j] k
          have hsl := setterI_lt l rs[j] k
          by_cases hset : 0 ≤ setterI l rs[j] k
          · have HS : Hid (0 ≤ setterI l rs[j] k) := hset
            have hb : decide (setterI l rs[j] k < 0) = false := by simp; exact hset
            go_wp2_with fail
            refine (setter_any (.slice (some ⟨gb, 0, none⟩) l.length cap) l k rs[j] base w2 hl (by omega) hL2 HSM.out hrj).mono ?_
            rintro e w3 ⟨rfl, rfl⟩
            go_wp2_with fail
            go_round
            case rel => exact ⟨j + 1, by omega, by go_num, fun q hq h => by by_cases e : q = j; (· subst e; exact ⟨hreg, HS.out⟩); exact HN.out q hq (by omega)⟩
            case measure => simp [intOf]; omega
          · have HR : Hid (rb = false) := show rb = false by
              rw [HB2.out, Bool.eq_false_iff, ne_eq, List.all_eq_true]
              intro H
              have := H rs[j] (List.getElem_mem hlt)
              simp at this
              exact hset this.2
            have hb : decide (setterI l rs[j] k < 0) = true := by simp; omega
            go_wp2_with fail
            refine (setter_any (.slice (some ⟨gb, 0, none⟩) l.length cap) l k rs[j] base w2 hl (by omega) hL2 HSM.out hrj).mono ?_
            rintro e w3 ⟨rfl, rfl⟩
            go_wp2_with fail
            go_ret
            exact ⟨by rw [HR.out]; rfl, hm⟩
        · have HR : Hid (rb = false) := show rb = false by
            rw [HB2.out, Bool.eq_false_iff, ne_eq, List.all_eq_true]
            intro H
            have := H rs[j] (List.getElem_mem hlt)
            simp at this
            exact hreg this.1
          go_wp2_with fail
          go_ret
          exact ⟨by rw [HR.out]; rfl, hm⟩
      · have HR : Hid (rb = true) := show rb = true by
          rw [HB2.out, List.all_eq_true]
          intro r hr
          obtain ⟨q, hq, rfl⟩ := List.getElem_of_mem hr
          have := HN.out q hq (by omega)
          simp [this.1, this.2]
        go_wp2_with fail
        go_ret
        exact ⟨by rw [HR.out]; rfl, hm⟩
end Go.Proofs.YtmnfndpbblpjiabGreatDoor

/- Whole numbers by digits to the base of 10000: plain functions. -/
namespace Go.Proofs.YtmnfndpbblpjiabGreatDoor.Pu

def val : List Nat → Nat
  | [] => 0
  | d :: l => d + 10000 * val l
def valI : List Int → Int
  | [] => 0
  | d :: l => d + 10000 * valI l
def Dig (l : List Nat) : Prop := ∀ d ∈ l, d < 10000
/-- No nought at the top. -/
def Top (l : List Nat) : Prop := ∀ d, l.getLast? = some d → d ≠ 0

theorem val_append (a b : List Nat) : val (a ++ b) = val a + 10000 ^ a.length * val b := by
  induction a with
  | nil => simp [val]
  | cons d a ih =>
    simp only [List.cons_append, val, List.length_cons, Nat.pow_succ, ih]
    rw [Nat.mul_add, Nat.mul_comm (10000 ^ a.length) 10000, Nat.mul_assoc]; omega
theorem valI_append (a b : List Int) : valI (a ++ b) = valI a + (10000 : Int) ^ a.length * valI b := by
  induction a with
  | nil => simp [valI]
  | cons d a ih =>
    simp only [List.cons_append, valI, List.length_cons, Int.pow_succ, ih]
    rw [Int.mul_add, Int.mul_comm ((10000 : Int) ^ a.length) 10000, Int.mul_assoc]; omega
theorem val_lt {a : List Nat} (h : Dig a) : val a < 10000 ^ a.length := by
  induction a with
  | nil => simp [val]
  | cons d a ih =>
    have h1 := ih (fun x hx => h x (List.mem_cons_of_mem _ hx))
    have h2 := h d List.mem_cons_self
    simp only [val, List.length_cons, Nat.pow_succ]
    omega
theorem val_top {a : List Nat} (ht : Top a) (hn : a ≠ []) : 10000 ^ (a.length - 1) ≤ val a := by
  obtain ⟨b, d, rfl⟩ : ∃ b d, a = b ++ [d] := ⟨a.dropLast, a.getLast hn, (List.dropLast_concat_getLast hn).symm⟩
  have hd : d ≠ 0 := ht d (by simp)
  rw [val_append]
  simp only [List.length_append, List.length_cons, List.length_nil, Nat.zero_add, Nat.add_sub_cancel, val, Nat.mul_zero, Nat.add_zero]
  have : 10000 ^ b.length * 1 ≤ 10000 ^ b.length * d := Nat.mul_le_mul_left _ (by omega)
  omega
theorem val_shorter {a b : List Nat} (ha : Dig a) (hb : Top b) (h : a.length < b.length) : val a < val b := by
  have h1 := val_lt ha
  have h2 := val_top hb (by intro e; subst e; simp at h)
  have h3 : 10000 ^ a.length ≤ 10000 ^ (b.length - 1) := Nat.pow_le_pow_right (by omega) (by omega)
  omega
theorem val_less {a b t : List Nat} {x y : Nat} (ha : Dig a) (hl : a.length = b.length) (hxy : x < y) : val (a ++ x :: t) < val (b ++ y :: t) := by
  rw [val_append, val_append, ← hl]
  have h1 := val_lt ha
  simp only [val]
  have h2 : 10000 ^ a.length * (x + 10000 * val t + 1) ≤ 10000 ^ a.length * (y + 10000 * val t) := Nat.mul_le_mul_left _ (by omega)
  rw [Nat.mul_add] at h2
  omega
theorem val_zero_top {l : List Nat} : val (l ++ [0]) = val l := by rw [val_append]; simp [val]
theorem val_nil {l : List Nat} (ht : Top l) (h : val l = 0) : l = [] := by
  by_cases hn : l = []
  · exact hn
  · have := val_top ht hn
    have : 0 < 10000 ^ (l.length - 1) := Nat.pow_pos (by omega)
    omega

/-- A number: its sign and its digits. -/
def num (neg : Bool) (l : List Nat) : Int := if neg then -(val l : Int) else (val l : Int)
def Canon (neg : Bool) (l : List Nat) : Prop := Dig l ∧ Top l ∧ (l = [] → neg = false)

theorem num_neg (neg : Bool) (l : List Nat) : num (!neg) l = -num neg l := by cases neg <;> simp [num]
theorem Canon.sign {neg : Bool} {l : List Nat} (h : Canon neg l) : (num neg l = 0 ↔ l = []) ∧ (num neg l < 0 ↔ neg = true) := by
  constructor
  · constructor
    · intro h0
      refine val_nil h.2.1 ?_
      unfold num at h0; cases neg <;> simp at h0 <;> omega
    · intro h0; subst h0; cases neg <;> simp [num, val]
  · constructor
    · intro h0; unfold num at h0; cases neg
      · simp at h0; omega
      · rfl
    · intro h0; subst h0
      have hn : l ≠ [] := fun e => by have := h.2.2 e; cases this
      have h1 := val_top h.2.1 hn
      have h2 : 0 < 10000 ^ (l.length - 1) := Nat.pow_pos (by omega)
      simp [num]; omega

theorem Dig.append {a b : List Nat} (ha : Dig a) (hb : Dig b) : Dig (a ++ b) := fun d hd => by
  rcases List.mem_append.1 hd with h | h
  · exact ha d h
  · exact hb d h
theorem valI_le {d : List Int} (h : ∀ x ∈ d, x ≤ 200000000000000000) : 9999 * valI d ≤ 200000000000000000 * ((10000 : Int) ^ d.length - 1) := by
  induction d with
  | nil => simp [valI]
  | cons x d ih =>
    have h1 := ih (fun y hy => h y (List.mem_cons_of_mem _ hy))
    have h2 := h x List.mem_cons_self
    simp only [valI, List.length_cons, Int.pow_succ]
    generalize (10000 : Int) ^ d.length = P at *
    omega

/-- How far the carrying has come. -/
def CInv (d : List Int) (k : Nat) (os : List Nat) (over : Int) : Prop :=
  os.length = k ∧ Dig os ∧ (val os : Int) + (10000 : Int) ^ k * (over + valI (d.drop k)) = valI d ∧ -100000000000000 ≤ over ∧ over ≤ 100000000000000
theorem CInv.start (d : List Int) : CInv d 0 [] 0 := ⟨rfl, fun _ h => by simp at h, by simp [val], by omega, by omega⟩
theorem valI_drop (d : List Int) (k : Nat) : valI (d.drop k) = d[k]?.getD 0 + 10000 * valI (d.drop (k + 1)) := by
  by_cases h : k < d.length
  · rw [List.drop_eq_getElem_cons h]; simp [valI, h]
  · rw [List.drop_of_length_le (by omega), List.drop_of_length_le (by omega)]; simp [valI, show d.length ≤ k by omega]
theorem CInv.step {d : List Int} {k : Nat} {os : List Nat} {over : Int} (h : CInv d k os over) (hd : ∀ x ∈ d, -200000000000000000 ≤ x ∧ x ≤ 200000000000000000) (n : Int) (hn : n = over + d[k]?.getD 0) :
    CInv d (k + 1) (os ++ [(n % 10000).toNat]) (n / 10000) := by
  obtain ⟨h1, h2, h3, h4, h5⟩ := h
  have hb : -200000000000000000 ≤ d[k]?.getD 0 ∧ d[k]?.getD 0 ≤ 200000000000000000 := by
    by_cases hk : k < d.length
    · simp [hk]; exact hd _ (List.getElem_mem hk)
    · simp [show d.length ≤ k by omega]
  have hm : ((n % 10000).toNat : Int) = n % 10000 := Int.toNat_of_nonneg (Int.emod_nonneg _ (by omega))
  refine ⟨by simp [h1], h2.append (fun x hx => by simp at hx; omega), ?_, by omega, by omega⟩
  have e : (val (os ++ [(n % 10000).toNat]) : Int) = (val os : Int) + (10000 : Int) ^ k * (n % 10000) := by
    rw [val_append, h1]
    simp only [val, Nat.mul_zero, Nat.add_zero]
    rw [Int.natCast_add, Int.natCast_mul, hm]
    congr 2
  rw [e, Int.pow_succ, Int.mul_assoc, Int.add_assoc, ← Int.mul_add]
  rw [← h3, valI_drop d k]
  congr 2
  have := Int.emod_add_mul_ediv n 10000
  omega
theorem CInv.finish {d : List Int} {k : Nat} {os : List Nat} {over : Int} (h : CInv d k os over) (hk : d.length ≤ k) (ho : over ≤ 0) (hd : 0 ≤ valI d) : (val os : Int) = valI d := by
  obtain ⟨h1, h2, h3, h4, h5⟩ := h
  rw [List.drop_of_length_le hk] at h3
  simp only [valI, Int.add_zero] at h3
  have hv := val_lt h2
  rw [h1] at hv
  have hp : (val os : Int) < (10000 : Int) ^ k := by
    have : ((10000 ^ k : Nat) : Int) = (10000 : Int) ^ k := by simp
    omega
  by_cases h0 : over = 0
  · rw [h0] at h3; simpa using h3
  · exfalso
    have : (10000 : Int) ^ k * over ≤ (10000 : Int) ^ k * (-1) := Int.mul_le_mul_of_nonneg_left (by omega) (by have : (0 : Int) < (10000 : Int) ^ k := Int.pow_pos (by omega); omega)
    omega
theorem CInv.bound {d : List Int} {k : Nat} {os : List Nat} {over : Int} (h : CInv d k os over) (hk : d.length ≤ k) (ho : 0 < over) (hd : ∀ x ∈ d, -200000000000000000 ≤ x ∧ x ≤ 200000000000000000) : k ≤ d.length + 3 := by
  obtain ⟨h1, h2, h3, h4, h5⟩ := h
  rw [List.drop_of_length_le hk] at h3
  simp only [valI, Int.add_zero] at h3
  have hl := valI_le (fun x hx => (hd x hx).2)
  have hp : (10000 : Int) ^ k * 1 ≤ (10000 : Int) ^ k * over := Int.mul_le_mul_of_nonneg_left (by omega) (by have : (0 : Int) < (10000 : Int) ^ k := Int.pow_pos (by omega); omega)
  by_cases hle : k ≤ d.length + 3
  · exact hle
  · exfalso
    have hm : (10000 : Int) ^ (d.length + 4) ≤ (10000 : Int) ^ k := by
      have : 10000 ^ (d.length + 4) ≤ 10000 ^ k := Nat.pow_le_pow_right (by omega) (by omega)
      have e1 : ((10000 ^ (d.length + 4) : Nat) : Int) = (10000 : Int) ^ (d.length + 4) := by simp
      have e2 : ((10000 ^ k : Nat) : Int) = (10000 : Int) ^ k := by simp
      omega
    have e4 : (10000 : Int) ^ (d.length + 4) = (10000 : Int) ^ d.length * 10000000000000000 := by rw [Int.pow_add]; rfl
    have hq : (0 : Int) < (10000 : Int) ^ d.length := Int.pow_pos (by omega)
    rw [e4] at hm
    generalize (10000 : Int) ^ d.length = P at *
    generalize (10000 : Int) ^ k = K at *
    generalize K * over = KO at *
    omega

end Go.Proofs.YtmnfndpbblpjiabGreatDoor.Pu

/- The document's numbers: Less, Sign, order, made. -/
namespace Go.Proofs.YtmnfndpbblpjiabGreatDoor
open Go.RowKit Pu

abbrev nm2 (nb : Bool) (v : Value) : Value := .agg #[.bool nb, v]
/-- A number in memory. -/
def Nm (w : World) (nb : Bool) (v : Value) (l : List Nat) : Prop := Canon nb l ∧ w.ownsRow 0 3 1 v l.length (ivs l)
theorem Nm.mod {w w' : World} {nb : Bool} {v : Value} {l : List Nat} (h : Nm w nb v l) (hm : Mod (fun _ => False) w w') : Nm w' nb v l := ⟨h.1, owns_mod h.2 hm (fun _ _ f => f)⟩
def lessB (nb : Bool) (l : List Nat) : Bool := !nb && decide (0 < l.length)
theorem less_canon {nb : Bool} {l : List Nat} (h : Canon nb l) : Canon (lessB nb l) l ∧ num (lessB nb l) l = -num nb l := by
  obtain ⟨h1, h2, h3⟩ := h
  cases l with
  | nil => have := h3 rfl; subst this; exact ⟨⟨h1, h2, fun _ => rfl⟩, by simp [lessB, num, val]⟩
  | cons d l => exact ⟨⟨h1, h2, fun e => by cases e⟩, by simp [lessB]; exact num_neg nb _⟩

set_option maxHeartbeats 800000 in
set_option maxRecDepth 100000 in
theorem less_any (nb : Bool) (v : Value) (l : List Nat) (w : World) (hN : Nm w nb v l) (_hl : l.length ≤ 2000000000) : Calls Tryz.prog 168 #[nm2 nb v] w fun e w' => e = .returned (nm2 (lessB nb l) v) ∧ Mod (fun _ => False) w w' := by
  have hcan := hN.1
  obtain ⟨ao, cap, rfl, -⟩ := owns_form hN.2
  clear hN
  cases nb with
  | true =>
    go_enter Tryz.func168, Tryz.ntmps168
    go_wp2_with fail
    exact bodyPost_ret (v := nm2 false (.slice ao l.length cap)) (by simp [results, Tryz.results168, go_sem]) rfl ⟨rfl, ((Mod.refl _ w).alloc _).alloc _⟩
  | false =>
    go_enter Tryz.func168, Tryz.ntmps168
    go_wp2_with fail
    exact bodyPost_ret (v := nm2 (lessB false l) (.slice ao l.length cap)) (by simp [results, Tryz.results168, go_sem, lessB]) rfl ⟨rfl, ((Mod.refl _ w).alloc _).alloc _⟩

def sgI (x : Int) : Int := if x < 0 then -1 else if x = 0 then 0 else 1
set_option maxHeartbeats 800000 in
set_option maxRecDepth 100000 in
theorem sign_any (nb : Bool) (v : Value) (l : List Nat) (w : World) (hN : Nm w nb v l) (hl : l.length ≤ 2000000000) : Calls Tryz.prog 107 #[nm2 nb v] w fun e w' => e = .returned (.int .i64 (sgI (num nb l))) ∧ Mod (fun _ => False) w w' := by
  have hcan := hN.1
  obtain ⟨ao, cap, rfl, -⟩ := owns_form hN.2
  have hsg := hcan.sign
  clear hN
  have hm0 : Mod (fun _ => False) w (w.alloc (.cells #[.bool nb, .slice ao l.length cap] 154)) := (Mod.refl _ w).alloc _
  by_cases h0 : l = []
  · have HR : Hid (sgI (num nb l) = 0) := show sgI (num nb l) = 0 by unfold sgI; rw [hsg.1.2 h0]; rfl
    have hb : ((l.length : Int) == 0) = true := by subst h0; rfl
    clear h0 hsg
    go_enter Tryz.func107, Tryz.ntmps107
    go_wp2_with fail
    go_ret
    exact ⟨by rw [HR.out]; rfl, hm0⟩
  · have hb : ((l.length : Int) == 0) = false := by rw [beq_eq_false_iff_ne]; have := List.length_pos_iff.2 h0; omega
    cases nb with
    | true =>
      have HR : Hid (sgI (num true l) = -1) := show sgI (num true l) = -1 by unfold sgI; rw [if_pos (hsg.2.2 rfl)]
      clear hsg
      go_enter Tryz.func107, Tryz.ntmps107
      go_wp2_with fail
      go_ret
      exact ⟨by rw [HR.out]; rfl, hm0⟩
    | false =>
      have HR : Hid (sgI (num false l) = 1) := show sgI (num false l) = 1 by
        unfold sgI; rw [if_neg (fun h => by have := hsg.2.1 h; cases this), if_neg (fun h => h0 (hsg.1.1 h))]
      clear hsg
      go_enter Tryz.func107, Tryz.ntmps107
      go_wp2_with fail
      go_ret
      exact ⟨by rw [HR.out]; rfl, hm0⟩

theorem val_cmp {a b : List Nat} (k : Nat) (ha : Dig a) (hl : a.length = b.length) (hk : k < a.length) (hlt : a[k] < b[k]'(by omega)) (he : a.drop (k + 1) = b.drop (k + 1)) : val a < val b := by
  have e1 : a = a.take k ++ a[k] :: a.drop (k + 1) := by rw [← List.drop_eq_getElem_cons hk, List.take_append_drop]
  have e2 : b = b.take k ++ b[k]'(by omega) :: b.drop (k + 1) := by rw [← List.drop_eq_getElem_cons (by omega), List.take_append_drop]
  rw [e1, e2, he]
  exact val_less (fun d hd => ha d (List.mem_of_mem_take hd)) (by simp; omega) hlt

set_option maxHeartbeats 800000 in
set_option maxRecDepth 100000 in
theorem order_any (u v : Value) (a b : List Nat) (w : World) (hU : w.ownsRow 0 3 1 u a.length (ivs a)) (hV : w.ownsRow 0 3 1 v b.length (ivs b)) (ha : Dig a) (hb : Dig b) (hta : Top a) (htb : Top b) (la : a.length ≤ 2000000000) (_lb : b.length ≤ 2000000000) :
    Calls Tryz.prog 184 #[u, v] w fun e w' => e = .returned (.int .i64 (sgI ((val a : Int) - val b))) ∧ Mod (fun _ => False) w w' := by
  obtain ⟨ao, acap, rfl, -⟩ := owns_form hU
  obtain ⟨bo, bcap, rfl, -⟩ := owns_form hV
  by_cases hlen : a.length = b.length
  · have HLen : Hid (a.length = b.length) := hlen
    have hb1 : ((a.length : Int) != (b.length : Int)) = false := by rw [hlen]; simp
    clear hlen
    go_enter Tryz.func184, Tryz.ntmps184
    go_wp2_with fail
    go_loopw [5] (fun i wr => ∃ j : Nat, j ≤ a.length ∧ i = .int .i64 ((j : Int) - 1) ∧ (∃ n, wr = w.drewN n) ∧ Hid (a.drop j = b.drop j)) (fun i _ => (intOf i + 1).toNat)
    case atStart => exact ⟨a.length, by omega, rfl, ⟨0, rfl⟩, show a.drop a.length = b.drop a.length by rw [List.drop_of_length_le (by omega), List.drop_of_length_le (by have := HLen.out; omega)]⟩
    case round =>
      obtain ⟨j, hj, rfl, ⟨n, rfl⟩, HD⟩ := hrel
      cases j with
      | zero =>
        have HR : Hid (sgI ((val a : Int) - val b) = 0) := show sgI ((val a : Int) - val b) = 0 by
          have : a = b := by simpa using HD.out
          rw [this]; unfold sgI; simp
        go_wp2_with fail
        go_ret
        exact ⟨by rw [HR.out]; rfl, Mod.same n _ w⟩
      | succ j =>
        have hja : j < a.length := by omega
        have hjb : j < b.length := by have := HLen.out; omega
        have e1 : ((j + 1 : Nat) : Int) - 1 = (j : Int) := by omega
        rw [e1]
        clear e1
        obtain ⟨ga, rfl, ca⟩ := ivs_cell hU rfl hja
        obtain ⟨gb, rfl, cb⟩ := ivs_cell hV rfl hjb
        have hda := ha _ (List.getElem_mem hja)
        have hdb := hb _ (List.getElem_mem hjb)
        have i1 : (0 : Int) ≤ (j : Int) := by omega
        have i2 : (j : Int) < (a.length : Int) := by omega
        have i3 : (j : Int) < (b.length : Int) := by omega
        rcases Nat.lt_trichotomy a[j] b[j] with hc | hc | hc
        · have HR : Hid (sgI ((val a : Int) - val b) = -1) := show sgI ((val a : Int) - val b) = -1 by
            have := val_cmp j ha HLen.out hja hc HD.out
            unfold sgI; rw [if_pos (by omega)]
          go_wp2_with fail
          go_quiet (fail)
          go_wp2_with fail
          go_ret
          exact ⟨by rw [HR.out]; rfl, by rw [World.drewN_drewN]; exact Mod.same _ _ w⟩
        · have HE : Hid (a.drop j = b.drop j) := show a.drop j = b.drop j by rw [List.drop_eq_getElem_cons hja, List.drop_eq_getElem_cons hjb, HD.out, hc]
          have h1 : ¬ ((a[j] : Int) < (b[j] : Int)) := by omega
          have h2 : ¬ ((b[j] : Int) < (a[j] : Int)) := by omega
          clear hc
          go_wp2_with fail
          go_quiet (fail)
          go_wp2_with fail
          go_quiet (fail)
          go_wp2_with fail
          go_roundw
          case rel => exact ⟨j, by omega, by go_num, ⟨_, rfl⟩, HE⟩
          case measure => simp [intOf]
        · have HR : Hid (sgI ((val a : Int) - val b) = 1) := show sgI ((val a : Int) - val b) = 1 by
            have := val_cmp j hb HLen.out.symm hjb hc HD.out.symm
            unfold sgI; rw [if_neg (by omega), if_neg (by omega)]
          have h1 : ¬ ((a[j] : Int) < (b[j] : Int)) := by omega
          go_wp2_with fail
          go_quiet (fail)
          go_wp2_with fail
          go_quiet (fail)
          go_wp2_with fail
          go_ret
          exact ⟨by rw [HR.out]; rfl, by rw [World.drewN_drewN, World.drewN_drewN]; exact Mod.same _ _ w⟩
  · have hb1 : ((a.length : Int) != (b.length : Int)) = true := by rw [bne_iff_ne]; omega
    by_cases hlt : a.length < b.length
    · have HR : Hid (sgI ((val a : Int) - val b) = -1) := show sgI ((val a : Int) - val b) = -1 by
        have := val_shorter ha htb hlt
        unfold sgI; rw [if_pos (by omega)]
      go_enter Tryz.func184, Tryz.ntmps184
      go_wp2_with fail
      go_ret
      exact ⟨by rw [HR.out]; rfl, Mod.refl _ _⟩
    · have HR : Hid (sgI ((val a : Int) - val b) = 1) := show sgI ((val a : Int) - val b) = 1 by
        have := val_shorter hb hta (by omega)
        unfold sgI; rw [if_neg (by omega), if_neg (by omega)]
      go_enter Tryz.func184, Tryz.ntmps184
      go_wp2_with fail
      go_ret
      exact ⟨by rw [HR.out]; rfl, Mod.refl _ _⟩
end Go.Proofs.YtmnfndpbblpjiabGreatDoor

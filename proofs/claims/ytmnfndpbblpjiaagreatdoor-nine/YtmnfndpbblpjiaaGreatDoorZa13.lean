/- Steps in memory. -/
import Derived.Test.YtmnfndpbblpjiaaGreatDoorZa02
import Derived.Test.YtmnfndpbblpjiaaGreatDoorZa01
import Derived.Test.YtmnfndpbblpjiaaGreatDoorZa12
namespace Go.Proofs.YtmnfndpbblpjiaaGreatDoor
open Go.RowKit Pu
theorem Tryz.info71 : (Tryz.prog.info? 114).map (fun i => (i.zero, i.size, i.bytes)) = some (some (.agg #[.int .i64 0, .int .i64 0, .int .i64 0, .int .i64 0]), 4, 32) := by kernel_rfl
def tcells (t : Stp) : List Value := [.int .i64 t.op, .int .i64 t.x, .int .i64 t.y, .int .i64 t.z]
def tcellsOf (l : List Stp) : List Value := l.flatMap tcells
theorem tcellsOf_snoc (q : List Stp) (t : Stp) : tcellsOf q ++ tcells t = tcellsOf (q ++ [t]) := by simp [tcellsOf]
theorem tcellsOf_at (q : List Stp) (j i : Nat) (hj : j < q.length) (hi : i < 4) : (tcellsOf q)[j * 4 + i]? = (tcells q[j])[i]? := by
  induction q generalizing j with
  | nil => simp at hj
  | cons t q ih =>
    cases j with
    | zero =>
      simp only [tcellsOf, List.flatMap_cons, Nat.zero_mul, Nat.zero_add, List.getElem_cons_zero]
      rw [List.getElem?_append_left (by simpa [tcells] using hi)]
    | succ j =>
      have := ih j (by simpa using hj)
      simp only [tcellsOf, List.flatMap_cons, List.getElem_cons_succ] at *
      rw [List.getElem?_append_right (by simp [tcells]; omega), ← this]
      congr 1
      simp [tcells]; omega
def TLst (w : World) (base : Nat) (v : Value) (l : List Stp) : Prop := w.ownsRow base 114 4 v l.length (tcellsOf l)
theorem TLst.cell {w : World} {base : Nat} {ao : Option Addr} {cap : Nat} {l : List Stp} (h : TLst w base (.slice ao l.length cap) l) {j : Nat} (hj : j < l.length) :
    ∃ gb, ao = some ⟨gb, 0, none⟩ ∧ w.cell? ⟨gb, j * 4, none⟩ = some (.int .i64 l[j].op) ∧ w.cell? ⟨gb, j * 4 + 1, none⟩ = some (.int .i64 l[j].x) ∧ w.cell? ⟨gb, j * 4 + 2, none⟩ = some (.int .i64 l[j].y) ∧ w.cell? ⟨gb, j * 4 + 3, none⟩ = some (.int .i64 l[j].z) := by
  unfold TLst at h
  obtain ⟨gb, rfl, h0⟩ := owns_cell h (j := j * 4 + 0) (by omega)
  have h1 := h.cellAt (j * 4 + 1) (by omega)
  have h2 := h.cellAt (j * 4 + 2) (by omega)
  have h3 := h.cellAt (j * 4 + 3) (by omega)
  rw [tcellsOf_at l j _ hj (by omega)] at h0 h1 h2 h3
  exact ⟨gb, rfl, by simpa [tcells] using h0, by simpa [tcells] using h1, by simpa [tcells] using h2, by simpa [tcells] using h3⟩
theorem TLst.mod {w w' : World} {base : Nat} {v : Value} {l : List Stp} (h : TLst w base v l) (hm : Mod (fun _ => False) w w') : TLst w' base v l := owns_mod h hm (fun _ _ f => f)
end Go.Proofs.YtmnfndpbblpjiaaGreatDoor

/- The document's Setter, Reads, proper, right. -/
namespace Go.Proofs.YtmnfndpbblpjiaaGreatDoor
open Go.RowKit Pu
set_option maxHeartbeats 800000 in
set_option maxRecDepth 100000 in
theorem setter_any (v : Value) (l : List Stp) (k r base : Nat) (w : World) (hl : l.length ≤ 3000) (hk : k ≤ l.length) (hL : TLst w base v l) (hsm : ∀ t ∈ l, Small t) (_hr : r < 256) :
    Calls Tryz.prog 81 #[v, .int .i64 k, .int .i64 r] w fun e w' => e = .returned (.int .i64 (setterI l r k)) ∧ w = w' := by
  obtain ⟨ao, cap, rfl, -⟩ := owns_form hL
  go_enter Tryz.func81, Tryz.ntmps81
  go_wp2_with fail
  go_loop [7] (fun i => ∃ j : Nat, j ≤ k ∧ i = .int .i64 ((j : Int) - 1) ∧ Hid (setterI l r j = setterI l r k)) (fun i => (intOf i + 1).toNat)
  case atStart => exact ⟨k, by omega, rfl, rfl⟩
  case round =>
    obtain ⟨j, hj, rfl, HS⟩ := hrel
    cases j with
    | zero =>
      have HR : Hid (setterI l r k = -1) := show setterI l r k = -1 by rw [← HS.out]; rfl
      go_wp2_with fail
      go_ret
      exact ⟨by rw [HR.out]; rfl, rfl⟩
    | succ j =>
      have hjl : j < l.length := by omega
      have e1 : ((j + 1 : Nat) : Int) - 1 = (j : Int) := by omega
      rw [e1]
      clear e1
      obtain ⟨gb, rfl, c0, c1, -, -⟩ := hL.cell hjl
      obtain ⟨s1, s2, -, -⟩ := hsm _ (List.getElem_mem hjl)
      by_cases h5 : l[j].op ≤ 5
      · by_cases hx : l[j].x = r
        · have HR : Hid (setterI l r k = (j : Int)) := show setterI l r k = (j : Int) by rw [← HS.out]; exact setterI_hit hjl ⟨h5, hx⟩
          have hb : ((l[j].x : Int) == (r : Int)) = true := beq_t hx
          clear hx
          go_wp2_with fail
          go_ret
          exact ⟨by rw [HR.out]; rfl, rfl⟩
        · have HR : Hid (setterI l r j = setterI l r k) := show setterI l r j = setterI l r k by rw [← HS.out]; exact (setterI_miss hjl (fun h => hx h.2)).symm
          have hb : ((l[j].x : Int) == (r : Int)) = false := beq_f hx
          go_wp2_with fail
          go_round
          case rel => exact ⟨j, by omega, by go_num, HR⟩
          case measure => simp [intOf]
      · have HR : Hid (setterI l r j = setterI l r k) := show setterI l r j = setterI l r k by rw [← HS.out]; exact (setterI_miss hjl (fun h => h5 h.1)).symm
        go_wp2_with fail
        go_round
        case rel => exact ⟨j, by omega, by go_num, HR⟩
        case measure => simp [intOf]
abbrev st4 (t : Stp) : Value := .agg #[.int .i64 t.op, .int .i64 t.x, .int .i64 t.y, .int .i64 t.z]
def Stb (w : World) (b : Nat) (t : Stp) : Prop := w.heap[b]? = some (.cells #[.int .i64 t.op, .int .i64 t.x, .int .i64 t.y, .int .i64 t.z] 114 (0, 0))
section
variable {w w' : World} {b : Nat} {t : Stp}
theorem Stb.c0 (h : Stb w b t) : w.cell? ⟨b, 0, none⟩ = some (.int .i64 t.op) := by unfold Stb at h; simp [World.cell?, h]
theorem Stb.c1 (h : Stb w b t) : w.cell? ⟨b, 1, none⟩ = some (.int .i64 t.x) := by unfold Stb at h; simp [World.cell?, h]
theorem Stb.c2 (h : Stb w b t) : w.cell? ⟨b, 2, none⟩ = some (.int .i64 t.y) := by unfold Stb at h; simp [World.cell?, h]
theorem Stb.c3 (h : Stb w b t) : w.cell? ⟨b, 3, none⟩ = some (.int .i64 t.z) := by unfold Stb at h; simp [World.cell?, h]
theorem stb_new (w : World) (t : Stp) : Stb (w.alloc (.cells #[.int .i64 t.op, .int .i64 t.x, .int .i64 t.y, .int .i64 t.z] 114)) w.heap.size t := by
  unfold Stb; show (w.heap.push _)[w.heap.size]? = _; simp
end
def ivs (l : List Nat) : List Value := l.map fun (n : Nat) => Value.int .i64 (n : Int)
theorem Tryz.info3 : (Tryz.prog.info? 3).map (fun i => (i.zero, i.size, i.bytes)) = some (some (.int .i64 0), 1, 8) := by kernel_rfl
set_option maxHeartbeats 1600000 in
set_option maxRecDepth 100000 in
theorem reads_any (t : Stp) (w : World) (hs : Small t) : Calls Tryz.prog 80 #[st4 t] w fun e w' => Mod (fun _ => False) w w' ∧ ∃ v, e = .returned v ∧ w'.ownsRow w.heap.size 3 1 v (readsOf t).length (ivs (readsOf t)) := by
  obtain ⟨i0, hi, hz0, hz1, hz2⟩ := info_parts Tryz.info3
  obtain ⟨s0, s1, s2, s3⟩ := hs
  have hS := stb_new w t
  have hm0 : Mod (fun _ => False) w (w.alloc (.cells #[.int .i64 t.op, .int .i64 t.x, .int .i64 t.y, .int .i64 t.z] 114)) := (Mod.refl _ w).alloc _
  by_cases h6 : 6 ≤ t.op
  · have HR : Hid (readsOf t = [t.x]) := show readsOf t = [t.x] by
      unfold readsOf; rw [if_neg (by omega), if_neg (by omega), if_pos h6]; rfl
    go_enter Tryz.func80, Tryz.ntmps80
    go_wp2_with (at_builtin; refine wpList_append_own _ rfl _ _ 39 rfl w.heap.size 3 i0 (.int .i64 0) 1 8 Tryz.underlying39 hi hz0 hz1 hz2 rfl (by decide) _ _ _ rfl (World.ownsRow_nil _ _ _ _) ⟨w.heap.size + 1, 0, none⟩ 1 1 [.int .i64 t.x] rfl rfl ?c1 ?c2 ?c3 ?c4 ?c5 ?_)
    case c1 => have := cell_one_new (w.alloc (.cells #[.int .i64 t.op, .int .i64 t.x, .int .i64 t.y, .int .i64 t.z] 114)) (.int .i64 t.x) 3; simpa using this
    case c2 => intro u hu; simp at hu; subst hu; rfl
    case c3 => unfold maxLen; omega
    case c4 => omega
    case c5 => simp; omega
    intro v' w4 hown4 hgrow _
    have hm4 : Mod (fun _ => False) w w4 := (hm0.alloc _).grown hgrow (fun q hq _ => by simp [Value.ownBlock] at hq)
    clear hgrow
    go_wp2_with fail
    go_ret
    exact ⟨hm4, _, rfl, by rw [HR.out]; exact hown4⟩
  · by_cases h5 : t.op = 5
    · have HR : Hid (readsOf t = [t.y]) := show readsOf t = [t.y] by
        unfold readsOf; rw [if_pos (by omega), if_neg (by omega), if_neg (by omega)]; rfl
      have ha : 5 ≤ t.op := by omega
      have hb : t.op ≤ 5 := by omega
      clear h5 h6
      go_enter Tryz.func80, Tryz.ntmps80
      go_wp2_with (at_builtin; refine wpList_append_own _ rfl _ _ 39 rfl w.heap.size 3 i0 (.int .i64 0) 1 8 Tryz.underlying39 hi hz0 hz1 hz2 rfl (by decide) _ _ _ rfl (World.ownsRow_nil _ _ _ _) ⟨w.heap.size + 1, 0, none⟩ 1 1 [.int .i64 t.y] rfl rfl ?d1 ?d2 ?d3 ?d4 ?d5 ?_)
      case d1 => have := cell_one_new (w.alloc (.cells #[.int .i64 t.op, .int .i64 t.x, .int .i64 t.y, .int .i64 t.z] 114)) (.int .i64 t.y) 3; simpa using this
      case d2 => intro u hu; simp at hu; subst hu; rfl
      case d3 => unfold maxLen; omega
      case d4 => omega
      case d5 => simp; omega
      intro v' w4 hown4 hgrow _
      have hm1 : Mod (fun _ => False) (w.alloc (.cells #[.int .i64 t.op, .int .i64 t.x, .int .i64 t.y, .int .i64 t.z] 114)) w4 := ((Mod.refl _ _).alloc _).grown hgrow (fun q hq _ => by simp [Value.ownBlock] at hq)
      have hm4 := hm0.trans hm1
      have c0 : w4.cell? ⟨w.heap.size, 0, none⟩ = some (.int .i64 t.op) := (show Stb w4 w.heap.size t from hm1.keep hS (fun f => f)).c0
      clear hgrow hm1
      go_wp2_with fail
      go_ret
      exact ⟨hm4, _, rfl, by rw [HR.out]; exact hown4⟩
    · by_cases h2 : 2 ≤ t.op
      · have HR : Hid (readsOf t = [t.y, t.z]) := show readsOf t = [t.y, t.z] by
          unfold readsOf; rw [if_pos (by omega), if_pos (by omega), if_neg (by omega)]; rfl
        have hb : t.op ≤ 4 := by omega
        clear h5 h6
        go_enter Tryz.func80, Tryz.ntmps80
        go_wp2_with (at_builtin; refine wpList_append_own _ rfl _ _ 39 rfl w.heap.size 3 i0 (.int .i64 0) 1 8 Tryz.underlying39 hi hz0 hz1 hz2 rfl (by decide) _ _ _ rfl (World.ownsRow_nil _ _ _ _) ⟨w.heap.size + 1, 0, none⟩ 1 1 [.int .i64 t.y] rfl rfl ?e1 ?e2 ?e3 ?e4 ?e5 ?_)
        case e1 => have := cell_one_new (w.alloc (.cells #[.int .i64 t.op, .int .i64 t.x, .int .i64 t.y, .int .i64 t.z] 114)) (.int .i64 t.y) 3; simpa using this
        case e2 => intro u hu; simp at hu; subst hu; rfl
        case e3 => unfold maxLen; omega
        case e4 => omega
        case e5 => simp; omega
        intro v' w4 hown4 hgrow _
        have hm1 : Mod (fun _ => False) (w.alloc (.cells #[.int .i64 t.op, .int .i64 t.x, .int .i64 t.y, .int .i64 t.z] 114)) w4 := ((Mod.refl _ _).alloc _).grown hgrow (fun q hq _ => by simp [Value.ownBlock] at hq)
        have hm4 := hm0.trans hm1
        have hS4 : Stb w4 w.heap.size t := hm1.keep hS (fun f => f)
        have c0 := hS4.c0
        have c3 := hS4.c3
        have hz4 := hm4.size
        obtain ⟨ao4, cap4, rfl, -⟩ := owns_form hown4
        clear hgrow hm1
        go_wp2_with (at_builtin; refine wpList_append_own _ rfl _ _ 39 rfl w.heap.size 3 i0 (.int .i64 0) 1 8 Tryz.underlying39 hi hz0 hz1 hz2 rfl (by decide) _ _ _ rfl (hown4.alloc _) ⟨w4.heap.size, 0, none⟩ 1 1 [.int .i64 t.z] rfl rfl ?f1 ?f2 ?f3 ?f4 ?f5 ?_)
        case f1 => exact cell_one_new _ _ _
        case f2 => intro u hu; simp at hu; subst hu; rfl
        case f3 => unfold maxLen; omega
        case f4 => omega
        case f5 => simp; omega
        intro v5 w5 hown5 hgrow5 _
        have hm5 : Mod (fun _ => False) w w5 := (hm4.alloc _).grown hgrow5 (fun q hq hlt => by have := (hown4.lt q hq).1; omega)
        have hS5 : Stb w5 w.heap.size t := by
          refine ((((Mod.refl (fun q => (Value.slice ao4 1 cap4).ownBlock = some q) w4).alloc _).grown hgrow5 (fun q hq _ => hq)).keep hS4 (fun e => ?_))
          obtain ⟨_, ⟨he, _⟩ | ⟨g1, c1, cur1, he1, _, hb1, _⟩⟩ := hown4
          · rw [he] at e; simp [Value.ownBlock] at e
          · rw [he1] at e; simp [Value.ownBlock] at e
            subst e
            unfold Stb at hS4; rw [hb1] at hS4; simp at hS4
        clear c0 c3
        have c0 := hS5.c0
        clear hgrow5
        go_wp2_with fail
        go_ret
        exact ⟨hm5, _, rfl, by rw [HR.out]; exact hown5⟩
      · have HR : Hid (readsOf t = []) := show readsOf t = [] by
          unfold readsOf; rw [if_neg (by omega), if_neg (by omega), if_neg (by omega)]; rfl
        clear h5
        go_enter Tryz.func80, Tryz.ntmps80
        go_wp2_with fail
        go_ret
        exact ⟨hm0, _, rfl, by rw [HR.out]; exact World.ownsRow_nil _ _ _ _⟩
end Go.Proofs.YtmnfndpbblpjiaaGreatDoor

/- The document's look at a step: proper, right. -/
namespace Go.Proofs.YtmnfndpbblpjiaaGreatDoor
open Go.RowKit Pu
set_option maxHeartbeats 1600000 in
set_option maxRecDepth 100000 in
theorem proper_any (t : Stp) (regs ins : Nat) (w : World) (hs : Small t) (_hr : regs < 256) (_hn : ins < 256) : Calls Tryz.prog 115 #[st4 t, .int .i64 regs, .int .i64 ins] w fun e w' => e = .returned (.bool (properB t regs ins)) ∧ Mod (fun _ => False) w w' := by
  obtain ⟨s0, s1, s2, s3⟩ := hs
  have hm0 : Mod (fun _ => False) w (w.alloc (.cells #[.int .i64 t.op, .int .i64 t.x, .int .i64 t.y, .int .i64 t.z] 114)) := (Mod.refl _ w).alloc _
  have HP : Hid (properB t regs ins = if 7 < t.op ∨ regs ≤ t.x then false else if t.op = 0 ∧ ins ≤ t.y then false else if t.op = 6 ∧ t.y ≠ 0 then false else if t.op = 7 then decide (t.y < 3) && decide (t.z < 16) else decide (t.z = 0) || (decide (2 ≤ t.op) && decide (t.op ≤ 4))) := rfl
  generalize properB t regs ins = pb at *
  obtain ⟨op, x, y, z⟩ := t
  simp only at s0 s1 s2 s3 HP ⊢
  by_cases h7 : 7 < op
  · have HR : Hid (pb = false) := show pb = false by rw [HP.out, if_pos (.inl h7)]
    clear HP
    go_enter Tryz.func115, Tryz.ntmps115
    go_wp2_with fail
    go_ret
    exact ⟨by rw [HR.out]; rfl, hm0⟩
  · by_cases hx : regs ≤ x
    · have HR : Hid (pb = false) := show pb = false by rw [HP.out, if_pos (.inr hx)]
      clear HP
      go_enter Tryz.func115, Tryz.ntmps115
      go_wp2_with fail
      go_ret
      exact ⟨by rw [HR.out]; rfl, hm0⟩
    · have HP1 : Hid (pb = if op = 0 ∧ ins ≤ y then false else if op = 6 ∧ y ≠ 0 then false else if op = 7 then decide (y < 3) && decide (z < 16) else decide (z = 0) || (decide (2 ≤ op) && decide (op ≤ 4))) := show pb = _ by rw [HP.out, if_neg (by omega)]
      clear HP
      by_cases h0 : op = 0
      · by_cases hy : ins ≤ y
        · have HR : Hid (pb = false) := show pb = false by rw [HP1.out, if_pos ⟨h0, hy⟩]
          have hb : ((op : Int) == 0) = true := beq_t (m := 0) h0
          clear HP1 h0
          go_enter Tryz.func115, Tryz.ntmps115
          go_wp2_with fail
          go_ret
          exact ⟨by rw [HR.out]; rfl, hm0⟩
        · have HR : Hid (pb = decide (z = 0)) := show pb = decide (z = 0) by rw [HP1.out, if_neg (by omega), if_neg (by omega), if_neg (by omega)]; simp [h0]
          clear HP1
          subst h0
          by_cases hz : z = 0
          · have hzb : ((z : Int) == 0) = true := beq_t (m := 0) hz
            have HR2 : Hid (pb = true) := show pb = true by rw [HR.out]; simpa using hz
            clear hz HR
            go_enter Tryz.func115, Tryz.ntmps115
            go_wp2_with fail
            go_ret
            exact ⟨by rw [HR2.out]; rfl, hm0⟩
          · have hzb : ((z : Int) == 0) = false := beq_f (m := 0) hz
            have HR2 : Hid (pb = false) := show pb = false by rw [HR.out]; simpa using hz
            clear HR
            go_enter Tryz.func115, Tryz.ntmps115
            go_wp2_with fail
            go_ret
            exact ⟨by rw [HR2.out]; rfl, hm0⟩
      · have b0 : ((op : Int) == 0) = false := beq_f (m := 0) h0
        by_cases h6 : op = 6
        · subst h6
          by_cases hy : y = 0
          · have HR : Hid (pb = decide (z = 0)) := show pb = decide (z = 0) by rw [HP1.out, if_neg (by omega), if_neg (by omega), if_neg (by omega)]; simp
            have hyb : ((y : Int) != 0) = false := by rw [hy]; rfl
            clear HP1 hy
            by_cases hz : z = 0
            · have hzb : ((z : Int) == 0) = true := beq_t (m := 0) hz
              have HR2 : Hid (pb = true) := show pb = true by rw [HR.out]; simpa using hz
              clear hz HR
              go_enter Tryz.func115, Tryz.ntmps115
              go_wp2_with fail
              go_ret
              exact ⟨by rw [HR2.out]; rfl, hm0⟩
            · have hzb : ((z : Int) == 0) = false := beq_f (m := 0) hz
              have HR2 : Hid (pb = false) := show pb = false by rw [HR.out]; simpa using hz
              clear HR
              go_enter Tryz.func115, Tryz.ntmps115
              go_wp2_with fail
              go_ret
              exact ⟨by rw [HR2.out]; rfl, hm0⟩
          · have HR : Hid (pb = false) := show pb = false by rw [HP1.out, if_neg (by omega), if_pos ⟨rfl, hy⟩]
            have hyb : ((y : Int) != 0) = true := by rw [bne_iff_ne]; omega
            clear HP1
            go_enter Tryz.func115, Tryz.ntmps115
            go_wp2_with fail
            go_ret
            exact ⟨by rw [HR.out]; rfl, hm0⟩
        · have b6 : ((op : Int) == 6) = false := beq_f (m := 6) h6
          by_cases h7e : op = 7
          · have HR : Hid (pb = (decide (y < 3) && decide (z < 16))) := show pb = _ by rw [HP1.out, if_neg (by omega), if_neg (by omega), if_pos h7e]
            subst h7e
            clear HP1
            by_cases hy : y < 3
            · have HR2 : Hid (pb = decide ((z : Int) < 16)) := show pb = _ by rw [HR.out, Bool.eq_iff_iff]; simp [hy]; omega
              clear HR
              go_enter Tryz.func115, Tryz.ntmps115
              go_wp2_with fail
              go_ret
              exact ⟨by rw [HR2.out]; rfl, hm0⟩
            · have HR2 : Hid (pb = false) := show pb = _ by rw [HR.out]; simp [hy]
              clear HR
              go_enter Tryz.func115, Tryz.ntmps115
              go_wp2_with fail
              go_ret
              exact ⟨by rw [HR2.out]; rfl, hm0⟩
          · have HR : Hid (pb = (decide (z = 0) || (decide (2 ≤ op) && decide (op ≤ 4)))) := show pb = _ by rw [HP1.out, if_neg (by omega), if_neg (by omega), if_neg h7e]
            have b7 : ((op : Int) == 7) = false := beq_f (m := 7) h7e
            clear HP1
            by_cases hz : z = 0
            · have hzb : ((z : Int) == 0) = true := beq_t (m := 0) hz
              have HR2 : Hid (pb = true) := show pb = true by rw [HR.out]; simp [hz]
              clear hz HR
              go_enter Tryz.func115, Tryz.ntmps115
              go_wp2_with fail
              go_ret
              exact ⟨by rw [HR2.out]; rfl, hm0⟩
            · have hzb : ((z : Int) == 0) = false := beq_f (m := 0) hz
              by_cases h2 : 2 ≤ op
              · have HR2 : Hid (pb = decide ((op : Int) ≤ 4)) := show pb = _ by rw [HR.out, Bool.eq_iff_iff]; simp [hz, h2]; omega
                clear HR
                go_enter Tryz.func115, Tryz.ntmps115
                go_wp2_with fail
                go_ret
                exact ⟨by rw [HR2.out]; rfl, hm0⟩
              · have HR2 : Hid (pb = false) := show pb = false by rw [HR.out]; simp [hz, h2]
                clear HR
                go_enter Tryz.func115, Tryz.ntmps115
                go_wp2_with fail
                go_ret
                exact ⟨by rw [HR2.out]; rfl, hm0⟩
theorem ivs_cell {w : World} {base n : Nat} {ao : Option Addr} {cap : Nat} {l : List Nat} (h : w.ownsRow base 3 1 (.slice ao n cap) n (ivs l)) (hn : n = l.length) {k : Nat} (hk : k < l.length) :
    ∃ gb, ao = some ⟨gb, 0, none⟩ ∧ w.cell? ⟨gb, k, none⟩ = some (.int .i64 (l[k] : Int)) := by
  subst hn
  obtain ⟨gb, rfl, hc⟩ := owns_cell h (j := k) (by omega)
  exact ⟨gb, rfl, by rw [hc]; simp [ivs, hk]⟩
theorem reads_small {t : Stp} (h : Small t) : ∀ r ∈ readsOf t, r < 256 := by
  obtain ⟨h0, h1, h2, h3⟩ := h
  intro r hr
  unfold readsOf at hr
  simp only [List.mem_append] at hr
  rcases hr with (hr | hr) | hr <;> split at hr <;> simp at hr <;> omega
set_option maxHeartbeats 1600000 in
set_option maxRecDepth 100000 in
theorem right_any (v : Value) (l : List Stp) (k regs ins base : Nat) (w : World) (hl : l.length ≤ 3000) (hk : k < l.length) (hL : TLst w base v l) (hsm : ∀ t ∈ l, Small t) (hr : regs < 256) (hn : ins < 256) :
    Calls Tryz.prog 69 #[v, .int .i64 k, .int .i64 regs, .int .i64 ins] w fun e w' => e = .returned (.bool (rightB l k l[k] regs ins)) ∧ Mod (fun _ => False) w w' := by
  obtain ⟨ao, cap, rfl, -⟩ := owns_form hL
  obtain ⟨gb, rfl, c0, c1, c2, c3⟩ := hL.cell hk
  have hs := hsm _ (List.getElem_mem hk)
  have HSM : Hid (∀ t ∈ l, Small t) := hsm
  clear hsm
  have hrl := readsOf_len l[k]
  have hrs := reads_small hs
  have HRS : Hid (∀ r ∈ readsOf l[k], r < 256) := hrs
  clear hrs
  have HB : Hid (rightB l k l[k] regs ins = (properB l[k] regs ins && (readsOf l[k]).all fun r => decide (r < regs) && decide (0 ≤ setterI l r k))) := rfl
  generalize rightB l k l[k] regs ins = rb at *
  generalize l[k] = t at *
  cases hp : properB t regs ins with
  | false =>
    have HR : Hid (rb = false) := show rb = false by rw [HB.out, hp]; rfl
    go_enter Tryz.func69, Tryz.ntmps69
    go_wp2_with fail
    refine (proper_any t regs ins _ hs hr hn).mono ?_
    rintro e w1 ⟨rfl, hm1⟩
    go_wp2_with fail
    go_ret
    exact ⟨by rw [HR.out]; rfl, hm1⟩
  | true =>
    have HB2 : Hid (rb = (readsOf t).all fun r => decide (r < regs) && decide (0 ≤ setterI l r k)) := show rb = _ by rw [HB.out, hp]; rfl
    clear HB
    go_enter Tryz.func69, Tryz.ntmps69
    go_wp2_with fail
    refine (proper_any t regs ins _ hs hr hn).mono ?_
    rintro e w1 ⟨rfl, hm1⟩
    have hL1 := hL.mod hm1
    have hbe : w1.heap[gb]? = w.heap[gb]? := hm1.block gb (by obtain ⟨_, h | ⟨_, _, _, he, _, hb, _⟩⟩ := hL; (· cases h.1); cases he; exact lt_of_block hb) (fun f => f)
    have d0 := (World.cell?_of_block (a := ⟨gb, k * 4, none⟩) hbe).trans c0
    have d1 := (World.cell?_of_block (a := ⟨gb, k * 4 + 1, none⟩) hbe).trans c1
    have d2 := (World.cell?_of_block (a := ⟨gb, k * 4 + 2, none⟩) hbe).trans c2
    have d3 := (World.cell?_of_block (a := ⟨gb, k * 4 + 3, none⟩) hbe).trans c3
    clear c0 c1 c2 c3 hbe hL
    go_wp2_with fail
    refine (reads_any t _ hs).mono ?_
    rintro e w2 ⟨hm2, v2, rfl, hown⟩
    have hL2 := hL1.mod hm2
    have hm := hm1.trans hm2
    clear d0 d1 d2 d3 hL1 hm1 hm2
    generalize readsOf t = rs at *
    obtain ⟨ao2, cap2, rfl, -⟩ := owns_form hown
    go_wp2_with fail
    go_loop [11] (fun i => ∃ j : Nat, j ≤ rs.length ∧ i = .int .i64 j ∧ Hid (∀ q (hq : q < rs.length), q < j → rs[q] < regs ∧ 0 ≤ setterI l rs[q] k)) (fun i => rs.length - (intOf i).toNat)
    case atStart => exact ⟨0, by omega, rfl, fun q hq h => by omega⟩
    case round =>
      obtain ⟨j, hj, rfl, HN⟩ := hrel
      by_cases hlt : j < rs.length
      · obtain ⟨rb2, rfl, cj⟩ := ivs_cell hown rfl hlt
        have hrj := HRS.out _ (List.getElem_mem hlt)
        by_cases hreg : rs[j] < regs
        · have hsg := setterI_ge l rs[j] k
          have hsl := setterI_lt l rs[j] k
          by_cases hset : 0 ≤ setterI l rs[j] k
          · have HS : Hid (0 ≤ setterI l rs[j] k) := hset
            have hb : decide (setterI l rs[j] k < 0) = false := by simp; exact hset
            go_wp2_with fail
            refine (setter_any (.slice (some ⟨gb, 0, none⟩) l.length cap) l k rs[j] base w2 hl (by omega) hL2 HSM.out hrj).mono ?_
            rintro e w3 ⟨rfl, rfl⟩
            go_wp2_with fail
            go_round
            case rel => exact ⟨j + 1, by omega, by go_num, fun q hq h => by by_cases e : q = j; (· subst e; exact ⟨hreg, HS.out⟩); exact HN.out q hq (by omega)⟩
            case measure => simp [intOf]; omega
          · have HR : Hid (rb = false) := show rb = false by
              rw [HB2.out, Bool.eq_false_iff, ne_eq, List.all_eq_true]
              intro H
              have := H rs[j] (List.getElem_mem hlt)
              simp at this
              exact hset this.2
            have hb : decide (setterI l rs[j] k < 0) = true := by simp; omega
            go_wp2_with fail
            refine (setter_any (.slice (some ⟨gb, 0, none⟩) l.length cap) l k rs[j] base w2 hl (by omega) hL2 HSM.out hrj).mono ?_
            rintro e w3 ⟨rfl, rfl⟩
            go_wp2_with fail
            go_ret
            exact ⟨by rw [HR.out]; rfl, hm⟩
        · have HR : Hid (rb = false) := show rb = false by
            rw [HB2.out, Bool.eq_false_iff, ne_eq, List.all_eq_true]
            intro H
            have := H rs[j] (List.getElem_mem hlt)
            simp at this
            exact hreg this.1
          go_wp2_with fail
          go_ret
          exact ⟨by rw [HR.out]; rfl, hm⟩
      · have HR : Hid (rb = true) := show rb = true by
          rw [HB2.out, List.all_eq_true]
          intro r hr
          obtain ⟨q, hq, rfl⟩ := List.getElem_of_mem hr
          have := HN.out q hq (by omega)
          simp [this.1, this.2]
        go_wp2_with fail
        go_ret
        exact ⟨by rw [HR.out]; rfl, hm⟩
end Go.Proofs.YtmnfndpbblpjiaaGreatDoor

/- The document's numbers: Less, Sign, order, made. -/
namespace Go.Proofs.YtmnfndpbblpjiaaGreatDoor
open Go.RowKit Pu
abbrev nm2 (nb : Bool) (v : Value) : Value := .agg #[.bool nb, v]
/-- A number in memory. -/
def Nm (w : World) (nb : Bool) (v : Value) (l : List Nat) : Prop := Canon nb l ∧ w.ownsRow 0 3 1 v l.length (ivs l)
theorem Nm.mod {w w' : World} {nb : Bool} {v : Value} {l : List Nat} (h : Nm w nb v l) (hm : Mod (fun _ => False) w w') : Nm w' nb v l := ⟨h.1, owns_mod h.2 hm (fun _ _ f => f)⟩
def lessB (nb : Bool) (l : List Nat) : Bool := !nb && decide (0 < l.length)
theorem less_canon {nb : Bool} {l : List Nat} (h : Canon nb l) : Canon (lessB nb l) l ∧ num (lessB nb l) l = -num nb l := by
  obtain ⟨h1, h2, h3⟩ := h
  cases l with
  | nil => have := h3 rfl; subst this; exact ⟨⟨h1, h2, fun _ => rfl⟩, by simp [lessB, num, val]⟩
  | cons d l => exact ⟨⟨h1, h2, fun e => by cases e⟩, by simp [lessB]; exact num_neg nb _⟩
set_option maxHeartbeats 800000 in
set_option maxRecDepth 100000 in
theorem less_any (nb : Bool) (v : Value) (l : List Nat) (w : World) (hN : Nm w nb v l) (_hl : l.length ≤ 2000000000) : Calls Tryz.prog 135 #[nm2 nb v] w fun e w' => e = .returned (nm2 (lessB nb l) v) ∧ Mod (fun _ => False) w w' := by
  have hcan := hN.1
  obtain ⟨ao, cap, rfl, -⟩ := owns_form hN.2
  clear hN
  cases nb with
  | true =>
    go_enter Tryz.func135, Tryz.ntmps135
    go_wp2_with fail
    exact bodyPost_ret (v := nm2 false (.slice ao l.length cap)) (by simp [results, Tryz.results135, go_sem]) rfl ⟨rfl, ((Mod.refl _ w).alloc _).alloc _⟩
  | false =>
    go_enter Tryz.func135, Tryz.ntmps135
    go_wp2_with fail
    exact bodyPost_ret (v := nm2 (lessB false l) (.slice ao l.length cap)) (by simp [results, Tryz.results135, go_sem, lessB]) rfl ⟨rfl, ((Mod.refl _ w).alloc _).alloc _⟩
def sgI (x : Int) : Int := if x < 0 then -1 else if x = 0 then 0 else 1
set_option maxHeartbeats 800000 in
set_option maxRecDepth 100000 in
theorem sign_any (nb : Bool) (v : Value) (l : List Nat) (w : World) (hN : Nm w nb v l) (hl : l.length ≤ 2000000000) : Calls Tryz.prog 77 #[nm2 nb v] w fun e w' => e = .returned (.int .i64 (sgI (num nb l))) ∧ Mod (fun _ => False) w w' := by
  have hcan := hN.1
  obtain ⟨ao, cap, rfl, -⟩ := owns_form hN.2
  have hsg := hcan.sign
  clear hN
  have hm0 : Mod (fun _ => False) w (w.alloc (.cells #[.bool nb, .slice ao l.length cap] 116)) := (Mod.refl _ w).alloc _
  by_cases h0 : l = []
  · have HR : Hid (sgI (num nb l) = 0) := show sgI (num nb l) = 0 by unfold sgI; rw [hsg.1.2 h0]; rfl
    have hb : ((l.length : Int) == 0) = true := by subst h0; rfl
    clear h0 hsg
    go_enter Tryz.func77, Tryz.ntmps77
    go_wp2_with fail
    go_ret
    exact ⟨by rw [HR.out]; rfl, hm0⟩
  · have hb : ((l.length : Int) == 0) = false := by rw [beq_eq_false_iff_ne]; have := List.length_pos_iff.2 h0; omega
    cases nb with
    | true =>
      have HR : Hid (sgI (num true l) = -1) := show sgI (num true l) = -1 by unfold sgI; rw [if_pos (hsg.2.2 rfl)]
      clear hsg
      go_enter Tryz.func77, Tryz.ntmps77
      go_wp2_with fail
      go_ret
      exact ⟨by rw [HR.out]; rfl, hm0⟩
    | false =>
      have HR : Hid (sgI (num false l) = 1) := show sgI (num false l) = 1 by
        unfold sgI; rw [if_neg (fun h => by have := hsg.2.1 h; cases this), if_neg (fun h => h0 (hsg.1.1 h))]
      clear hsg
      go_enter Tryz.func77, Tryz.ntmps77
      go_wp2_with fail
      go_ret
      exact ⟨by rw [HR.out]; rfl, hm0⟩
theorem val_cmp {a b : List Nat} (k : Nat) (ha : Dig a) (hl : a.length = b.length) (hk : k < a.length) (hlt : a[k] < b[k]'(by omega)) (he : a.drop (k + 1) = b.drop (k + 1)) : val a < val b := by
  have e1 : a = a.take k ++ a[k] :: a.drop (k + 1) := by rw [← List.drop_eq_getElem_cons hk, List.take_append_drop]
  have e2 : b = b.take k ++ b[k]'(by omega) :: b.drop (k + 1) := by rw [← List.drop_eq_getElem_cons (by omega), List.take_append_drop]
  rw [e1, e2, he]
  exact val_less (fun d hd => ha d (List.mem_of_mem_take hd)) (by simp; omega) hlt
set_option maxHeartbeats 800000 in
set_option maxRecDepth 100000 in
theorem order_any (u v : Value) (a b : List Nat) (w : World) (hU : w.ownsRow 0 3 1 u a.length (ivs a)) (hV : w.ownsRow 0 3 1 v b.length (ivs b)) (ha : Dig a) (hb : Dig b) (hta : Top a) (htb : Top b) (la : a.length ≤ 2000000000) (_lb : b.length ≤ 2000000000) :
    Calls Tryz.prog 170 #[u, v] w fun e w' => e = .returned (.int .i64 (sgI ((val a : Int) - val b))) ∧ Mod (fun _ => False) w w' := by
  obtain ⟨ao, acap, rfl, -⟩ := owns_form hU
  obtain ⟨bo, bcap, rfl, -⟩ := owns_form hV
  by_cases hlen : a.length = b.length
  · have HLen : Hid (a.length = b.length) := hlen
    have hb1 : ((a.length : Int) != (b.length : Int)) = false := by rw [hlen]; simp
    clear hlen
    go_enter Tryz.func170, Tryz.ntmps170
    go_wp2_with fail
    go_loopw [5] (fun i wr => ∃ j : Nat, j ≤ a.length ∧ i = .int .i64 ((j : Int) - 1) ∧ (∃ n, wr = w.drewN n) ∧ Hid (a.drop j = b.drop j)) (fun i _ => (intOf i + 1).toNat)
    case atStart => exact ⟨a.length, by omega, rfl, ⟨0, rfl⟩, show a.drop a.length = b.drop a.length by rw [List.drop_of_length_le (by omega), List.drop_of_length_le (by have := HLen.out; omega)]⟩
    case round =>
      obtain ⟨j, hj, rfl, ⟨n, rfl⟩, HD⟩ := hrel
      cases j with
      | zero =>
        have HR : Hid (sgI ((val a : Int) - val b) = 0) := show sgI ((val a : Int) - val b) = 0 by
          have : a = b := by simpa using HD.out
          rw [this]; unfold sgI; simp
        go_wp2_with fail
        go_ret
        exact ⟨by rw [HR.out]; rfl, Mod.same n _ w⟩
      | succ j =>
        have hja : j < a.length := by omega
        have hjb : j < b.length := by have := HLen.out; omega
        have e1 : ((j + 1 : Nat) : Int) - 1 = (j : Int) := by omega
        rw [e1]
        clear e1
        obtain ⟨ga, rfl, ca⟩ := ivs_cell hU rfl hja
        obtain ⟨gb, rfl, cb⟩ := ivs_cell hV rfl hjb
        have hda := ha _ (List.getElem_mem hja)
        have hdb := hb _ (List.getElem_mem hjb)
        have i1 : (0 : Int) ≤ (j : Int) := by omega
        have i2 : (j : Int) < (a.length : Int) := by omega
        have i3 : (j : Int) < (b.length : Int) := by omega
        rcases Nat.lt_trichotomy a[j] b[j] with hc | hc | hc
        · have HR : Hid (sgI ((val a : Int) - val b) = -1) := show sgI ((val a : Int) - val b) = -1 by
            have := val_cmp j ha HLen.out hja hc HD.out
            unfold sgI; rw [if_pos (by omega)]
          go_wp2_with fail
          go_quiet (fail)
          go_wp2_with fail
          go_ret
          exact ⟨by rw [HR.out]; rfl, by rw [World.drewN_drewN]; exact Mod.same _ _ w⟩
        · have HE : Hid (a.drop j = b.drop j) := show a.drop j = b.drop j by rw [List.drop_eq_getElem_cons hja, List.drop_eq_getElem_cons hjb, HD.out, hc]
          have h1 : ¬ ((a[j] : Int) < (b[j] : Int)) := by omega
          have h2 : ¬ ((b[j] : Int) < (a[j] : Int)) := by omega
          clear hc
          go_wp2_with fail
          go_quiet (fail)
          go_wp2_with fail
          go_quiet (fail)
          go_wp2_with fail
          go_roundw
          case rel => exact ⟨j, by omega, by go_num, ⟨_, rfl⟩, HE⟩
          case measure => simp [intOf]
        · have HR : Hid (sgI ((val a : Int) - val b) = 1) := show sgI ((val a : Int) - val b) = 1 by
            have := val_cmp j hb HLen.out.symm hjb hc HD.out.symm
            unfold sgI; rw [if_neg (by omega), if_neg (by omega)]
          have h1 : ¬ ((a[j] : Int) < (b[j] : Int)) := by omega
          go_wp2_with fail
          go_quiet (fail)
          go_wp2_with fail
          go_quiet (fail)
          go_wp2_with fail
          go_ret
          exact ⟨by rw [HR.out]; rfl, by rw [World.drewN_drewN, World.drewN_drewN]; exact Mod.same _ _ w⟩
  · have hb1 : ((a.length : Int) != (b.length : Int)) = true := by rw [bne_iff_ne]; omega
    by_cases hlt : a.length < b.length
    · have HR : Hid (sgI ((val a : Int) - val b) = -1) := show sgI ((val a : Int) - val b) = -1 by
        have := val_shorter ha htb hlt
        unfold sgI; rw [if_pos (by omega)]
      go_enter Tryz.func170, Tryz.ntmps170
      go_wp2_with fail
      go_ret
      exact ⟨by rw [HR.out]; rfl, Mod.refl _ _⟩
    · have HR : Hid (sgI ((val a : Int) - val b) = 1) := show sgI ((val a : Int) - val b) = 1 by
        have := val_shorter hb hta (by omega)
        unfold sgI; rw [if_neg (by omega), if_neg (by omega)]
      go_enter Tryz.func170, Tryz.ntmps170
      go_wp2_with fail
      go_ret
      exact ⟨by rw [HR.out]; rfl, Mod.refl _ _⟩
end Go.Proofs.YtmnfndpbblpjiaaGreatDoor

/- The document's Setter, Reads, proper, right. -/
import Derived.Test.YtmnfndpbblpjiaaGreatDoorRv0
namespace Go.Proofs.YtmnfndpbblpjiaaGreatDoor
open Go.RowKit Pu

set_option maxHeartbeats 800000 in
set_option maxRecDepth 100000 in
theorem setter_any (v : Value) (l : List Stp) (k r base : Nat) (w : World) (hl : l.length ≤ 3000) (hk : k ≤ l.length) (hL : TLst w base v l) (hsm : ∀ t ∈ l, Small t) (_hr : r < 256) :
    Calls Tryz.prog 81 #[v, .int .i64 k, .int .i64 r] w fun e w' => e = .returned (.int .i64 (setterI l r k)) ∧ w = w' := by
  obtain ⟨ao, cap, rfl, -⟩ := owns_form hL
  go_enter Tryz.func81, Tryz.ntmps81
  go_wp2_with fail
  go_loop [7] (fun i => ∃ j : Nat, j ≤ k ∧ i = .int .i64 ((j : Int) - 1) ∧ Hid (setterI l r j = setterI l r k)) (fun i => (intOf i + 1).toNat)
  case atStart => exact ⟨k, by omega, rfl, rfl⟩
  case round =>
    obtain ⟨j, hj, rfl, HS⟩ := hrel
    cases j with
    | zero =>
      have HR : Hid (setterI l r k = -1) := show setterI l r k = -1 by rw [← HS.out]; rfl
      go_wp2_with fail
      go_ret
      exact ⟨by rw [HR.out]; rfl, rfl⟩
    | succ j =>
      have hjl : j < l.length := by omega
      have e1 : ((j + 1 : Nat) : Int) - 1 = (j : Int) := by omega
      rw [e1]
      clear e1
      obtain ⟨gb, rfl, c0, c1, -, -⟩ := hL.cell hjl
      obtain ⟨s1, s2, -, -⟩ := hsm _ (List.getElem_mem hjl)
      by_cases h5 : l[j].op ≤ 5
      · by_cases hx : l[j].x = r
        · have HR : Hid (setterI l r k = (j : Int)) := show setterI l r k = (j : Int) by rw [← HS.out]; exact setterI_hit hjl ⟨h5, hx⟩
          have hb : ((l[j].x : Int) == (r : Int)) = true := beq_t hx
          clear hx
          go_wp2_with fail
          go_ret
          exact ⟨by rw [HR.out]; rfl, rfl⟩
        · have HR : Hid (setterI l r j = setterI l r k) := show setterI l r j = setterI l r k by rw [← HS.out]; exact (setterI_miss hjl (fun h => hx h.2)).symm
          have hb : ((l[j].x : Int) == (r : Int)) = false := beq_f hx
          go_wp2_with fail
          go_round
          case rel => exact ⟨j, by omega, by go_num, HR⟩
          case measure => simp [intOf]
      · have HR : Hid (setterI l r j = setterI l r k) := show setterI l r j = setterI l r k by rw [← HS.out]; exact (setterI_miss hjl (fun h => h5 h.1)).symm
        go_wp2_with fail
        go_round
        case rel => exact ⟨j, by omega, by go_num, HR⟩
        case measure => simp [intOf]

abbrev st4 (t : Stp) : Value := .agg #[.int .i64 t.op, .int .i64 t.x, .int .i64 t.y, .int .i64 t.z]
def Stb (w : World) (b : Nat) (t : Stp) : Prop := w.heap[b]? = some (.cells #[.int .i64 t.op, .int .i64 t.x, .int .i64 t.y, .int .i64 t.z] 114 (0, 0))
section
variable {w w' : World} {b : Nat} {t : Stp}
theorem Stb.c0 (h : Stb w b t) : w.cell? ⟨b, 0, none⟩ = some (.int .i64 t.op) := by unfold Stb at h; simp [World.cell?, h]
theorem Stb.c1 (h : Stb w b t) : w.cell? ⟨b, 1, none⟩ = some (.int .i64 t.x) := by unfold Stb at h; simp [World.cell?, h]
theorem Stb.c2 (h : Stb w b t) : w.cell? ⟨b, 2, none⟩ = some (.int .i64 t.y) := by unfold Stb at h; simp [World.cell?, h]
theorem Stb.c3 (h : Stb w b t) : w.cell? ⟨b, 3, none⟩ = some (.int .i64 t.z) := by unfold Stb at h; simp [World.cell?, h]
theorem stb_new (w : World) (t : Stp) : Stb (w.alloc (.cells #[.int .i64 t.op, .int .i64 t.x, .int .i64 t.y, .int .i64 t.z] 114)) w.heap.size t := by
  unfold Stb; show (w.heap.push _)[w.heap.size]? = _; simp
end
def ivs (l : List Nat) : List Value := l.map fun (n : Nat) => Value.int .i64 (n : Int)
theorem Tryz.info3 : (Tryz.prog.info? 3).map (fun i => (i.zero, i.size, i.bytes)) = some (some (.int .i64 0), 1, 8) := by kernel_rfl

set_option maxHeartbeats 1600000 in
set_option maxRecDepth 100000 in
theorem reads_any (t : Stp) (w : World) (hs : Small t) : Calls Tryz.prog 80 #[st4 t] w fun e w' => Mod (fun _ => False) w w' ∧ ∃ v, e = .returned v ∧ w'.ownsRow w.heap.size 3 1 v (readsOf t).length (ivs (readsOf t)) := by
  obtain ⟨i0, hi, hz0, hz1, hz2⟩ := info_parts Tryz.info3
  obtain ⟨s0, s1, s2, s3⟩ := hs
  have hS := stb_new w t
  have hm0 : Mod (fun _ => False) w (w.alloc (.cells #[.int .i64 t.op, .int .i64 t.x, .int .i64 t.y, .int .i64 t.z] 114)) := (Mod.refl _ w).alloc _
  by_cases h6 : 6 ≤ t.op
  · have HR : Hid (readsOf t = [t.x]) := show readsOf t = [t.x] by
      unfold readsOf; rw [if_neg (by omega), if_neg (by omega), if_pos h6]; rfl
    go_enter Tryz.func80, Tryz.ntmps80
    go_wp2_with (at_builtin; refine wpList_append_own _ rfl _ _ 39 rfl w.heap.size 3 i0 (.int .i64 0) 1 8 Tryz.underlying39 hi hz0 hz1 hz2 rfl (by decide) _ _ _ rfl (World.ownsRow_nil _ _ _ _) ⟨w.heap.size + 1, 0, none⟩ 1 1 [.int .i64 t.x] rfl rfl ?c1 ?c2 ?c3 ?c4 ?c5 ?_)
    case c1 => have := cell_one_new (w.alloc (.cells #[.int .i64 t.op, .int .i64 t.x, .int .i64 t.y, .int .i64 t.z] 114)) (.int .i64 t.x) 3; simpa using this
    case c2 => intro u hu; simp at hu; subst hu; rfl
    case c3 => unfold maxLen; omega
    case c4 => omega
    case c5 => simp; omega
    intro v' w4 hown4 hgrow _
    have hm4 : Mod (fun _ => False) w w4 := (hm0.alloc _).grown hgrow (fun q hq _ => by simp [Value.ownBlock] at hq)
    clear hgrow
    go_wp2_with fail
    go_ret
    exact ⟨hm4, _, rfl, by rw [HR.out]; exact hown4⟩
  · by_cases h5 : t.op = 5
    · have HR : Hid (readsOf t = [t.y]) := show readsOf t = [t.y] by
        unfold readsOf; rw [if_pos (by omega), if_neg (by omega), if_neg (by omega)]; rfl
      have ha : 5 ≤ t.op := by omega
      have hb : t.op ≤ 5 := by omega
      clear h5 h6
      go_enter Tryz.func80, Tryz.ntmps80
      go_wp2_with (at_builtin; refine wpList_append_own _ rfl _ _ 39 rfl w.heap.size 3 i0 (.int .i64 0) 1 8 Tryz.underlying39 hi hz0 hz1 hz2 rfl (by decide) _ _ _ rfl (World.ownsRow_nil _ _ _ _) ⟨w.heap.size + 1, 0, none⟩ 1 1 [.int .i64 t.y] rfl rfl ?d1 ?d2 ?d3 ?d4 ?d5 ?_)
      case d1 => have := cell_one_new (w.alloc (.cells #[.int .i64 t.op, .int .i64 t.x, .int .i64 t.y, .int .i64 t.z] 114)) (.int .i64 t.y) 3; simpa using this
      case d2 => intro u hu; simp at hu; subst hu; rfl
      case d3 => unfold maxLen; omega
      case d4 => omega
      case d5 => simp; omega
      intro v' w4 hown4 hgrow _
      have hm1 : Mod (fun _ => False) (w.alloc (.cells #[.int .i64 t.op, .int .i64 t.x, .int .i64 t.y, .int .i64 t.z] 114)) w4 := ((Mod.refl _ _).alloc _).grown hgrow (fun q hq _ => by simp [Value.ownBlock] at hq)
      have hm4 := hm0.trans hm1
      have c0 : w4.cell? ⟨w.heap.size, 0, none⟩ = some (.int .i64 t.op) := (show Stb w4 w.heap.size t from hm1.keep hS (fun f => f)).c0
      clear hgrow hm1
      go_wp2_with fail
      go_ret
      exact ⟨hm4, _, rfl, by rw [HR.out]; exact hown4⟩
    · by_cases h2 : 2 ≤ t.op
      · have HR : Hid (readsOf t = [t.y, t.z]) := show readsOf t = [t.y, t.z] by
          unfold readsOf; rw [if_pos (by omega), if_pos (by omega), if_neg (by omega)]; rfl
        have hb : t.op ≤ 4 := by omega
        clear h5 h6
        go_enter Tryz.func80, Tryz.ntmps80
        go_wp2_with (at_builtin; refine wpList_append_own _ rfl _ _ 39 rfl w.heap.size 3 i0 (.int .i64 0) 1 8 Tryz.underlying39 hi hz0 hz1 hz2 rfl (by decide) _ _ _ rfl (World.ownsRow_nil _ _ _ _) ⟨w.heap.size + 1, 0, none⟩ 1 1 [.int .i64 t.y] rfl rfl ?e1 ?e2 ?e3 ?e4 ?e5 ?_)
        case e1 => have := cell_one_new (w.alloc (.cells #[.int .i64 t.op, .int .i64 t.x, .int .i64 t.y, .int .i64 t.z] 114)) (.int .i64 t.y) 3; simpa using this
        case e2 => intro u hu; simp at hu; subst hu; rfl
        case e3 => unfold maxLen; omega
        case e4 => omega
        case e5 => simp; omega
        intro v' w4 hown4 hgrow _
        have hm1 : Mod (fun _ => False) (w.alloc (.cells #[.int .i64 t.op, .int .i64 t.x, .int .i64 t.y, .int .i64 t.z] 114)) w4 := ((Mod.refl _ _).alloc _).grown hgrow (fun q hq _ => by simp [Value.ownBlock] at hq)
        have hm4 := hm0.trans hm1
        have hS4 : Stb w4 w.heap.size t := hm1.keep hS (fun f => f)
        have c0 := hS4.c0
        have c3 := hS4.c3
        have hz4 := hm4.size
        obtain ⟨ao4, cap4, rfl, -⟩ := owns_form hown4
        clear hgrow hm1
        go_wp2_with (at_builtin; refine wpList_append_own _ rfl _ _ 39 rfl w.heap.size 3 i0 (.int .i64 0) 1 8 Tryz.underlying39 hi hz0 hz1 hz2 rfl (by decide) _ _ _ rfl (hown4.alloc _) ⟨w4.heap.size, 0, none⟩ 1 1 [.int .i64 t.z] rfl rfl ?f1 ?f2 ?f3 ?f4 ?f5 ?_)
        case f1 => exact cell_one_new _ _ _
        case f2 => intro u hu; simp at hu; subst hu; rfl
        case f3 => unfold maxLen; omega
        case f4 => omega
        case f5 => simp; omega
        intro v5 w5 hown5 hgrow5 _
        have hm5 : Mod (fun _ => False) w w5 := (hm4.alloc _).grown hgrow5 (fun q hq hlt => by have := (hown4.lt q hq).1; omega)
        have hS5 : Stb w5 w.heap.size t := by
          refine ((((Mod.refl (fun q => (Value.slice ao4 1 cap4).ownBlock = some q) w4).alloc _).grown hgrow5 (fun q hq _ => hq)).keep hS4 (fun e => ?_))
          obtain ⟨_, ⟨he, _⟩ | ⟨g1, c1, cur1, he1, _, hb1, _⟩⟩ := hown4
          · rw [he] at e; simp [Value.ownBlock] at e
          · rw [he1] at e; simp [Value.ownBlock] at e
            subst e
            unfold Stb at hS4; rw [hb1] at hS4; simp at hS4
        clear c0 c3
        have c0 := hS5.c0
        clear hgrow5
        go_wp2_with fail
        go_ret
        exact ⟨hm5, _, rfl, by rw [HR.out]; exact hown5⟩
      · have HR : Hid (readsOf t = []) := show readsOf t = [] by
          unfold readsOf; rw [if_neg (by omega), if_neg (by omega), if_neg (by omega)]; rfl
        clear h5
        go_enter Tryz.func80, Tryz.ntmps80
        go_wp2_with fail
        go_ret
        exact ⟨hm0, _, rfl, by rw [HR.out]; exact World.ownsRow_nil _ _ _ _⟩
end Go.Proofs.YtmnfndpbblpjiaaGreatDoor

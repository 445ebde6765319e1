/- The document's weight of a statement. -/
import Derived.Test.YtmnfndpbblpjiaaGreatDoorJd3
namespace Go.Proofs.YtmnfndpbblpjiaaGreatDoor
open Go.RowKit Pu

theorem gv_take {p : List (St × Nat)} {i : Nat} {l : List St} (h : sts p = l.take p.length) (hi : i ≤ p.length) : sts (p.take i) = l.take i := by
  have : sts (p.take i) = (sts p).take i := by simp [sts]
  rw [this, h, List.take_take]; congr 1; omega

set_option maxHeartbeats 1600000 in
set_option maxRecDepth 100000 in
theorem weight_step (v : Value) (l : List St) (base i : Nat) (w : World) (p : List (St × Nat)) (hl : l.length ≤ 1000) (hi : i < l.length) (hL : RLst w base v l) (hok : Ok p) (hp : sts p = l.take p.length) (hip : i ≤ p.length)
    (hg : ∀ a ∈ l[i].args, gvI (l.take i) a.toNat ≠ -1) (h4 : l[i].args.length ≤ 4)
    (ih : ∀ j (hj : j < p.length), j < i → Calls Tryz.prog 70 #[v, .int .i64 j] w fun e w' => e = .returned (.int .i64 p[j].2) ∧ w = w') :
    Calls Tryz.prog 70 #[v, .int .i64 i] w fun e w' => e = .returned (.int .i64 (wgh (p.take i) l[i])) ∧ w = w' := by
  obtain ⟨ao, cap, rfl, -⟩ := owns_form hL
  obtain ⟨gb, rfl, c0, c1, c2⟩ := hL.cell hi
  have IH : Hid (∀ j (hj : j < p.length), j < i → Calls Tryz.prog 70 #[.slice (some ⟨gb, 0, none⟩) l.length cap, .int .i64 j] w fun e w' => e = .returned (.int .i64 p[j].2) ∧ w = w') := ih
  clear ih
  have hst := gv_take hp hip
  have hoki : Ok (p.take i) := fun j hj => by
    have hj' : j < p.length := by simp at hj; omega
    have hji : j < i := by simp at hj; omega
    have := hok j hj'
    rw [List.take_take, show min j i = j by omega, List.getElem_take]; exact this
  have HO : Hid (Ok (p.take i)) := hoki
  have HG : Hid (∀ a ∈ l[i].args, gvI (l.take i) a.toNat ≠ -1) := hg
  have HST : Hid (sts (p.take i) = l.take i) := hst
  have HWG : Hid (∀ nm wd ag, l[i] = ⟨nm, wd, ag⟩ → wgh (p.take i) l[i] = if nm = 0 then 0 else wG wd (sumW (p.take i) ag) (lastW (p.take i) ag)) := fun nm wd ag h => by rw [h]; rfl
  clear hst hoki hg hp hok
  generalize hx : l[i] = x at *
  obtain ⟨nm, wd, ag⟩ := x
  simp only at c0 c1 c2 h4 HG
  have HWG2 : Hid (wgh (p.take i) ⟨nm, wd, ag⟩ = if nm = 0 then 0 else wG wd (sumW (p.take i) ag) (lastW (p.take i) ag)) := rfl
  clear HWG hx
  generalize wgh (p.take i) ⟨nm, wd, ag⟩ = res at *
  by_cases h0 : nm = 0
  · have hb : ((nm : Int) == 0) = true := beq_t (m := 0) h0
    have HR : Hid (res = 0) := show res = 0 by rw [HWG2.out, if_pos h0]
    clear h0
    go_enter Tryz.func70, Tryz.ntmps70
    go_wp2_with fail
    go_ret
    exact ⟨by rw [HR.out]; rfl, rfl⟩
  · have hb : ((nm : Int) == 0) = false := beq_f (m := 0) h0
    have HR : Hid (res = wG wd (sumW (p.take i) ag) (lastW (p.take i) ag)) := show res = wG wd (sumW (p.take i) ag) (lastW (p.take i) ag) by rw [HWG2.out, if_neg h0]
    clear h0 HWG2
    cases hpt : (wd == [112, 116]) with
    | true =>
      have HR2 : Hid (res = 1) := show res = 1 by rw [HR.out]; simp [wG, hpt]
      go_enter Tryz.func70, Tryz.ntmps70
      go_wp2_with fail
      go_ret
      exact ⟨by rw [HR2.out]; rfl, rfl⟩
    | false =>
      go_enter Tryz.func70, Tryz.ntmps70
      go_wp2_with fail
      go_loop [5, 6, 7] (fun a b i' => ∃ k : Nat, k ≤ ag.length ∧ i' = .int .i64 k ∧ a = .int .i64 (sumW (p.take i) (ag.take k)) ∧ b = .int .i64 (lastW (p.take i) (ag.take k))) (fun _ _ i' => ag.length - (intOf i').toNat)
      case atStart => exact ⟨0, by omega, rfl, rfl, rfl⟩
      case round =>
        obtain ⟨k, hk, rfl, rfl, rfl⟩ := hrel
        have b1 := HO.out.sumW (ag.take k)
        have b2 := HO.out.lastW (ag.take k)
        have b3 : (ag.take k).length ≤ k := List.length_take_le _ _
        by_cases hlt : k < ag.length
        · have HT : Hid (ag.take (k + 1) = ag.take k ++ [ag[k]]) := take_snoc' _ _ hlt
          obtain ⟨j, hj, hgj, -⟩ := given_lt (p := p.take i) (nm := ag[k].toNat) (by rw [HST.out]; exact HG.out _ (List.getElem_mem hlt))
          have hji : j < i := by simp at hj; omega
          have hjp : j < p.length := by simp at hj; omega
          have HW : Hid (argW (p.take i) ag[k].toNat = p[j].2) := show argW (p.take i) ag[k].toNat = p[j].2 by simp [argW, who_of hj hgj]
          have hwb : p[j].2 ≤ 64 := by have := HO.out.argW ag[k].toNat; rw [HW.out] at this; exact this
          have HJ : Hid (gvI (l.take i) ag[k].toNat = (j : Int)) := show gvI (l.take i) ag[k].toNat = (j : Int) by rw [← HST.out]; exact hgj
          clear hgj hj
          have hso : ∀ h, (⟨ag.toArray⟩ : ByteArray)[k]'h = ag[k] := fun _ => rfl
          go_wp2_with fail
          have hgv := given_any (.slice (some ⟨gb, 0, none⟩) l.length cap) l i ag[k].toNat base w hl (by omega) hL
          rw [HJ.out] at hgv
          refine hgv.mono ?_
          rintro e w2 ⟨rfl, rfl⟩
          clear hgv
          go_wp2_with fail
          refine (IH.out j hjp hji).mono ?_
          rintro e w2 ⟨rfl, rfl⟩
          go_wp2_with fail
          go_round
          case rel => exact ⟨k + 1, by omega, by go_num, by rw [HT.out, sumW_snoc, HW.out]; go_num, by rw [HT.out, lastW_snoc, HW.out]⟩
          case measure => simp [intOf]; omega
        · have hkl : k = ag.length := by omega
          subst hkl
          rw [List.take_length] at b1 b2 ⊢
          clear b3
          cases hf : (wd == [102, 111, 111, 116]) with
          | true =>
            have HR2 : Hid (res = sumW (p.take i) ag + lastW (p.take i) ag) := show res = sumW (p.take i) ag + lastW (p.take i) ag by rw [HR.out]; simp [wG, hpt, hf]
            go_wp2_with fail
            go_ret
            exact ⟨by rw [HR2.out]; rfl, rfl⟩
          | false =>
            cases hm : (wd == [109, 105, 114, 114, 111, 114]) with
            | true =>
              have HR2 : Hid (res = 2 * sumW (p.take i) ag) := show res = 2 * sumW (p.take i) ag by rw [HR.out]; simp [wG, hpt, hf, hm]
              go_wp2_with fail
              go_ret
              exact ⟨by rw [HR2.out]; rfl, rfl⟩
            | false =>
              cases hc : (wd == [99, 101, 110, 116, 114, 101]) with
              | true =>
                have HR2 : Hid (res = 4 * sumW (p.take i) ag) := show res = 4 * sumW (p.take i) ag by rw [HR.out]; simp [wG, hpt, hf, hm, hc]
                go_wp2_with fail
                go_ret
                exact ⟨by rw [HR2.out]; rfl, rfl⟩
              | false =>
                have HR2 : Hid (res = sumW (p.take i) ag) := show res = sumW (p.take i) ag by rw [HR.out]; simp [wG, hpt, hf, hm, hc]
                go_wp2_with fail
                go_ret
                exact ⟨by rw [HR2.out]; rfl, rfl⟩

theorem weight_at (v : Value) (l : List St) (base : Nat) (w : World) (p : List (St × Nat)) (hl : l.length ≤ 1000) (hL : RLst w base v l) (hok : Ok p) (hp : sts p = l.take p.length) (hpl : p.length ≤ l.length) :
    ∀ n j (hj : j < p.length), j < n → Calls Tryz.prog 70 #[v, .int .i64 j] w fun e w' => e = .returned (.int .i64 p[j].2) ∧ w = w' := by
  intro n
  induction n with
  | zero => intro j hj h; omega
  | succ n ih =>
    intro j hj hjn
    have hjl : j < l.length := by omega
    have hx : p[j].1 = l[j] := by
      have h1 : (sts p)[j]? = (l.take p.length)[j]? := by rw [hp]
      simp [sts, hj, hjl] at h1
      exact h1
    obtain ⟨he, hw⟩ := hok j hj
    have hz := err_zero he
    rw [hx] at hz hw
    have hn := hz.2.2.1
    rw [gv_take hp (by omega)] at hn
    have := weight_step v l base j w p hl hjl hL hok hp (by omega) (names_each hn) (by have := fm_len l[j].word; rw [hz.2.1]; omega) (fun i hi hij => ih i hi (by omega))
    rw [← hw] at this
    exact this
theorem weight_next (v : Value) (l : List St) (base : Nat) (w : World) (p : List (St × Nat)) (hl : l.length ≤ 1000) (hL : RLst w base v l) (hok : Ok p) (hp : sts p = l.take p.length) (hi : p.length < l.length)
    (hg : ∀ a ∈ l[p.length].args, gvI (sts p) a.toNat ≠ -1) (h4 : l[p.length].args.length ≤ 4) :
    Calls Tryz.prog 70 #[v, .int .i64 p.length] w fun e w' => e = .returned (.int .i64 (wgh p l[p.length])) ∧ w = w' := by
  have := weight_step v l base p.length w p hl hi hL hok hp (Nat.le_refl _) (by rw [← hp]; exact hg) h4 (fun j hj _ => weight_at v l base w p hl hL hok hp (by omega) (j + 1) j hj (by omega))
  rw [List.take_length] at this
  exact this
end Go.Proofs.YtmnfndpbblpjiaaGreatDoor

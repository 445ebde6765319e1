/- The document's fault of a statement. -/
import Derived.Test.YtmnfndpbblpjiaaGreatDoorZa06
import Derived.Test.YtmnfndpbblpjiaaGreatDoorZa05
import Derived.Test.YtmnfndpbblpjiaaGreatDoorZa07
namespace Go.Proofs.YtmnfndpbblpjiaaGreatDoor
open Go.RowKit Pu
theorem RLst.mod {w w' : World} {base : Nat} {v : Value} {l : List St} (h : RLst w base v l) (hm : Mod (fun _ => False) w w') : RLst w' base v l := owns_mod h hm (fun _ _ f => f)
theorem sx_new (w : World) (nm : Nat) (wd ag : List UInt8) : Sx (w.alloc (.cells #[.int .u8 nm, S wd, S ag] 124)) w.heap.size ⟨nm, wd, ag⟩ := by
  unfold Sx; show (w.heap.push _)[w.heap.size]? = _; simp
theorem gvI_ge (l : List St) (nm : Nat) : gvI l nm = -1 ∨ 0 ≤ gvI l nm := by
  rcases gvI_cases l nm with ⟨h, _⟩ | ⟨k, _, h, _⟩
  · exact .inl h
  · exact .inr (by omega)
theorem sortsF_no {p : List (St × Nat)} {ag so : List UInt8} {k : Nat} (hk : k < ag.length) (hs : k < so.length) (h : ¬ (fm (argWord p ag[k].toNat)).2 = so[k].toNat) : sortsOk p ag so = false := by
  unfold sortsOk
  rw [Bool.eq_false_iff, ne_eq, List.all_eq_true]
  intro H
  have := H (ag[k], so[k]) (by rw [← List.getElem_zip (h := by simp; omega)]; exact List.getElem_mem _)
  exact h (by simpa using this)
theorem sortsF_yes {p : List (St × Nat)} {ag so : List UInt8} (h : ∀ j (hj : j < ag.length) (hs : j < so.length), (fm (argWord p ag[j].toNat)).2 = so[j].toNat) : sortsOk p ag so = true := by
  unfold sortsOk
  rw [List.all_eq_true]
  intro y hy
  obtain ⟨j, hj, rfl⟩ := List.getElem_of_mem hy
  have hj' : j < min ag.length so.length := by simpa using hj
  simpa using h j (by omega) (by omega)
theorem known_iff (nm : Nat) (wd ag : List UInt8) (gv : Nat) (h : (fm wd).2 = gv) : known ⟨nm, wd, ag⟩ = !((gv == 0) || ((decide (gv = 63)) != (decide (nm = 0)))) := by
  unfold known; simp only [h]
  by_cases h0 : gv = 0
  · simp [h0]
  · by_cases h1 : gv = 63 <;> by_cases h2 : nm = 0 <;> simp [h1, h2, bne]
set_option maxHeartbeats 2000000 in
set_option maxRecDepth 100000 in
theorem fault_any (v : Value) (l : List St) (base : Nat) (w : World) (p : List (St × Nat)) (hl : l.length ≤ 1000) (hL : RLst w base v l) (hok : Ok p) (hp : sts p = l.take p.length) (hi : p.length < l.length) :
    Calls Tryz.prog 67 #[v, .int .i64 p.length] w fun e w' => e = .returned (.int .i64 (err p l[p.length])) ∧ Mod (fun _ => False) w w' := by
  obtain ⟨ao, cap, rfl, -⟩ := owns_form hL
  obtain ⟨gb, rfl, c0, c1, c2⟩ := hL.cell hi
  have HO : Hid (Ok p) := hok
  have HP : Hid (sts p = l.take p.length) := hp
  have HWN : Hid (∀ W, RLst W base (.slice (some ⟨gb, 0, none⟩) l.length cap) l → (∀ a ∈ l[p.length].args, gvI (sts p) a.toNat ≠ -1) → l[p.length].args.length ≤ 4 → Calls Tryz.prog 70 #[.slice (some ⟨gb, 0, none⟩) l.length cap, .int .i64 p.length] W fun e w' => e = .returned (.int .i64 (wgh p l[p.length])) ∧ W = w') :=
    fun W hLW h1 h2 => weight_next _ l base W p hl hLW hok hp hi h1 h2
  clear hok hp
  generalize hx : l[p.length] = x at *
  obtain ⟨nm, wd, ag⟩ := x
  have hX := sx_new w nm wd ag
  have hm0 : Mod (fun _ => False) w (w.alloc (.cells #[.int .u8 nm, S wd, S ag] 124)) := (Mod.refl _ w).alloc _
  have hL1 := hL.mod hm0
  simp only at c0 c1 c2 HWN
  clear hx hL
  have hfl := fm_len wd
  have hFM := form_any ⟨wd.toArray⟩ (w.alloc (.cells #[.int .u8 nm, S wd, S ag] 124))
  rw [ByteArray.toList_mk] at hFM
  have HFM : Hid (Calls Tryz.prog 113 #[S wd] (w.alloc (.cells #[.int .u8 nm, S wd, S ag] 124)) fun e w' => e = .returned (.tuple #[S (fm wd).1, .int .u8 (fm wd).2]) ∧ w.alloc (.cells #[.int .u8 nm, S wd, S ag] 124) = w') := hFM
  clear hFM
  have HE : Hid (err p ⟨nm, wd, ag⟩ = if known ⟨nm, wd, ag⟩ = false then 3 else if ag.length ≠ (fm wd).1.length then 4 else if namesOk (sts p) ⟨nm, wd, ag⟩ = false then 5 else if sortsOk p ag (fm wd).1 = false then 6 else if 64 < wgh p ⟨nm, wd, ag⟩ then 7 else 0) := rfl
  generalize err p ⟨nm, wd, ag⟩ = er at *
  generalize hgv : (fm wd).2 = gv at *
  generalize hso : (fm wd).1 = so at *
  have hkn := known_iff nm wd ag gv hgv
  clear hgv hso
  by_cases hz : gv = 0
  · have HR : Hid (er = 3) := show er = 3 by rw [HE.out, hkn]; simp [hz]
    clear HE hkn HWN
    have hb : ((gv : Int) == 0) = true := beq_t (m := 0) hz
    clear hz
    go_enter Tryz.func67, Tryz.ntmps67
    go_wp2_with fail
    refine HFM.out.mono ?_
    rintro e w2 ⟨rfl, rfl⟩
    go_wp2_with fail
    go_ret
    exact ⟨by rw [HR.out]; rfl, hm0⟩
  · have hb : ((gv : Int) == 0) = false := beq_f (m := 0) hz
    have e1 : ((gv : Int) == 63) = decide (gv = 63) := by rw [Bool.eq_iff_iff]; simp; omega
    have e2 : ((nm : Int) == 0) = decide (nm = 0) := by rw [Bool.eq_iff_iff]; simp
    have e3 : ((nm : Int) != 0) = !decide (nm = 0) := by rw [bne, e2]
    have hkn' : known ⟨nm, wd, ag⟩ = !((decide (gv = 63)) != (decide (nm = 0))) := by rw [hkn]; simp [hz]
    clear hkn hz
    have HN0 : Hid (∀ b, decide (nm = 0) = b → (nm == 0) = b) := fun b h => by rw [← h]; rfl
    generalize decide (gv = 63) = b1 at *
    generalize hd : decide (nm = 0) = b2 at *
    have HND : Hid ((nm == 0) = b2) := HN0.out b2 rfl
    clear hd HN0
    have x0 := hX.c0
    have x2 := hX.c2
    by_cases hbb : b1 = b2
    · subst hbb
      have HKN : Hid (known ⟨nm, wd, ag⟩ = true) := show known ⟨nm, wd, ag⟩ = true by rw [hkn']; simp
      clear hkn'
      by_cases hc : ag.length = so.length
      · have HC : Hid (ag.length = so.length) := hc
        have hcb : ((ag.length : Int) != (so.length : Int)) = false := by rw [hc]; simp
        have hal4 : ag.length ≤ 4 := by omega
        clear hc
        go_enter Tryz.func67, Tryz.ntmps67
        go_wp2_with fail
        refine HFM.out.mono ?_
        rintro e w2 ⟨rfl, rfl⟩
        go_wp2_with fail
        generalize w.alloc (.cells #[.int .u8 nm, S wd, S ag] 124) = W at *
        go_loop [8] (fun i => ∃ k : Nat, k ≤ ag.length ∧ i = .int .i64 k ∧ ∀ j (hj : j < ag.length), j < k → gvI (l.take p.length) ag[j].toNat ≠ -1) (fun i => ag.length - (intOf i).toNat)
        case atStart => exact ⟨0, by omega, rfl, fun j hj h => by omega⟩
        case round =>
          obtain ⟨k, hk, rfl, hN⟩ := hrel
          have HN : Hid (∀ j (hj : j < ag.length), j < k → gvI (l.take p.length) ag[j].toNat ≠ -1) := hN
          clear hN
          by_cases hlt : k < ag.length
          · have hks : k < so.length := by have := HC.out; omega
            have hso : ∀ h, (⟨ag.toArray⟩ : ByteArray)[k]'h = ag[k] := fun _ => rfl
            rcases gvI_ge (l.take p.length) ag[k].toNat with hg | hg
            · have HG : Hid (gvI (l.take p.length) ag[k].toNat = -1) := hg
              clear hg
              go_wp2_with fail
              have hgv := given_any (.slice (some ⟨gb, 0, none⟩) l.length cap) l p.length ag[k].toNat base W hl (by omega) hL1
              rw [HG.out] at hgv
              refine hgv.mono ?_
              rintro e w2 ⟨rfl, rfl⟩
              clear hgv
              go_wp2_with fail
              go_ret
              have HR : er = 5 := by
                have h5 : namesOk (sts p) ⟨nm, wd, ag⟩ = false := by rw [HP.out]; exact names_no (x := ⟨nm, wd, ag⟩) hlt HG.out
                rw [HE.out, HKN.out, h5]; simp [HC.out]
              exact ⟨by rw [HR]; rfl, hm0⟩
            · have HG : Hid (gvI (l.take p.length) ag[k].toNat ≠ -1) := show gvI (l.take p.length) ag[k].toNat ≠ -1 by omega
              have hgb : decide (gvI (l.take p.length) ag[k].toNat < 0) = false := by simp; exact hg
              go_wp2_with fail
              refine (given_any (.slice (some ⟨gb, 0, none⟩) l.length cap) l p.length ag[k].toNat base W hl (by omega) hL1).mono ?_
              rintro e w2 ⟨rfl, rfl⟩
              go_wp2_with fail
              go_round
              case rel => exact ⟨k + 1, by omega, by go_num, fun j hj h => by by_cases e : j = k; (· subst e; exact HG.out); exact HN.out j hj (by omega)⟩
              case measure => simp [intOf]; omega
          · have HALL : Hid (∀ a ∈ ag, gvI (l.take p.length) a.toNat ≠ -1) := fun a ha => by
              obtain ⟨j, hj, rfl⟩ := List.getElem_of_mem ha
              exact HN.out j hj (by omega)
            have hks : so.length ≤ k := by have := HC.out; omega
            clear HN
            cases b1 with
            | true =>
              simp only [Bool.not_true] at e3
              have HNM : Hid (namesOk (sts p) ⟨nm, wd, ag⟩ = true) := show namesOk (sts p) ⟨nm, wd, ag⟩ = true by
                have ha : ag.all (fun a => gvI (sts p) a.toNat != -1) = true := by rw [List.all_eq_true]; intro a ha; rw [bne_iff_ne, HP.out]; exact HALL.out a ha
                simp only [namesOk, ha, HND.out]; rfl
              go_wp2_with fail
              go_loop [9] (fun i => ∃ k : Nat, k ≤ ag.length ∧ i = .int .i64 k ∧ ∀ j (hj : j < ag.length) (hs : j < so.length), j < k → (fm (argWord p ag[j].toNat)).2 = so[j].toNat) (fun i => ag.length - (intOf i).toNat)
              case atStart => exact ⟨0, by omega, rfl, fun j hj hs h => by omega⟩
              case round =>
                obtain ⟨k, hk, rfl, hN⟩ := hrel
                have HN : Hid (∀ j (hj : j < ag.length) (hs : j < so.length), j < k → (fm (argWord p ag[j].toNat)).2 = so[j].toNat) := hN
                clear hN
                by_cases hlt : k < ag.length
                · have hks : k < so.length := by have := HC.out; omega
                  have hsa : ∀ h, (⟨ag.toArray⟩ : ByteArray)[k]'h = ag[k] := fun _ => rfl
                  have hso : ∀ h, (⟨so.toArray⟩ : ByteArray)[k]'h = so[k] := fun _ => rfl
                  obtain ⟨j, hj, hgj, -⟩ := given_lt (p := p) (nm := ag[k].toNat) (by rw [HP.out]; exact HALL.out _ (List.getElem_mem hlt))
                  have hjl : j < l.length := by omega
                  have hpj : p[j].1 = l[j] := by
                    have h1 : (sts p)[j]? = (l.take p.length)[j]? := by rw [HP.out]
                    simp [sts, hj, hjl] at h1
                    exact h1
                  have HW : Hid (argWord p ag[k].toNat = l[j].word) := show argWord p ag[k].toNat = l[j].word by simp [argWord, who_of hj hgj, hpj]
                  have HJ : Hid (gvI (l.take p.length) ag[k].toNat = (j : Int)) := show gvI (l.take p.length) ag[k].toNat = (j : Int) by rw [← HP.out]; exact hgj
                  obtain ⟨gb', hgb', -, d1, -⟩ := hL1.cell hjl
                  cases hgb'
                  clear hgj hpj
                  have hF2 := form_any ⟨l[j].word.toArray⟩ W
                  rw [ByteArray.toList_mk] at hF2
                  have HF2 : Hid (Calls Tryz.prog 113 #[S l[j].word] W fun e w' => e = .returned (.tuple #[S (fm l[j].word).1, .int .u8 (fm l[j].word).2]) ∧ W = w') := hF2
                  clear hF2
                  generalize l[j].word = wj at *
                  generalize (fm wj).1 = f1 at *
                  generalize hf2 : (fm wj).2 = f2 at *
                  have HF : Hid ((fm wj).2 = f2) := hf2
                  clear hf2
                  by_cases he : f2 = so[k].toNat
                  · have HEQ : Hid (f2 = so[k].toNat) := he
                    have hbe : ((f2 : Int) != (so[k].toNat : Int)) = false := by rw [he]; simp
                    clear he
                    go_wp2_with fail
                    have hgv := given_any (.slice (some ⟨gb, 0, none⟩) l.length cap) l p.length ag[k].toNat base W hl (by omega) hL1
                    rw [HJ.out] at hgv
                    refine hgv.mono ?_
                    rintro e w2 ⟨rfl, rfl⟩
                    clear hgv
                    go_wp2_with fail
                    refine HF2.out.mono ?_
                    rintro e w2 ⟨rfl, rfl⟩
                    go_wp2_with fail
                    go_round
                    case rel => exact ⟨k + 1, by omega, by go_num, fun j hj hs h => by by_cases e : j = k; (· subst e; rw [HW.out, HF.out]; exact HEQ.out); exact HN.out j hj hs (by omega)⟩
                    case measure => simp [intOf]; omega
                  · have hbe : ((f2 : Int) != (so[k].toNat : Int)) = true := by rw [bne_iff_ne]; omega
                    go_wp2_with fail
                    have hgv := given_any (.slice (some ⟨gb, 0, none⟩) l.length cap) l p.length ag[k].toNat base W hl (by omega) hL1
                    rw [HJ.out] at hgv
                    refine hgv.mono ?_
                    rintro e w2 ⟨rfl, rfl⟩
                    clear hgv
                    go_wp2_with fail
                    refine HF2.out.mono ?_
                    rintro e w2 ⟨rfl, rfl⟩
                    go_wp2_with fail
                    go_ret
                    have HR : er = 6 := by
                      have h6 : sortsOk p ag so = false := sortsF_no hlt hks (by rw [HW.out, HF.out]; exact he)
                      rw [HE.out, HKN.out, HNM.out, h6]; simp [HC.out]
                    exact ⟨by rw [HR]; rfl, hm0⟩
                · have H6 : Hid (sortsOk p ag so = true) := sortsF_yes (fun j hj hs => HN.out j hj hs (by omega))
                  have hks : so.length ≤ k := by have := HC.out; omega
                  clear HN
                  have hW := HWN.out W hL1 (by rw [HP.out]; exact HALL.out) hal4
                  have HW : Hid (Calls Tryz.prog 70 #[.slice (some ⟨gb, 0, none⟩) l.length cap, .int .i64 p.length] W fun e w' => e = .returned (.int .i64 (wgh p ⟨nm, wd, ag⟩)) ∧ W = w') := hW
                  clear hW HWN
                  generalize wgh p ⟨nm, wd, ag⟩ = wv at *
                  by_cases h64 : 64 < wv
                  · have HR : Hid (er = 7) := show er = 7 by rw [HE.out, HKN.out, HNM.out, H6.out]; simp [HC.out, h64]
                    go_wp2_with fail
                    refine HW.out.mono ?_
                    rintro e w2 ⟨rfl, rfl⟩
                    go_wp2_with fail
                    go_ret
                    exact ⟨by rw [HR.out]; rfl, hm0⟩
                  · have HR : Hid (er = 0) := show er = 0 by rw [HE.out, HKN.out, HNM.out, H6.out]; simp [HC.out, h64]
                    go_wp2_with fail
                    refine HW.out.mono ?_
                    rintro e w2 ⟨rfl, rfl⟩
                    go_wp2_with fail
                    go_ret
                    exact ⟨by rw [HR.out]; rfl, hm0⟩
            | false =>
              simp only [Bool.not_false] at e3
              rcases gvI_ge (l.take p.length) nm with hg | hg
              · have HG : Hid (gvI (l.take p.length) nm = -1) := hg
                clear hg
                have HNM : Hid (namesOk (sts p) ⟨nm, wd, ag⟩ = true) := show namesOk (sts p) ⟨nm, wd, ag⟩ = true by
                  have ha : ag.all (fun a => gvI (sts p) a.toNat != -1) = true := by rw [List.all_eq_true]; intro a ha; rw [bne_iff_ne, HP.out]; exact HALL.out a ha
                  have hgn : gvI (sts p) nm = -1 := by rw [HP.out]; exact HG.out
                  simp only [namesOk, ha, HND.out, hgn]; rfl
                go_wp2_with fail
                have hgv := given_any (.slice (some ⟨gb, 0, none⟩) l.length cap) l p.length nm base W hl (by omega) hL1
                rw [HG.out] at hgv
                refine hgv.mono ?_
                rintro e w2 ⟨rfl, rfl⟩
                clear hgv
                go_wp2_with fail
                go_loop [9] (fun i => ∃ k : Nat, k ≤ ag.length ∧ i = .int .i64 k ∧ ∀ j (hj : j < ag.length) (hs : j < so.length), j < k → (fm (argWord p ag[j].toNat)).2 = so[j].toNat) (fun i => ag.length - (intOf i).toNat)
                case atStart => exact ⟨0, by omega, rfl, fun j hj hs h => by omega⟩
                case round =>
                  obtain ⟨k, hk, rfl, hN⟩ := hrel
                  have HN : Hid (∀ j (hj : j < ag.length) (hs : j < so.length), j < k → (fm (argWord p ag[j].toNat)).2 = so[j].toNat) := hN
                  clear hN
                  by_cases hlt : k < ag.length
                  · have hks : k < so.length := by have := HC.out; omega
                    have hsa : ∀ h, (⟨ag.toArray⟩ : ByteArray)[k]'h = ag[k] := fun _ => rfl
                    have hso : ∀ h, (⟨so.toArray⟩ : ByteArray)[k]'h = so[k] := fun _ => rfl
                    obtain ⟨j, hj, hgj, -⟩ := given_lt (p := p) (nm := ag[k].toNat) (by rw [HP.out]; exact HALL.out _ (List.getElem_mem hlt))
                    have hjl : j < l.length := by omega
                    have hpj : p[j].1 = l[j] := by
                      have h1 : (sts p)[j]? = (l.take p.length)[j]? := by rw [HP.out]
                      simp [sts, hj, hjl] at h1
                      exact h1
                    have HW : Hid (argWord p ag[k].toNat = l[j].word) := show argWord p ag[k].toNat = l[j].word by simp [argWord, who_of hj hgj, hpj]
                    have HJ : Hid (gvI (l.take p.length) ag[k].toNat = (j : Int)) := show gvI (l.take p.length) ag[k].toNat = (j : Int) by rw [← HP.out]; exact hgj
                    obtain ⟨gb', hgb', -, d1, -⟩ := hL1.cell hjl
                    cases hgb'
                    clear hgj hpj
                    have hF2 := form_any ⟨l[j].word.toArray⟩ W
                    rw [ByteArray.toList_mk] at hF2
                    have HF2 : Hid (Calls Tryz.prog 113 #[S l[j].word] W fun e w' => e = .returned (.tuple #[S (fm l[j].word).1, .int .u8 (fm l[j].word).2]) ∧ W = w') := hF2
                    clear hF2
                    generalize l[j].word = wj at *
                    generalize (fm wj).1 = f1 at *
                    generalize hf2 : (fm wj).2 = f2 at *
                    have HF : Hid ((fm wj).2 = f2) := hf2
                    clear hf2
                    by_cases he : f2 = so[k].toNat
                    · have HEQ : Hid (f2 = so[k].toNat) := he
                      have hbe : ((f2 : Int) != (so[k].toNat : Int)) = false := by rw [he]; simp
                      clear he
                      go_wp2_with fail
                      have hgv := given_any (.slice (some ⟨gb, 0, none⟩) l.length cap) l p.length ag[k].toNat base W hl (by omega) hL1
                      rw [HJ.out] at hgv
                      refine hgv.mono ?_
                      rintro e w2 ⟨rfl, rfl⟩
                      clear hgv
                      go_wp2_with fail
                      refine HF2.out.mono ?_
                      rintro e w2 ⟨rfl, rfl⟩
                      go_wp2_with fail
                      go_round
                      case rel => exact ⟨k + 1, by omega, by go_num, fun j hj hs h => by by_cases e : j = k; (· subst e; rw [HW.out, HF.out]; exact HEQ.out); exact HN.out j hj hs (by omega)⟩
                      case measure => simp [intOf]; omega
                    · have hbe : ((f2 : Int) != (so[k].toNat : Int)) = true := by rw [bne_iff_ne]; omega
                      go_wp2_with fail
                      have hgv := given_any (.slice (some ⟨gb, 0, none⟩) l.length cap) l p.length ag[k].toNat base W hl (by omega) hL1
                      rw [HJ.out] at hgv
                      refine hgv.mono ?_
                      rintro e w2 ⟨rfl, rfl⟩
                      clear hgv
                      go_wp2_with fail
                      refine HF2.out.mono ?_
                      rintro e w2 ⟨rfl, rfl⟩
                      go_wp2_with fail
                      go_ret
                      have HR : er = 6 := by
                        have h6 : sortsOk p ag so = false := sortsF_no hlt hks (by rw [HW.out, HF.out]; exact he)
                        rw [HE.out, HKN.out, HNM.out, h6]; simp [HC.out]
                      exact ⟨by rw [HR]; rfl, hm0⟩
                  · have H6 : Hid (sortsOk p ag so = true) := sortsF_yes (fun j hj hs => HN.out j hj hs (by omega))
                    have hks : so.length ≤ k := by have := HC.out; omega
                    clear HN
                    have hW := HWN.out W hL1 (by rw [HP.out]; exact HALL.out) hal4
                    have HW : Hid (Calls Tryz.prog 70 #[.slice (some ⟨gb, 0, none⟩) l.length cap, .int .i64 p.length] W fun e w' => e = .returned (.int .i64 (wgh p ⟨nm, wd, ag⟩)) ∧ W = w') := hW
                    clear hW HWN
                    generalize wgh p ⟨nm, wd, ag⟩ = wv at *
                    by_cases h64 : 64 < wv
                    · have HR : Hid (er = 7) := show er = 7 by rw [HE.out, HKN.out, HNM.out, H6.out]; simp [HC.out, h64]
                      go_wp2_with fail
                      refine HW.out.mono ?_
                      rintro e w2 ⟨rfl, rfl⟩
                      go_wp2_with fail
                      go_ret
                      exact ⟨by rw [HR.out]; rfl, hm0⟩
                    · have HR : Hid (er = 0) := show er = 0 by rw [HE.out, HKN.out, HNM.out, H6.out]; simp [HC.out, h64]
                      go_wp2_with fail
                      refine HW.out.mono ?_
                      rintro e w2 ⟨rfl, rfl⟩
                      go_wp2_with fail
                      go_ret
                      exact ⟨by rw [HR.out]; rfl, hm0⟩
              · have HNM : Hid (namesOk (sts p) ⟨nm, wd, ag⟩ = false) := show namesOk (sts p) ⟨nm, wd, ag⟩ = false by
                  have h1 : (gvI (sts p) nm == -1) = false := by rw [beq_eq_false_iff_ne, HP.out]; omega
                  simp [namesOk, HND.out, h1]
                have HR : Hid (er = 5) := show er = 5 by rw [HE.out, HKN.out, HNM.out]; simp [HC.out]
                go_wp2_with fail
                refine (given_any (.slice (some ⟨gb, 0, none⟩) l.length cap) l p.length nm base W hl (by omega) hL1).mono ?_
                rintro e w2 ⟨rfl, rfl⟩
                go_wp2_with fail
                go_ret
                exact ⟨by rw [HR.out]; rfl, hm0⟩
      · have hcb : ((ag.length : Int) != (so.length : Int)) = true := by rw [bne_iff_ne]; omega
        have HR : Hid (er = 4) := show er = 4 by rw [HE.out, HKN.out]; simp [hc]
        go_enter Tryz.func67, Tryz.ntmps67
        go_wp2_with fail
        refine HFM.out.mono ?_
        rintro e w2 ⟨rfl, rfl⟩
        go_wp2_with fail
        go_ret
        exact ⟨by rw [HR.out]; rfl, hm0⟩
    · have hb2 : b2 = !b1 := by cases b1 <;> cases b2 <;> simp_all
      subst hb2
      have HR : Hid (er = 3) := show er = 3 by rw [HE.out, hkn']; simp
      clear HE hkn' HWN hbb
      go_enter Tryz.func67, Tryz.ntmps67
      go_wp2_with fail
      refine HFM.out.mono ?_
      rintro e w2 ⟨rfl, rfl⟩
      go_wp2_with fail
      go_ret
      exact ⟨by rw [HR.out]; rfl, hm0⟩
end Go.Proofs.YtmnfndpbblpjiaaGreatDoor

/- The document's Check. -/
namespace Go.Proofs.YtmnfndpbblpjiaaGreatDoor
open Go.RowKit Pu
theorem Pu.whole_head {s : ByteArray} (h : Whole s) : g s 0 ≠ 61 := by
  obtain ⟨x, hx, _⟩ := h
  by_cases h0 : s.size = 0
  · rw [g_out (by omega)]; decide
  · obtain ⟨d, hd⟩ : ∃ d, s.size = 1 + d := ⟨s.size - 1, by omega⟩
    rw [hd] at hx
    obtain ⟨y, hy⟩ := stA_le hx
    intro he
    simp [stA, nx, he, isL] at hy
set_option maxHeartbeats 400000 in
theorem rcheck_long (s : ByteArray) (w : World) (hs : 300 < s.size) (hm : s.size ≤ maxLen) : Calls Tryz.prog 37 #[.string s] w fun e w' => e = .returned (.tuple #[.int .i64 1, .int .i64 0]) ∧ w = w' := by
  unfold maxLen at hm
  go_enter Tryz.func37, Tryz.ntmps37
  go_wp2_with fail
  go_ret2
  exact ⟨rfl, rfl⟩
set_option maxHeartbeats 1000000 in
set_option maxRecDepth 100000 in
theorem rcheck_any (s : ByteArray) (w : World) (hs : s.size ≤ 300) : Calls Tryz.prog 37 #[.string s] w fun e w' => (∃ a b : Nat, Ans s a b ∧ e = .returned (.tuple #[.int .i64 a, .int .i64 b])) ∧ Mod (fun _ => False) w w' := by
  go_enter Tryz.func37, Tryz.ntmps37
  go_wp2_with fail
  refine (place_any s w hs).mono ?_
  rintro e w1 ⟨hm1, ⟨rfl, hw⟩ | ⟨k, rfl, hst⟩⟩
  · go_wp2_with fail
    refine (stmts_any s w1 hs (whole_head hw)).mono ?_
    rintro e w2 ⟨hm2, v, rfl, hL⟩
    have hll := (ga_len s s.size).1
    have HAns : Hid (∀ (a b : Nat) (p : List (St × Nat)) (hk : b < (gaA s s.size).l.length), Ok p → sts p = (gaA s s.size).l.take b → err p (gaA s s.size).l[b] ≠ 0 → a = err p (gaA s s.size).l[b] → Ans s a b) := fun a b p hk h1 h2 h3 h4 => .inr (.inl ⟨hw, p, hk, h1, h2, h3, h4⟩)
    have HOk : Hid (∀ p, Ok p → sts p = (gaA s s.size).l → Ans s 0 0) := fun p h1 h2 => .inr (.inr ⟨hw, rfl, rfl, p, h1, h2⟩)
    generalize (gaA s s.size).l = l at *
    have hm := hm1.trans hm2
    clear hm1 hm2
    obtain ⟨ao, cap, rfl, -⟩ := owns_form hL
    go_wp2_with fail
    go_loopw [6] (fun i wr => ∃ (k : Nat) (p : List (St × Nat)), k ≤ l.length ∧ i = .int .i64 k ∧ p.length = k ∧ Ok p ∧ sts p = l.take p.length ∧ RLst wr w1.heap.size (.slice ao l.length cap) l ∧ Mod (fun _ => False) w wr) (fun i _ => l.length - (intOf i).toNat)
    case atStart => exact ⟨0, [], by omega, rfl, rfl, Ok.nil, rfl, hL, hm⟩
    case round =>
      clear hL hm
      obtain ⟨k, p, hk, rfl, rfl, hok, hp, hL, hm⟩ := hrel
      have HP : Hid (sts p = l.take p.length) := hp
      clear hp
      by_cases hlt : p.length < l.length
      · by_cases he : err p l[p.length] = 0
        · have HE : Hid (err p l[p.length] = 0) := he
          clear he
          go_wp2_with fail
          have hF := fault_any _ l w1.heap.size wr p (by omega) hL hok HP.out hlt
          rw [HE.out] at hF
          refine hF.mono ?_
          clear hF
          rintro e w3 ⟨rfl, hm3⟩
          have hL3 := hL.mod hm3
          have hm4 := hm.trans hm3
          clear hL hm hm3
          go_wp2_with fail
          go_roundw
          case rel => exact ⟨p.length + 1, p ++ [(l[p.length], wgh p l[p.length])], by omega, by go_num, by simp, hok.snoc HE.out, by
            rw [List.length_append]; simp only [sts, List.map_append]; rw [show (p.map Prod.fst) = l.take p.length from HP.out]; exact (take_snoc' l p.length hlt).symm, hL3, hm4⟩
          case measure => simp [intOf]; omega
        · have hF := fault_any _ l w1.heap.size wr p (by omega) hL hok HP.out hlt
          have HF : Hid (Calls Tryz.prog 67 #[.slice ao l.length cap, .int .i64 p.length] wr fun e w' => e = .returned (.int .i64 (err p l[p.length])) ∧ Mod (fun _ => False) wr w') := hF
          have HA : Hid (Ans s (err p l[p.length]) p.length) := HAns.out _ _ p hlt hok HP.out he rfl
          clear hF HAns HOk
          generalize err p l[p.length] = er at *
          have hb : ((er : Int) != 0) = true := by rw [bne_iff_ne]; omega
          go_wp2_with fail
          refine HF.out.mono ?_
          rintro e w3 ⟨rfl, hm3⟩
          go_wp2_with fail
          go_ret2
          exact ⟨⟨er, p.length, HA.out, rfl⟩, hm.trans hm3⟩
      · have HA : Hid (Ans s 0 0) := HOk.out p hok (by rw [HP.out, List.take_of_length_le (by omega)])
        go_wp2_with fail
        go_ret2
        exact ⟨⟨0, 0, HA.out, rfl⟩, hm⟩
  · go_wp2_with fail
    go_ret2
    exact ⟨⟨2, k, .inl ⟨hst, rfl⟩, rfl⟩, hm1⟩
end Go.Proofs.YtmnfndpbblpjiaaGreatDoor

/- A step that asks for Check. -/
namespace Go.Proofs.YtmnfndpbblpjiaaGreatDoor
open Go.RowKit Pu
set_option maxHeartbeats 800000 in
set_option maxRecDepth 100000 in
theorem texts_check (n : Int) (a b : ByteArray) (w : World) (ha : a.size ≤ maxLen) : Calls Tryz.prog 22 #[op4 1 n a b] w fun e w' => e = .returned (.bool true) ∧ Mod (fun _ => False) w w' := by
  have hO := ope_new w 1 n a b
  have hm0 : Mod (fun _ => False) w (w.alloc (.cells #[.int .i64 1, .int .i64 n, .string a, .string b] 32)) := (Mod.refl _ w).alloc _
  by_cases hs : a.size ≤ 300
  · go_enter Tryz.func22, Tryz.ntmps22
    go_wp2_with fail
    refine (check_any a _ hs).mono ?_
    rintro e w1 ⟨⟨x, y, hA, rfl⟩, hm1⟩
    have hO1 := hO.keep hm1 (fun f => f)
    have c2 := hO1.c2
    go_wp2_with fail
    refine (rcheck_any a _ hs).mono ?_
    rintro e w2 ⟨⟨x', y', hA', rfl⟩, hm2⟩
    obtain ⟨rfl, rfl⟩ := hA.unique hA'
    have hm := hm0.trans (hm1.trans hm2)
    clear hA hA' hm0 hm1 hm2 c2 hO1 hO
    go_wp2_with (go_at_call 25; refine (num_any _ _).mono ?_; rintro e w' ⟨rfl, rfl⟩)
    go_ret
    exact ⟨rfl, hm⟩
  · go_enter Tryz.func22, Tryz.ntmps22
    go_wp2_with fail
    refine (check_long a _ (by omega) ha).mono ?_
    rintro e w1 ⟨rfl, rfl⟩
    have c2 := hO.c2
    go_wp2_with fail
    refine (rcheck_long a _ (by omega) ha).mono ?_
    rintro e w2 ⟨rfl, rfl⟩
    go_wp2_with (go_at_call 25; refine (num_any _ _).mono ?_; rintro e w' ⟨rfl, rfl⟩)
    go_ret
    exact ⟨rfl, hm0⟩
set_option maxHeartbeats 800000 in
set_option maxRecDepth 100000 in
theorem plays_check : Plays 1 1 := by
  intro kd n a b w h1 h2 ha hb hn
  obtain rfl : kd = 1 := by omega
  have hm0 : Mod (fun _ => False) w (w.alloc (.cells #[.int .i64 1, .int .i64 n, .string a, .string b] 32)) := (Mod.refl _ w).alloc _
  clear h1 h2 hb hn
  go_enter Tryz.func18, Tryz.ntmps18
  go_wp2_with fail
  refine (texts_check n a b _ ha).mono ?_
  rintro e w1 ⟨rfl, hm1⟩
  go_wp2_with fail
  go_ret
  exact ⟨rfl, hm0.trans hm1⟩
set_option maxHeartbeats 400000 in
theorem checks_walk (v : Value) (w : World) (hS : Scr w v) : Calls Tryz.prog 3 #[v] w fun e w' => e = .returned (.bool true) ∧ Mod (fun _ => False) w w' := by
  have HS : Hid (Scr w v) := hS
  clear hS
  go_enter Tryz.func3, Tryz.ntmps3
  go_wp2_with fail
  refine (upto_any v 1 1 w HS.out plays_check).mono ?_
  rintro e w1 ⟨rfl, hm1⟩
  go_wp2_with fail
  go_ret
  exact ⟨rfl, hm1⟩
end Go.Proofs.YtmnfndpbblpjiaaGreatDoor

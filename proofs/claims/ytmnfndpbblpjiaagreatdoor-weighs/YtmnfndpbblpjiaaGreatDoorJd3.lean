/- The program's weighing, and its judging of a statement. -/
import Derived.Test.YtmnfndpbblpjiaaGreatDoorJd2
namespace Go.Proofs.YtmnfndpbblpjiaaGreatDoor
open Go.RowKit Pu

theorem take_snoc' {α : Type} (l : List α) (k : Nat) (h : k < l.length) : l.take (k + 1) = l.take k ++ [l[k]] := by
  rw [List.take_succ_eq_append_getElem h]

set_option maxHeartbeats 1600000 in
set_option maxRecDepth 100000 in
theorem weigh_any (v : Value) (q : List It) (base : Nat) (x : St) (av : Value) (wt : Int) (w : World) (hq : q.length ≤ 1000) (hal : x.args.length ≤ 4) (hL : Lst w base v q) (hA : w.ownsRow base 5 1 av x.args.length (bvs x.args))
    (hg : ∀ j (hj : j < x.args.length), gvI (q.map It.x) x.args[j].toNat ≠ -1) (hok : Ok (pq q)) :
    Calls Tryz.prog 91 #[v, ag4 x.name x.word av wt] w fun e w' => e = .returned (.int .i64 (wgh (pq q) x)) ∧ Mod (fun _ => False) w w' := by
  have hS := se_new w x.name x.word av wt
  have hm0 : Mod (fun _ => False) w (w.alloc (.cells #[.int .u8 x.name, S x.word, av, .int .i64 wt] 83)) := (Mod.refl _ w).alloc _
  have hL1 := hL.mod hm0 (fun _ _ _ f => f)
  have hA1 := owns_mod hA hm0 (fun _ _ f => f)
  have hav := owns_one hA
  obtain ⟨aa, acap, rfl, -⟩ := owns_form hA
  obtain ⟨va, vcap, rfl, -⟩ := hL.form
  have HG : Hid (∀ j (hj : j < x.args.length), gvI (q.map It.x) x.args[j].toNat ≠ -1) := hg
  have HO : Hid (Ok (pq q)) := hok
  clear hL hA hg hok
  by_cases h0 : x.name = 0
  · have hb : (x.name == 0) = true := by simpa using h0
    have HB : Hid (wgh (pq q) x = 0) := show wgh (pq q) x = 0 by simp [wgh, h0]
    clear h0
    go_enter Tryz.func91, Tryz.ntmps91
    go_wp2_with fail
    refine (isQuestion_any x.name x.word _ wt _ hav).mono ?_
    rintro e w2 ⟨rfl, hm2⟩
    go_wp2
    go_ret
    exact ⟨by rw [HB.out]; rfl, hm0.trans hm2⟩
  · have hb : (x.name == 0) = false := by simpa using h0
    have HB : Hid (wgh (pq q) x = wG x.word (sumW (pq q) x.args) (lastW (pq q) x.args)) := show wgh (pq q) x = wG x.word (sumW (pq q) x.args) (lastW (pq q) x.args) by simp [wgh, h0]
    clear h0
    go_enter Tryz.func91, Tryz.ntmps91
    go_wp2_with fail
    refine (isQuestion_any x.name x.word _ wt _ hav).mono ?_
    rintro e W ⟨rfl, hm2⟩
    have hS2 := hS.keep hm2 (fun f => f)
    have hL2 := hL1.mod hm2 (fun _ _ _ f => f)
    have hA2 := owns_mod hA1 hm2 (fun _ _ f => f)
    have hm3 := hm0.trans hm2
    clear hm0 hm2 hS hL1 hA1
    have s1 := hS2.c1
    have s2 := hS2.c2
    go_wp2
    go_loop [5, 6, 15] (fun a b i => ∃ k : Nat, k ≤ x.args.length ∧ i = .int .i64 k ∧ a = .int .i64 (sumW (pq q) (x.args.take k)) ∧ b = .int .i64 (lastW (pq q) (x.args.take k))) (fun _ _ i => x.args.length - (intOf i).toNat)
    case atStart => exact ⟨0, by omega, rfl, rfl, rfl⟩
    case round =>
      obtain ⟨k, hk, rfl, rfl, rfl⟩ := hrel
      have b1 := HO.out.sumW (x.args.take k)
      have b2 := HO.out.lastW (x.args.take k)
      have b3 : (x.args.take k).length ≤ k := List.length_take_le _ _
      by_cases hlt : k < x.args.length
      · have HT : Hid (x.args.take (k + 1) = x.args.take k ++ [x.args[k]]) := take_snoc' _ _ hlt
        obtain ⟨gb, rfl, ck⟩ := args_cell hA2 rfl hlt
        obtain ⟨j, hj, hgj, -⟩ := given_q (HG.out k hlt)
        obtain ⟨vb, rfl, -, -, -, cw⟩ := hL2.cell hj
        have HW : Hid (argW (pq q) x.args[k].toNat = q[j].wt) := show argW (pq q) x.args[k].toNat = q[j].wt by simp [argW, who_q hj hgj]
        have hwb : q[j].wt ≤ 64 := by have := HO.out.argW x.args[k].toNat; rw [HW.out] at this; exact this
        have HJ : Hid (gvI (q.map It.x) x.args[k].toNat = (j : Int)) := hgj
        clear hgj
        have hj1 : ((j : Int) != -1) = true := by rw [bne_iff_ne]; omega
        go_wp2_with fail
        have hgv := giver_any (.slice (some ⟨vb, 0, none⟩) q.length vcap) q x.args[k].toNat base W hq hL2
        rw [HJ.out] at hgv
        refine hgv.mono ?_
        rintro e w2 ⟨rfl, rfl⟩
        clear hgv
        go_wp2
        go_round
        case rel => exact ⟨k + 1, by omega, by go_num, by rw [HT.out, sumW_snoc, HW.out]; go_num, by rw [HT.out, lastW_snoc, HW.out]⟩
        case measure => simp [intOf]; omega
      · have hkl : k = x.args.length := by omega
        subst hkl
        rw [List.take_length] at b1 b2 ⊢
        clear b3
        go_wp2_with fail
        refine (weightGiven_any _ _ _ _ (by omega) (by omega)).mono ?_
        rintro e w2 ⟨rfl, rfl⟩
        go_wp2
        go_ret
        exact ⟨by rw [HB.out]; rfl, hm3⟩

def jw (p : List (St × Nat)) (x : St) : Nat := if err p x = 0 then wgh p x else 0
theorem jw_no {p : List (St × Nat)} {x : St} {n : Nat} (h : err p x = n + 1) : jw p x = 0 := by simp [jw, h]
theorem jw_yes {p : List (St × Nat)} {x : St} (h : err p x = 0) : jw p x = wgh p x := by simp [jw, h]
theorem tk_known (x : St) : (tk x.name x.word).2 = known x ∧ (known x = true → (tk x.name x.word).1 = (fm x.word).1) := by
  unfold tk known
  have h1 := qT_fm x.word
  have h2 := cT_fm x.word
  by_cases h0 : x.name = 0
  · rw [if_pos h0]
    refine ⟨?_, fun h => h1.2 ?_⟩
    · rw [Bool.eq_iff_iff, h1.1]; simp [h0]; intro h; omega
    · rw [h1.1]; simp [h0] at h; exact h.2
  · rw [if_neg h0]
    refine ⟨?_, fun h => h2.2 ?_⟩
    · rw [Bool.eq_iff_iff, h2.1]; simp [h0]; exact ⟨fun h => ⟨h.2, h.1⟩, fun h => ⟨h.2, h.1⟩⟩
    · rw [h2.1]; simp [h0] at h; exact ⟨h.2, h.1⟩
theorem names_each {l : List St} {x : St} (h : namesOk l x = true) : ∀ a ∈ x.args, gvI l a.toNat ≠ -1 := by
  unfold namesOk at h
  rw [Bool.and_eq_true, List.all_eq_true] at h
  intro a ha
  simpa using h.1 a ha

set_option maxHeartbeats 1600000 in
set_option maxRecDepth 100000 in
theorem judge_any (v : Value) (q : List It) (base : Nat) (x : St) (av : Value) (wt : Int) (w : World) (hq : q.length ≤ 1000) (hal : x.args.length ≤ 1000) (hL : Lst w base v q) (hA : w.ownsRow base 5 1 av x.args.length (bvs x.args))
    (hok : Ok (pq q)) (hz : ∀ a ∈ x.args, a.toNat ≠ 0) :
    Calls Tryz.prog 55 #[v, ag4 x.name x.word av wt] w fun e w' => e = .returned (.tuple #[.int .i64 (jw (pq q) x : Int), .int .i64 (err (pq q) x)]) ∧ Mod (fun _ => False) w w' := by
  have hS := se_new w x.name x.word av wt
  have hm0 : Mod (fun _ => False) w (w.alloc (.cells #[.int .u8 x.name, S x.word, av, .int .i64 wt] 83)) := (Mod.refl _ w).alloc _
  have hL1 := hL.mod hm0 (fun _ _ _ f => f)
  have hA1 := owns_mod hA hm0 (fun _ _ f => f)
  have hav := owns_one hA
  obtain ⟨aa, acap, rfl, -⟩ := owns_form hA
  have HO : Hid (Ok (pq q)) := hok
  have HZ : Hid (∀ a ∈ x.args, a.toNat ≠ 0) := hz
  have hk := tk_known x
  have HK : Hid ((tk x.name x.word).2 = known x) := hk.1
  have HK2 : Hid (known x = true → (tk x.name x.word).1 = (fm x.word).1) := hk.2
  clear hL hA hok hz hk
  cases hkn : known x with
  | false =>
    have HE : Hid (err (pq q) x = 3) := show err (pq q) x = 3 by simp [err, hkn]
    have hb : (tk x.name x.word).2 = false := by rw [HK.out, hkn]
    go_enter Tryz.func55, Tryz.ntmps55
    go_wp2_with fail
    refine (argumentSorts_any x.name x.word _ wt _ hav).mono ?_
    rintro e w2 ⟨rfl, hm2⟩
    go_wp2
    go_ret2
    exact ⟨by rw [jw_no HE.out, HE.out]; rfl, hm0.trans hm2⟩
  | true =>
    have hb : (tk x.name x.word).2 = true := by rw [HK.out, hkn]
    have HTK : Hid (tk x.name x.word = ((fm x.word).1, true)) := show tk x.name x.word = ((fm x.word).1, true) by rw [← HK2.out hkn, ← hb]
    have HKN : Hid (known x = true) := hkn
    clear hb HK HK2 hkn
    have hfl := fm_len x.word
    have hAS := argumentSorts_any x.name x.word (.slice aa x.args.length acap) wt (w.alloc (.cells #[.int .u8 x.name, S x.word, .slice aa x.args.length acap, .int .i64 wt] 83)) hav
    rw [HTK.out] at hAS
    clear HTK
    generalize hso : (fm x.word).1 = so at *
    have HSO : Hid ((fm x.word).1 = so) := hso
    clear hso
    simp only at hAS
    go_enter Tryz.func55, Tryz.ntmps55
    go_wp2_with fail
    refine hAS.mono ?_
    clear hAS
    rintro e w2 ⟨rfl, hm2⟩
    have hS2 := hS.keep hm2 (fun f => f)
    have hL2 := hL1.mod hm2 (fun _ _ _ f => f)
    have hA2 := owns_mod hA1 hm2 (fun _ _ f => f)
    have hm := hm0.trans hm2
    clear hm0 hm2 hS hL1 hA1
    have s0 := hS2.c0
    have s1 := hS2.c1
    have s2 := hS2.c2
    have s3 := hS2.c3
    by_cases hc : x.args.length = so.length
    · have HC : Hid (x.args.length = so.length) := hc
      have hb : ((x.args.length : Int) != (so.length : Int)) = false := by rw [hc]; simp
      have hal4 : x.args.length ≤ 4 := by omega
      clear hc
      go_wp2_with fail
      refine (namesFit_any v q base x _ wt _ hq hal hL2 hA2).mono ?_
      rintro e w3 ⟨rfl, hm3⟩
      cases hn : namesOk (q.map It.x) x with
      | false =>
        have HE : Hid (err (pq q) x = 5) := show err (pq q) x = 5 by simp [err, HKN.out, HC.out, HSO.out, sts_pq, hn]
        go_wp2
        go_ret2
        exact ⟨by rw [jw_no HE.out, HE.out]; rfl, hm.trans hm3⟩
      | true =>
        have HN : Hid (namesOk (q.map It.x) x = true) := hn
        clear hn
        have hS3 := hS2.keep hm3 (fun f => f)
        have hL3 := hL2.mod hm3 (fun _ _ _ f => f)
        have hA3 := owns_mod hA2 hm3 (fun _ _ f => f)
        have hmm := hm.trans hm3
        clear s0 s1 s2 s3 hm hm3 hS2 hL2 hA2
        have s0 := hS3.c0
        have s1 := hS3.c1
        have s2 := hS3.c2
        have s3 := hS3.c3
        go_wp2_with fail
        refine (sortsFit_any v q base x _ wt so _ hq hal hL3 hA3 (fun j hj => names_each HN.out _ (List.getElem_mem hj)) HC.out).mono ?_
        rintro e w4 ⟨rfl, hm4⟩
        have HSS : Hid (sortsOkG (pq q) x.args so = sortsOk (pq q) x.args so) := sorts_same HO.out (fun a ha => by rw [sts_pq]; exact names_each HN.out a ha) HZ.out
        cases hs : sortsOkG (pq q) x.args so with
        | false =>
          have HE : Hid (err (pq q) x = 6) := show err (pq q) x = 6 by
            have h6 : sortsOk (pq q) x.args so = false := by rw [← HSS.out, hs]
            simp [err, HKN.out, HC.out, HSO.out, sts_pq, HN.out, h6]
          go_wp2
          go_ret2
          exact ⟨by rw [jw_no HE.out, HE.out]; rfl, hmm.trans hm4⟩
        | true =>
          have h6 : sortsOk (pq q) x.args so = true := by rw [← HSS.out, hs]
          have H6 : Hid (sortsOk (pq q) x.args so = true) := h6
          clear h6 hs HSS
          have hS4 := hS3.keep hm4 (fun f => f)
          have hL4 := hL3.mod hm4 (fun _ _ _ f => f)
          have hA4 := owns_mod hA3 hm4 (fun _ _ f => f)
          have hm5 := hmm.trans hm4
          clear s0 s1 s2 s3 hmm hm4 hS3 hL3 hA3
          have s0 := hS4.c0
          have s1 := hS4.c1
          have s2 := hS4.c2
          have s3 := hS4.c3
          go_wp2_with fail
          refine (weigh_any v q base x _ wt _ hq hal4 hL4 hA4 (fun j hj => names_each HN.out _ (List.getElem_mem hj)) HO.out).mono ?_
          rintro e w6 ⟨rfl, hm6⟩
          by_cases h64 : 64 < wgh (pq q) x
          · have HE : Hid (err (pq q) x = 7) := show err (pq q) x = 7 by simp [err, HKN.out, HC.out, HSO.out, sts_pq, HN.out, H6.out, h64]
            go_wp2
            go_ret2
            exact ⟨by rw [jw_no HE.out, HE.out]; rfl, hm5.trans hm6⟩
          · have HE : Hid (err (pq q) x = 0) := show err (pq q) x = 0 by simp [err, HKN.out, HC.out, HSO.out, sts_pq, HN.out, H6.out, h64]
            go_wp2
            go_ret2
            exact ⟨by rw [jw_yes HE.out, HE.out]; rfl, hm5.trans hm6⟩
    · have hb : ((x.args.length : Int) != (so.length : Int)) = true := by rw [bne_iff_ne]; omega
      have HE : Hid (err (pq q) x = 4) := show err (pq q) x = 4 by simp [err, HKN.out, HSO.out, hc]
      go_wp2
      go_ret2
      exact ⟨by rw [jw_no HE.out, HE.out]; rfl, hm⟩
end Go.Proofs.YtmnfndpbblpjiaaGreatDoor

/- The document's execution of right steps. -/
import Derived.Deep.RegionWith
import Derived.Test.YtmnfndpbblpjiaaGreatDoorZa19
import Derived.Test.YtmnfndpbblpjiaaGreatDoorZa18
import Derived.Test.YtmnfndpbblpjiaaGreatDoorZa20
import Derived.Test.YtmnfndpbblpjiaaGreatDoorZa22
namespace Go.Proofs.YtmnfndpbblpjiaaGreatDoor
open Go.RowKit Pu
theorem Tryz.infoNm : (Tryz.prog.info? 116).map (fun i => (i.zero, i.size, i.bytes)) = some (some (.agg #[.bool false, .slice none 0 0]), 2, 32) := by kernel_rfl
theorem made2 (x y : Value) (n r : Nat) (hr : r < n) : (madeCells #[x, y] (n * 2)).toList[r * 2]? = some x ∧ (madeCells #[x, y] (n * 2)).toList[r * 2 + 1]? = some y := by
  have h1 : r * 2 < n * 2 := by omega
  have h2 : r * 2 + 1 < n * 2 := by omega
  constructor
  · simp [madeCells, h1]
  · simp [madeCells, h2, show (r * 2 + 1) % 2 = 1 by omega]
theorem Rgs.start {w : World} {rb : Nat} (h : w.ownsRow rb 116 2 (.slice (some ⟨rb, 0, none⟩) 128 128) 128 (madeCells #[.bool false, .slice none 0 0] (128 * 2)).toList) : Rgs w rb (List.replicate 128 0) := by
  have h' := h
  obtain ⟨_, ⟨he, _⟩ | ⟨g, cap, cur, he, _, hg, _, _, hcs, _⟩⟩ := h
  · simp at he
  · simp at he
    obtain ⟨rfl, rfl⟩ := he
    refine ⟨by simp, ⟨cur, hg, by rw [hcs]⟩, fun r hr => ⟨false, .slice none 0 0, [], ?_, ?_, ⟨⟨fun _ h => by simp at h, fun _ h => by simp at h, fun _ => rfl⟩, World.ownsRow_nil _ _ _ _⟩, ?_, by simp⟩⟩
    · rw [h'.cellAt (r * 2) (by omega)]; exact (made2 _ _ 128 r hr).1
    · rw [h'.cellAt (r * 2 + 1) (by omega)]; exact (made2 _ _ 128 r hr).2
    · rw [reg, List.getElem?_replicate, if_pos hr]; rfl
theorem Pu.short_of {l : List Nat} {B nn m : Nat} (hB : B = 10 ^ nn) (hn : nn = 4 * m) (ht : Top l) (hv : ¬ B ≤ val l) : l.length ≤ m := by
  by_cases h0 : l = []
  · subst h0; simp
  · have h1 := val_top ht h0
    have h2 : val l < 10000 ^ m := by rw [pow4, ← hn, ← hB]; omega
    have h3 : 10000 ^ (l.length - 1) < 10000 ^ m := Nat.lt_of_le_of_lt h1 h2
    have := (Nat.pow_lt_pow_iff_right (by omega : 1 < 10000)).1 h3
    omega
theorem one_conv (c : UInt8) (n : Int) (hn : n = (c.toNat : Int)) (wX : World) (b : Nat) (h : wX.cell? ⟨b, 0, none⟩ = some (.int .u8 n)) : (convert 75 9 (.slice (some ⟨b, 0, none⟩) 1 1)).run Tryz.prog wX = .ok (.string ⟨#[c]⟩) wX := by
  subst hn
  refine run_convert_bytes_back (P := Tryz.prog) _ 75 9 5 ⟨b, 0, none⟩ 1 [c] Tryz.underlying75 Tryz.underlying5 Tryz.underlying9 ?_
  intro j hj
  have hj2 : j = 0 := by simpa using hj
  subst hj2
  have ha : (⟨b, 0, none⟩ : Addr).add 0 = ⟨b, 0, none⟩ := by simp [Addr.add]
  rw [ha, h]
  simp
theorem one_cell (w : World) (n : Int) : (w.alloc (.cells #[.int .u8 n] 5)).drew.cell? ⟨w.heap.size, 0, none⟩ = some (.int .u8 n) := World.cell?_alloc_mark w _ _ _ 0
theorem Pu.natAbs_num (nb : Bool) (l : List Nat) : (num nb l).natAbs = val l := by cases nb <;> simp [num]
theorem spc_get (y : Nat) (h : y < (⟨#[115, 112, 99]⟩ : ByteArray).size) : (⟨#[115, 112, 99]⟩ : ByteArray)[y]'h = spc y := by
  have : y = 0 ∨ y = 1 ∨ y = 2 := by have : y < 3 := h; omega
  rcases this with rfl | rfl | rfl <;> rfl
attribute [local go_sem] spc_get
set_option maxHeartbeats 1600000 in
set_option maxRecDepth 4000 in
theorem played_any (B nn : Nat) (hB : B = 10 ^ nn) (hnn : nn = 8000) (v iv : Value) (l : List Stp) (ins : List Int) (base ibase : Nat) (w : World) (hl : l.length ≤ 3000) (hL : TLst w base v l) (hI : w.ownsRow ibase 3 1 iv ins.length (zvs ins)) (hn : ins.length ≤ 1000) (hi : ∀ x ∈ ins, -100 < x ∧ x < 100) (hg : ∀ t ∈ l, Good ins.length t) :
    Calls Tryz.prog 46 #[v, iv] w fun e w' => e = .returned (.tuple #[.string (play B ins l (List.replicate 128 0) ⟨#[]⟩).1, .int .i64 (play B ins l (List.replicate 128 0) ⟨#[]⟩).2]) ∧ Mod (fun _ => False) w w' := by
  obtain ⟨i0, hii, hz0, hz1, hz2⟩ := info_parts Tryz.infoNm
  obtain ⟨ao, cap, rfl, -⟩ := owns_form hL
  obtain ⟨io, icap, rfl, -⟩ := owns_form hI
  have HG : Hid (∀ t ∈ l, Good ins.length t) := hg
  have HI : Hid (∀ x ∈ ins, -100 < x ∧ x < 100) := hi
  have HLO : Hid (∀ (nb : Bool) (v : Value) (l : List Nat) (w : World), Nm w nb v l → l.length ≤ 50000 → Calls Tryz.prog 76 #[nm2 nb v, .int .i64 8000] w fun e w' => e = .returned (.bool (decide (B ≤ val l))) ∧ Mod (fun _ => False) w w') := fun nb v l w hN hl => by
    have := long_any nb v l nn w hN hl (by omega)
    rw [← hB, show ((nn : Nat) : Int) = 8000 by omega] at this
    exact this
  have HSH : Hid (∀ l : List Nat, Top l → ¬ B ≤ val l → l.length ≤ 2000) := fun l ht hv => short_of hB (by omega) ht hv
  clear hg hi hB hnn
  have HP : Hid (play B ins (l.drop 0) (List.replicate 128 0) ⟨#[]⟩ = play B ins l (List.replicate 128 0) ⟨#[]⟩) := rfl
  generalize play B ins l (List.replicate 128 0) ⟨#[]⟩ = pr at *
  go_enter Tryz.func46, Tryz.ntmps46
  go_wp2_with (at_make; refine wpList_make_full _ rfl _ _ 112 rfl w.heap.size 116 i0 (.agg #[.bool false, .slice none 0 0]) 2 Tryz.underlying112 hii hz0 hz1 _ _ _ _ 128 rfl rfl (by omega) (by omega) (by rw [hz2]; omega) (by unfold maxLen; omega) (by simp) ?_)
  intro W hown0 hgrow0
  have hm0 := (Mod.refl (fun _ => False) w).grown hgrow0 (fun k hk _ => by cases hk)
  have hR0 : Rgs W w.heap.size (List.replicate 128 0) := Rgs.start hown0
  clear hgrow0 hown0
  go_wp2_with fail
  go_loopw [7, 8] (fun sv kv wr => ∃ (k : Nat) (R : List Int) (sb : ByteArray), k ≤ l.length ∧ sv = .string sb ∧ kv = .int .i64 k ∧ sb.size ≤ k ∧ Rgs wr w.heap.size R ∧ Hid (play B ins (l.drop k) R sb = pr) ∧ Mod (fun _ => False) w wr) (fun _ kv _ => l.length - (intOf kv).toNat)
  case atStart => exact ⟨0, _, _, by omega, rfl, rfl, by simp [ByteArray.size], hR0, HP, hm0⟩
  case round =>
    clear hR0 hm0 HP
    obtain ⟨k, R, sb, hk, rfl, rfl, hsb, hR, HP, hm⟩ := hrel
    by_cases hlt : k < l.length
    · have hLr := hL.mod hm
      obtain ⟨gb, rfl, c0, c1, c2, c3⟩ := hLr.cell hlt
      have HD : Hid (l.drop k = l[k] :: l.drop (k + 1)) := List.drop_eq_getElem_cons hlt
      have HGt := HG.out _ (List.getElem_mem hlt)
      have HGt : Hid (Good ins.length l[k]) := HGt
      have hIr := owns_mod hI hm (fun _ _ f => f)
      obtain ⟨⟨s0, s1, s2, s3⟩, h7, hx, -, -, -, hst⟩ := HGt.out
      have HST : Hid _ := hst
      clear hst hLr
      generalize l[k] = t at *
      have hrl := hR.lt
      have ix : (t.x : Int) < 128 := by omega
      by_cases h6 : t.op < 6
      · have hmA : Mod (fun _ => False) wr (wr.alloc (.cells #[.int .i64 t.op, .int .i64 t.x, .int .i64 t.y, .int .i64 t.z] 114)) := (Mod.refl _ wr).alloc _
        have hv := value_any t w.heap.size 128 (.slice io ins.length icap) R ins ibase _ HGt.out h6 (hR.mod hmA) (owns_mod hIr hmA (fun _ _ f => f)) hn HI.out
        have hSt := stb_new wr t
        have HBIG : Hid (B ≤ (Pu.valOf t R ins).natAbs → pr = (⟨#[]⟩, 10)) := fun h => by rw [← HP.out, HD.out]; exact play_big h6 h
        have HSET : Hid (¬ B ≤ (Pu.valOf t R ins).natAbs → play B ins (l.drop (k + 1)) (R.set t.x (Pu.valOf t R ins)) sb = pr) := fun h => by rw [← HP.out, HD.out]; exact (play_set h6 h).symm
        have io6 : (t.op : Int) < 6 := by omega
        have hRA := hR.mod hmA
        have HHH : Hid _ := And.intro hRA hSt
        clear HP HD HST hR hIr hRA hSt
        go_wp2_with fail
        refine hv.mono ?_
        rintro e w2 ⟨hm2, nb, v2, l2, rfl, hN2, hx2, hl2⟩
        obtain ⟨hRA, hSt⟩ := HHH.out
        have hR2 := hRA.mod hm2
        have hSt2 : Stb w2 wr.heap.size t := hm2.keep hSt (fun f => f)
        obtain ⟨vo, vcap, rfl, -⟩ := owns_form hN2.2
        have hmB : Mod (fun _ => False) w2 (w2.alloc (.cells #[.bool nb, .slice vo l2.length vcap] 116)) := (Mod.refl _ w2).alloc _
        have hlo := HLO.out nb _ l2 _ (hN2.mod hmB) (by omega)
        have HX2 : Hid (num nb l2 = Pu.valOf t R ins) := hx2
        have HTP : Hid (Top l2) := hN2.1.2.1
        have hmw2 := hm.trans (hmA.trans hm2)
        have HH2 : Hid _ := And.intro (hR2.mod hmB) (And.intro (hN2.mod hmB) (And.intro (hmw2.trans hmB) (And.intro (nmb_new w2 nb (.slice vo l2.length vcap)) (hmB.keep hSt2 (fun f => f)))))
        clear hRA hSt hR2 hSt2 hN2 hx2 hv HHH hmA hm hm2 hmw2 hmB
        go_wp2_with fail
        refine hlo.mono ?_
        rintro e w3 ⟨rfl, hm3⟩
        obtain ⟨k1, k2, k3, k4, k5⟩ := HH2.out
        have hR3 := k1.mod hm3
        have hN3 := k2.mod hm3
        have hm3w := k3.trans hm3
        have hX3 : Nmb w3 w2.heap.size nb (.slice vo l2.length vcap) := hm3.keep k4 (fun f => f)
        have hS3 : Stb w3 wr.heap.size t := hm3.keep k5 (fun f => f)
        clear HH2 k1 k2 k3 k4 k5 hlo
        by_cases hbig : B ≤ val l2
        · have HE : Hid (pr = (⟨#[]⟩, 10)) := HBIG.out (by rw [← HX2.out, natAbs_num]; exact hbig)
          go_wp2_with fail
          go_ret2
          exact ⟨by rw [HE.out]; rfl, hm3w⟩
        · have HP2 : Hid (play B ins (l.drop (k + 1)) (R.set t.x (num nb l2)) sb = pr) := show _ = _ by
            have := HSET.out (by rw [← HX2.out, natAbs_num]; exact hbig)
            rw [HX2.out]; exact this
          have hl3 := HSH.out l2 HTP.out hbig
          have hR4 := hR3.set hx hN3 hl3
          have hm4 := set2at_new hm3w w.heap.size (t.x * 2) (.bool nb) (.slice vo l2.length vcap) (Nat.le_refl _)
          obtain ⟨nx, u, a, y0, y1, -⟩ := hR3.2.2 t.x hx
          have y2 := hR3.fz (t.x * 2)
          have y3 := hR3.fz (t.x * 2 + 1)
          have z0 := hX3.c0
          have z1 := hX3.c1
          have e1 := hS3.c1
          have HH4 : Hid _ := And.intro hR4 hm4
          clear hR4 hm4 hR3 hN3 hm3w hX3 hS3 hm3 HBIG HSET
          go_wp2_with fail
          go_roundw
          case rel => exact ⟨k + 1, _, sb, by omega, rfl, by go_num, by omega, HH4.out.1, HP2, HH4.out.2⟩
          case measure => simp [intOf]; omega
      · by_cases h66 : t.op = 6
        · have hmA : Mod (fun _ => False) wr (wr.alloc (.cells #[.int .i64 t.op, .int .i64 t.x, .int .i64 t.y, .int .i64 t.z] 114)) := (Mod.refl _ wr).alloc _
          obtain ⟨nx, u, a, y0, y1, hN, hxr, hla⟩ := hR.2.2 t.x hx
          have hS := sign_any nx u a _ (hN.mod hmA) (by omega)
          obtain ⟨uo, ucap, rfl, -⟩ := owns_form hN.2
          have b6 : ¬ (t.op : Int) < 6 := by omega
          have b66 : ((t.op : Int) == 6) = true := beq_t (m := 6) h66
          clear hN HST hIr
          by_cases hpos : 0 < reg R t.x
          · have HP2 : Hid (play B ins (l.drop (k + 1)) R (sb ++ ⟨#[49]⟩) = pr) := show _ = _ by
              rw [← HP.out, HD.out, play_out h66, if_pos hpos]
            have hsg : sgI (num nx a) = 1 := by unfold sgI; rw [hxr, if_neg (by omega), if_neg (by omega)]
            have hsz : (sb ++ (⟨#[49]⟩ : ByteArray)).size ≤ k + 1 := by rw [ByteArray.size_append]; have : (⟨#[49]⟩ : ByteArray).size = 1 := rfl; omega
            rw [hsg] at hS
            clear HP HD hsg hxr h66
            go_wp2_with fail
            refine hS.mono ?_
            rintro e w2 ⟨rfl, hm2⟩
            have hR2 := hR.mod (hmA.trans hm2)
            have hm3 := hm.trans (hmA.trans hm2)
            clear hS hR hm hmA hm2
            go_wp2_with fail
            go_roundw
            case rel => exact ⟨k + 1, R, _, by omega, rfl, by go_num, hsz, hR2, HP2, hm3⟩
            case measure => simp [intOf]; omega
          · have HP2 : Hid (play B ins (l.drop (k + 1)) R (sb ++ ⟨#[48]⟩) = pr) := show _ = _ by
              rw [← HP.out, HD.out, play_out h66, if_neg hpos]
            have hsg : sgI (num nx a) ≤ 0 := by unfold sgI; rw [hxr]; split; omega; split; omega; omega
            have hsz : (sb ++ (⟨#[48]⟩ : ByteArray)).size ≤ k + 1 := by rw [ByteArray.size_append]; have : (⟨#[48]⟩ : ByteArray).size = 1 := rfl; omega
            generalize sgI (num nx a) = sg at *
            clear HP HD hxr h66
            go_wp2_with fail
            refine hS.mono ?_
            rintro e w2 ⟨rfl, hm2⟩
            have hR2 := hR.mod (hmA.trans hm2)
            have hm3 := hm.trans (hmA.trans hm2)
            clear hS hR hm hmA hm2
            go_wp2_with fail
            go_roundw
            case rel => exact ⟨k + 1, R, _, by omega, rfl, by go_num, hsz, hR2, HP2, hm3⟩
            case measure => simp [intOf]; omega
        · have hmA : Mod (fun _ => False) wr (wr.alloc (.cells #[.int .i64 t.op, .int .i64 t.x, .int .i64 t.y, .int .i64 t.z] 114)) := (Mod.refl _ wr).alloc _
          obtain ⟨nx, u, a, y0, y1, hN, hxr, hla⟩ := hR.2.2 t.x hx
          have hS := sign_any nx u a _ (hN.mod hmA) (by omega)
          obtain ⟨uo, ucap, rfl, -⟩ := owns_form hN.2
          have b6 : ¬ (t.op : Int) < 6 := by omega
          have b66 : ((t.op : Int) == 6) = false := beq_f (m := 6) h66
          have hSt := stb_new wr t
          clear hN hIr
          by_cases hzr : reg R t.x = 0
          · have HE : Hid (pr = (sb ++ ⟨#[spc t.y]⟩ ++ dec (t.z : Int), 0)) := show pr = _ by
              rw [← HP.out, HD.out, play_end (by omega) hzr]
            have hsg : sgI (num nx a) = 0 := by unfold sgI; rw [hxr, if_neg (by omega), if_pos hzr]
            obtain ⟨hy3, hz16⟩ := HST.out (by omega)
            rw [hsg] at hS
            clear HP HD hsg hxr h66 HST
            have HSt : Hid _ := hSt
            clear hSt
            go_wp2_with fail
            refine hS.mono ?_
            rintro e w2 ⟨rfl, hm2⟩
            have hSt2 : Stb w2 wr.heap.size t := hm2.keep HSt.out (fun f => f)
            have hm3 := hm.trans (hmA.trans hm2)
            have e2 := hSt2.c2
            have e3 := hSt2.c3
            clear hS hR hm hmA hm2 HSt
            have hds := dec_size (t.z : Int)
            have hcv := one_conv (spc t.y) _ rfl
            have hlw : wr.heap.size < w2.heap.size := lt_of_block hSt2
            generalize hsc : spc t.y = sc at *
            clear hSt2
            go_wp2_with fail
            go_region_with (go_at_call 78; refine (decimal_any (t.z : Int) _ (by omega) (by omega)).mono ?_; rintro e w4 ⟨rfl, hm4⟩; (try have hc4 := hm4.cell (one_cell w2 (sc.toNat : Int))); (try have he2 := hm4.cell (a := w2.drew) e2); (try have he2 := hm4.cell (((Mod.refl (fun _ => False) w2).alloc (.cells #[.int .u8 (sc.toNat : Int)] 5)).drew.cell e2)))
            all_goals
              go_wp2_with fail
              go_ret2
              refine ⟨by rw [HE.out]; rfl, ?_⟩
              first
                | exact hm3.drew.trans hm4
                | exact (hm3.alloc _).drew.trans hm4
                | exact (hm3.drew.trans hm4).alloc _
          · have HP2 : Hid (play B ins (l.drop (k + 1)) R sb = pr) := show _ = _ by
              rw [← HP.out, HD.out, play_on (by omega) hzr]
            have hsg : (sgI (num nx a) == 0) = false := by
              have : sgI (num nx a) ≠ 0 := by
                unfold sgI; rw [hxr]
                by_cases hq : reg R t.x < 0
                · rw [if_pos hq]; omega
                · rw [if_neg hq, if_neg hzr]; omega
              simpa using this
            generalize sgI (num nx a) = sg at *
            clear HP HD hxr h66 HST hSt
            go_wp2_with fail
            refine hS.mono ?_
            rintro e w2 ⟨rfl, hm2⟩
            have hR2 := hR.mod (hmA.trans hm2)
            have hm3 := hm.trans (hmA.trans hm2)
            clear hS hR hm hmA hm2
            go_wp2_with fail
            go_roundw
            case rel => exact ⟨k + 1, R, sb, by omega, rfl, by go_num, by omega, hR2, HP2, hm3⟩
            case measure => simp [intOf]; omega
    · have hks : l.drop k = [] := List.drop_eq_nil_of_le (by omega)
      have HE : Hid (pr = (sb, 0)) := show pr = _ by rw [← HP.out, hks]; rfl
      clear hks
      go_wp2_with fail
      go_ret2
      exact ⟨by rw [HE.out]; rfl, hm⟩
end Go.Proofs.YtmnfndpbblpjiaaGreatDoor

/- The document's Exec. -/
namespace Go.Proofs.YtmnfndpbblpjiaaGreatDoor
open Go.RowKit Pu
attribute [local go_sem] wrap_b
set_option maxHeartbeats 400000 in
theorem rexec_long (s inp : ByteArray) (w : World) (hs : 8006 < s.size ∨ 140 < inp.size) (hm : s.size ≤ maxLen) (hm2 : inp.size ≤ maxLen) : Calls Tryz.prog 24 #[.string s, .string inp] w fun e w' => e = .returned (.tuple #[.string ⟨#[]⟩, .int .i64 1]) ∧ w = w' := by
  unfold maxLen at hm hm2
  by_cases h1 : 8006 < s.size
  · have i1 : (8006 : Int) < (s.size : Int) := by omega
    clear hs
    go_enter Tryz.func24, Tryz.ntmps24
    go_wp2_with fail
    go_ret2
    exact ⟨rfl, rfl⟩
  · have i1 : ¬ (8006 : Int) < (s.size : Int) := by omega
    have i2 : (140 : Int) < (inp.size : Int) := by omega
    clear hs
    go_enter Tryz.func24, Tryz.ntmps24
    go_wp2_with fail
    go_ret2
    exact ⟨rfl, rfl⟩
set_option maxHeartbeats 800000 in
set_option maxRecDepth 4000 in
theorem rexec_any (B nn : Nat) (hB : B = 10 ^ nn) (hnn : nn = 8000) (s inp : ByteArray) (w : World) (hs : s.size ≤ 8006) (hi : inp.size ≤ 140) : Calls Tryz.prog 24 #[.string s, .string inp] w fun e w' => e = .returned (.tuple #[.string (exe B s inp).1, .int .i64 (exe B s inp).2]) ∧ Mod (fun _ => False) w w' := by
  have i1 : ¬ (8006 : Int) < (s.size : Int) := by omega
  have i2 : ¬ (140 : Int) < (inp.size : Int) := by omega
  have HB : Hid (B = 10 ^ nn) := hB
  have HNN : Hid (nn = 8000) := hnn
  clear hB hnn
  by_cases hv : (vfy s).1 = 8
  · have HE : Hid (exe B s inp = (⟨#[]⟩, 8)) := exe_bad hv
    have HV : Hid ((vfy s).1 = 8) := hv
    clear hv
    generalize exe B s inp = ex at *
    go_enter Tryz.func24, Tryz.ntmps24
    go_wp2_with fail
    refine (rverify_any s w hs).mono ?_
    rintro e w1 ⟨he, hm1⟩
    rw [HV.out] at he
    generalize (vfy s).2 = v2 at *
    subst he
    go_wp2_with fail
    go_ret2
    exact ⟨by rw [HE.out]; rfl, hm1⟩
  · have hv0 : vfy s = (0, 0) := by
      cases hb : begunB s with
      | false => exact absurd (by rw [vfy_bad hb]) hv
      | true =>
        unfold vfy at hv ⊢
        rw [hb] at hv ⊢
        simp only [Bool.true_eq_false, if_false] at hv ⊢
        split at hv
        · exact absurd rfl hv
        · rfl
    have HV : Hid (vfy s = (0, 0)) := hv0
    obtain ⟨hb, hall⟩ := vfy_right hv0
    obtain ⟨h6, -, hn2, -, -, hr2, -⟩ := nst_of hb
    have HG : Hid (∀ t ∈ steps s, Good (g s 3) t) := fun t ht => by
      obtain ⟨j, hj, rfl⟩ := List.getElem_of_mem ht
      rw [steps_at]
      exact right_good (stepAt_small s j) hr2 (hall j (by rw [steps, stepsTo_len] at hj; exact hj))
    have HLen : Hid ((steps s).length = nst s) := stepsTo_len s _
    have h3 : 3 < s.size := by omega
    have j3 : (3 : Int) < (s.size : Int) := by omega
    have HG3 : Hid (g s 3 = (s[3]'h3).toNat) := g_in h3
    have l3 := (s[3]'h3).toNat_lt
    clear hv hv0 hb hall
    cases hin : inps inp with
    | none =>
      have HE : Hid (exe B s inp = (⟨#[]⟩, 9)) := exe_none HV.out hin
      have HIN : Hid (inps inp = none) := hin
      clear hin
      generalize exe B s inp = ex at *
      go_enter Tryz.func24, Tryz.ntmps24
      go_wp2_with fail
      refine (rverify_any s w hs).mono ?_
      rintro e w1 ⟨he, hm1⟩
      rw [HV.out] at he
      subst he
      go_wp2_with fail
      refine (inputs_any inp w1 (Nat.le_trans hi (by decide))).mono ?_
      rintro e w2 ⟨hm2, he⟩
      rw [HIN.out] at he
      simp only at he
      subst he
      have hm := hm1.trans hm2
      clear hm1 hm2
      go_wp2_with fail
      go_ret2
      exact ⟨by rw [HE.out]; rfl, hm⟩
    | some l =>
      have HIN : Hid (inps inp = some l) := hin
      have HR : Hid (∀ x ∈ l, -100 < x ∧ x < 100) := inps_range hin
      clear hin
      by_cases hl : l.length = g s 3
      · have HE : Hid (exe B s inp = play B l (steps s) (List.replicate 128 0) ⟨#[]⟩) := exe_play HV.out HIN.out hl
        have HLL : Hid (l.length = g s 3) := hl
        have hbq : ((l.length : Int) != ((s[3]'h3).toNat : Int)) = false := by rw [HG3.out] at hl; simp; omega
        have hll : l.length ≤ 1000 := by rw [hl, HG3.out]; omega
        clear hl
        generalize exe B s inp = ex at *
        go_enter Tryz.func24, Tryz.ntmps24
        go_wp2_with fail
        refine (rverify_any s w hs).mono ?_
        rintro e w1 ⟨he, hm1⟩
        rw [HV.out] at he
        subst he
        go_wp2_with fail
        refine (inputs_any inp w1 (Nat.le_trans hi (by decide))).mono ?_
        rintro e w2 ⟨hm2, he⟩
        rw [HIN.out] at he
        simp only at he
        obtain ⟨v, rfl, hown⟩ := he
        obtain ⟨vo, vcap, rfl, -⟩ := owns_form hown
        have hm := hm1.trans hm2
        clear hm1 hm2
        go_wp2_with fail
        refine (steps_any s w2 hs).mono ?_
        rintro e w3 ⟨hm3, v3, rfl, hL⟩
        have hown3 := owns_mod hown hm3 (fun _ _ f => f)
        have hm4 := hm.trans hm3
        clear hown hm hm3
        go_wp2_with fail
        refine (played_any B nn HB.out HNN.out v3 _ (steps s) l _ _ w3 (by rw [HLen.out]; omega) hL hown3 hll HR.out (fun t ht => by rw [HLL.out]; exact HG.out t ht)).mono ?_
        rintro e w4 ⟨rfl, hm5⟩
        have hmE := hm4.trans hm5
        clear hm4 hm5 hown3 hL
        go_wp2_with fail
        go_ret2
        exact ⟨by rw [HE.out]; rfl, hmE⟩
      · have HE : Hid (exe B s inp = (⟨#[]⟩, 9)) := exe_count HV.out HIN.out hl
        have hbq : ((l.length : Int) != ((s[3]'h3).toNat : Int)) = true := by rw [HG3.out] at hl; simp; omega
        clear hl
        generalize exe B s inp = ex at *
        go_enter Tryz.func24, Tryz.ntmps24
        go_wp2_with fail
        refine (rverify_any s w hs).mono ?_
        rintro e w1 ⟨he, hm1⟩
        rw [HV.out] at he
        subst he
        go_wp2_with fail
        refine (inputs_any inp w1 (Nat.le_trans hi (by decide))).mono ?_
        rintro e w2 ⟨hm2, he⟩
        rw [HIN.out] at he
        simp only at he
        obtain ⟨v, rfl, hown⟩ := he
        obtain ⟨vo, vcap, rfl, -⟩ := owns_form hown
        have hm := hm1.trans hm2
        clear hm1 hm2
        go_wp2_with fail
        go_ret2
        exact ⟨by rw [HE.out]; rfl, hm⟩
end Go.Proofs.YtmnfndpbblpjiaaGreatDoor

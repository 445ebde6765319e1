/- The program's translate. -/
import Derived.BigRegion
import Derived.Test.YtmnfndpbblpjiabGreatDoorZb20
import Derived.Test.YtmnfndpbblpjiabGreatDoorZb21
import Derived.Test.YtmnfndpbblpjiabGreatDoorZb01
namespace Go.Proofs.YtmnfndpbblpjiabGreatDoor
open Go.RowKit Pu

theorem cmdsL_app : ∀ (r r' : List Cmd) (k i : Nat), cmdsL (r ++ r') k i = cmdsL r k i ++ cmdsL r' (k + r.length) (i + cntI r)
  | [], r', k, i => by simp [cmdsL, cntI]
  | c :: r, r', k, i => by
    have ih := cmdsL_app r r' (k + 1) (i + insC c)
    simp only [List.cons_append, cmdsL, ih, List.append_assoc, List.length_cons, cntI, List.map_cons, List.sum_cons]
    congr 3 <;> omega
/-- What has been made ahead of statement k. -/
def LK (p : List (St × Nat)) (k : Nat) : List Stp := cmdsL ((cmds (sts p)).take k) 0 0
def IK (p : List (St × Nat)) (k : Nat) : Nat := cntI ((cmds (sts p)).take k)
theorem LK_next {p : List (St × Nat)} (h : Ok p) {k : Nat} (hk : k < p.length) : LK p (k + 1) = LK p k ++ stL (sts p) k (IK p k) p[k].1 ∧ IK p (k + 1) = IK p k + (if (p[k].1.word == [112, 116]) = true then 2 else 0) := by
  have hk2 : k < (cmds (sts p)).length := by rw [cmds_len]; exact hk
  have e : (cmds (sts p)).take (k + 1) = (cmds (sts p)).take k ++ [cmdOf (sts p) p[k].1] := by rw [List.take_succ_eq_append_getElem hk2, cmds_at hk]
  constructor
  · unfold LK IK
    rw [e, cmdsL_app, List.length_take, Nat.min_eq_left (Nat.le_of_lt hk2), st_cmd h hk]
    simp [cmdsL]
  · unfold IK
    rw [e, ← ins_cmd h hk]
    simp [cntI]
theorem LK_len (p : List (St × Nat)) (k : Nat) : (LK p k).length ≤ 70 * k := by
  unfold LK
  have h1 := cmdsL_len ((cmds (sts p)).take k) 0 0
  have h2 : ((cmds (sts p)).take k).length ≤ k := List.length_take_le _ _
  omega
theorem IK_len (p : List (St × Nat)) (k : Nat) : IK p k ≤ 2 * k := by
  unfold IK
  have h1 := cntI_le ((cmds (sts p)).take k)
  have h2 : ((cmds (sts p)).take k).length ≤ k := List.length_take_le _ _
  omega
theorem LK_all (p : List (St × Nat)) : LK p p.length = cmdsL (cmds (sts p)) 0 0 ∧ IK p p.length = cntI (cmds (sts p)) := by
  unfold LK IK
  rw [List.take_of_length_le (by rw [cmds_len]; exact Nat.le_refl _)]
  exact ⟨rfl, rfl⟩
theorem Se.kp {w w' : World} {mb sb n : Nat} {wd : List UInt8} {av : Value} {wt : Int} (h : Se w sb n wd av wt) (hk : Kp mb w w') : Se w' sb n wd av wt := hk.keep h (by decide) (by decide)
theorem Se.al {w : World} {sb n : Nat} {wd : List UInt8} {av : Value} {wt : Int} (h : Se w sb n wd av wt) (o : Obj) : Se (w.alloc o) sb n wd av wt := h.keep ((Mod.refl (fun _ => False) w).alloc o) (fun f => f)
theorem Mkr.nil {w : World} {mb : Nat} (h : w.heap[mb]? = some (.cells #[.slice none 0 0, .int .u8 0, .int .u8 0] 82 (0, 0))) : Mkr w mb [] 0 0 := ⟨.slice none 0 0, h, World.ownsRow_nil _ _ _ _⟩
/-- A frame from the first block on, and one behind it. -/
theorem Mod.trans' {w a b : World} {mb : Nat} (h : Mod (fun _ => False) w a) (k : Kp mb a b) (hb : w.heap.size ≤ mb := by omega) : Mod (fun _ => False) w b :=
  ⟨k.os.trans h.os, k.tape.trans h.tape, k.output.trans h.output, Nat.le_trans h.size k.size, fun i hi _ => (k.block i (Nat.lt_of_lt_of_le hi h.size) (fun f => by have := f.2; omega)).trans (h.block i hi (fun f => f))⟩
/-- What is so of statement k. -/
structure StK (q : List It) (k : Nat) (hk : k < q.length) : Prop where
  ar : q[k].x.args.length ≤ 4
  gv : ∀ i (hi : i < q[k].x.args.length), ∃ j, j < 16 ∧ gvI (q.map It.x) q[k].x.args[i].toNat = ((j : Nat) : Int)
  s12 : S12 (thO (q.map It.x) q[k].x)
  qs : q[k].x.name = 0 → (fm q[k].x.word).2 = 63
  cs : q[k].x.name ≠ 0 → (fm q[k].x.word).2 = 80 ∨ (fm q[k].x.word).2 = 76
theorem fm_vals (w : List UInt8) : (fm w).2 = 80 ∨ (fm w).2 = 76 ∨ (fm w).2 = 63 ∨ (fm w).2 = 0 := by
  by_cases h : (fm w).2 = 0
  · exact .inr (.inr (.inr h))
  · rcases word_cases h with rfl | rfl | rfl | rfl | rfl | rfl | rfl | rfl | rfl | rfl | rfl | rfl | rfl | rfl | rfl | rfl | rfl | rfl <;> decide
theorem stK {q : List It} (h : Ok (pq q)) (hq : q.length ≤ 16) {k : Nat} (hk : k < q.length) : StK q k hk := by
  have hk2 : k < (pq q).length := by simpa [pq] using hk
  have hx : (pq q)[k].1 = q[k].x := by simp [pq]
  obtain ⟨he, -⟩ := h k hk2
  obtain ⟨hkn, hl, -, -, -⟩ := err_zero he
  rw [hx] at hkn hl
  have h4 := fm_len q[k].x.word
  have hgv : ∀ i (hi : i < q[k].x.args.length), ∃ j, j < 16 ∧ ix (q.map It.x) q[k].x i = j ∧ gvI (q.map It.x) q[k].x.args[i].toNat = ((j : Nat) : Int) := fun i hi => by
    obtain ⟨j, hj, e1, e2, -, -⟩ := arg_at h hk2 (i := i) (by rw [hx]; exact hi)
    rw [hx, sts_pq] at e1 e2
    have hag : ag q[k].x i = q[k].x.args[i].toNat := by simp [ag, hi]
    exact ⟨j, by omega, e1, by rw [← hag]; exact e2⟩
  have h8 : ∀ i, S8 (thJ (q.map It.x) q[k].x i) := fun i => by
    unfold thJ
    split
    · rename_i hi
      obtain ⟨j, hj, e, -⟩ := hgv i hi
      rw [e]; exact hm8 hj
    · exact ⟨by decide, by decide, by decide⟩
  unfold known at hkn
  rw [Bool.and_eq_true] at hkn
  have h0 : (fm q[k].x.word).2 ≠ 0 := by simpa using hkn.1
  have hb := hkn.2
  refine ⟨by omega, fun i hi => ?_, ⟨h8 0, h8 1, h8 2, h8 3⟩, fun e => ?_, fun e => ?_⟩
  · obtain ⟨j, hj, -, e⟩ := hgv i hi
    exact ⟨j, hj, e⟩
  · simpa [e] using hb
  · have : ¬ (fm q[k].x.word).2 = 63 := by simpa [e] using hb
    rcases fm_vals q[k].x.word with h | h | h | h
    · exact .inl h
    · exact .inr h
    · exact absurd h this
    · exact absurd h h0

/-- How translate ends. -/
def TrEnd (q : List It) (w : World) (e : Ending) (w' : World) : Prop :=
  Mod (fun _ => False) w w' ∧ ∃ ao n cap, e = .returned (.agg #[.int .u8 128, .int .u8 (cntI (cmds (q.map It.x)) : Nat), .slice ao n cap]) ∧ PLst w' w.heap.size (.slice ao n cap) (cmdsL (cmds (q.map It.x)) 0 0)

set_option maxHeartbeats 3200000 in
set_option maxRecDepth 100000 in
theorem trans_any (v : Value) (q : List It) (base : Nat) (w : World) (hq : q.length ≤ 16) (hL : Lst w base v q) (hok : Ok (pq q)) : Calls Tryz.prog 32 #[v] w (TrEnd q w) := by
  obtain ⟨ao, cap, rfl, -⟩ := hL.form
  have HOK : Hid (Ok (pq q)) := hok
  have HPL : Hid ((pq q).length = q.length) := show (pq q).length = q.length by simp [pq]
  clear hok
  have hm0 : Mod (fun _ => False) w ((w.alloc (.cells #[.int .u8 0, .int .u8 0, .slice none 0 0] 63)).alloc (.cells #[.slice none 0 0, .int .u8 0, .int .u8 0] 82)) := ((Mod.refl _ w).alloc _).alloc _
  have f_r : ((w.alloc (.cells #[.int .u8 0, .int .u8 0, .slice none 0 0] 63)).alloc (.cells #[.slice none 0 0, .int .u8 0, .int .u8 0] 82)).heap[w.heap.size]? = some (.cells #[.int .u8 0, .int .u8 0, .slice none 0 0] 63 (0, 0)) := (alloc2_at w _ _).1
  have f_m : Mkr ((w.alloc (.cells #[.int .u8 0, .int .u8 0, .slice none 0 0] 63)).alloc (.cells #[.slice none 0 0, .int .u8 0, .int .u8 0] 82)) (w.heap.size + 1) [] 0 0 := Mkr.nil (alloc2_at w _ _).2
  have HH : Hid _ := And.intro hm0 (And.intro f_r f_m)
  clear hm0 f_r f_m
  go_enter Tryz.func32, Tryz.ntmps32
  go_wp2_with fail
  generalize (w.alloc (.cells #[.int .u8 0, .int .u8 0, .slice none 0 0] 63)).alloc (.cells #[.slice none 0 0, .int .u8 0, .int .u8 0] 82) = w0 at *
  obtain ⟨hm0, f_r, f_m⟩ := HH.out
  clear HH
  go_loopw [11] (fun i wr => ∃ k sp : Nat, k ≤ q.length ∧ i = .int .i64 k ∧ Mod (fun _ => False) w wr ∧ wr.heap[w.heap.size]? = some (.cells #[.int .u8 0, .int .u8 0, .slice none 0 0] 63 (0, 0)) ∧ Mkr wr (w.heap.size + 1) (LK (pq q) k) sp (IK (pq q) k)) (fun i _ => q.length - (intOf i).toNat)
  case atStart => exact ⟨0, 0, by omega, rfl, hm0, f_r, f_m⟩
  case round =>
    clear hm0 f_r f_m
    obtain ⟨k, sp, hk, rfl, hm1, f_r, f_m⟩ := hrel
    by_cases hlt : k < q.length
    · have hK := stK HOK.out hq hlt
      have hlen := LK_len (pq q) k
      have hins := IK_len (pq q) k
      have HN : Hid _ := LK_next HOK.out (show k < (pq q).length by rw [HPL.out]; exact hlt)
      have hx : (pq q)[k]'(by rw [HPL.out]; exact hlt) = (q[k].x, q[k].wt) := by simp [pq]
      have HN : Hid (LK (pq q) (k + 1) = LK (pq q) k ++ stL (q.map It.x) k (IK (pq q) k) q[k].x ∧ IK (pq q) (k + 1) = IK (pq q) k + (if (q[k].x.word == [112, 116]) = true then 2 else 0)) := by
        have h := HN.out
        rw [hx, sts_pq] at h
        exact h
      clear hx
      generalize LK (pq q) k = LL at *
      generalize IK (pq q) k = II at *
      have hLr := hL.mod hm1 (fun _ _ _ f => f)
      obtain ⟨gb, rfl, c0, c1, c2, c3⟩ := hLr.cell hlt
      have hAk := hL.2 q[k] (List.getElem_mem hlt)
      obtain ⟨aa, acap, hae, -⟩ := owns_form hAk
      obtain ⟨kar, kgv, k12, kqs, kcs⟩ := hK
      have KGV : Hid _ := kgv
      clear kgv
      have hsgb := (hLr.1.lt gb rfl).2
      generalize hxe : q[k].x = x at *
      generalize hve : q[k].av = av at *
      generalize hwe : (q[k].wt : Int) = wt0 at *
      subst hae
      clear hxe hve hwe
      have hmlt := f_m.lt
      have f_mA := f_m.alloc (.cells #[.int .u8 x.name, S x.word, .slice aa x.args.length acap, .int .i64 wt0] 72)
      obtain ⟨m1, -, mf⟩ := f_mA.cells
      have mf1 := mf 1
      obtain ⟨f_m1, kB⟩ := f_m.set1 48
      have f_mB := f_m1.alloc (.cells #[.int .u8 x.name, S x.word, .slice aa x.args.length acap, .int .i64 wt0] 72)
      have kAB : Kp (w.heap.size + 1) wr ((wr.setCell ⟨w.heap.size + 1, 1, none⟩ (.int .u8 (48 : Nat))).alloc (.cells #[.int .u8 x.name, S x.word, .slice aa x.args.length acap, .int .i64 wt0] 72)) := kB.alloc _
      have hSB : Se ((wr.setCell ⟨w.heap.size + 1, 1, none⟩ (.int .u8 (48 : Nat))).alloc (.cells #[.int .u8 x.name, S x.word, .slice aa x.args.length acap, .int .i64 wt0] 72)) wr.heap.size x.name x.word (.slice aa x.args.length acap) wt0 := by
        have h := heap_alloc_new (wr.setCell ⟨w.heap.size + 1, 1, none⟩ (.int .u8 (48 : Nat))) (.cells #[.int .u8 x.name, S x.word, .slice aa x.args.length acap, .int .i64 wt0] 72)
        rw [show (wr.setCell ⟨w.heap.size + 1, 1, none⟩ (.int .u8 (48 : Nat))).heap.size = wr.heap.size by simp] at h
        exact h
      have hmB : Mod (fun _ => False) w ((wr.setCell ⟨w.heap.size + 1, 1, none⟩ (.int .u8 (48 : Nat))).alloc (.cells #[.int .u8 x.name, S x.word, .slice aa x.args.length acap, .int .i64 wt0] 72)) := hm1.trans' kAB
      have f_rB := kAB.keep f_r (by decide) (by decide)
      have s0 := hSB.c0
      have s1 := hSB.c1
      have s2 := hSB.c2
      have s3 := hSB.c3
      have HH : Hid _ := And.intro hmB (And.intro f_rB (And.intro f_mB hSB))
      clear f_mA mf f_mB kB kAB f_m1 hSB hmB f_rB hm1 f_r f_m hLr
      go_wp2_with fail
      generalize (wr.setCell ⟨w.heap.size + 1, 1, none⟩ (.int .u8 48)).alloc (.cells #[.int .u8 x.name, S x.word, .slice aa x.args.length acap, .int .i64 wt0] 72) = wB at *
      clear c0 c1 c2 c3 m1 mf1 s0 s1 s2 s3
      obtain ⟨hmB, f_rB, f_mB, hSB⟩ := HH.out
      clear HH
      have hLB := hL.mod hmB (fun _ _ _ f => f)
      have hAB := owns_mod hAk hmB (fun _ _ f => f)
      refine (argsOf_any _ q base x (.slice aa x.args.length acap) wt0 wB hq kar hLB hAB KGV.out).mono ?_
      rintro e w2 ⟨he, k2⟩
      obtain ⟨TT, hTT⟩ : ∃ TT, TT = thO (q.map It.x) x := ⟨_, rfl⟩
      rw [← hTT] at he k12
      have HTT : Hid (TT = thO (q.map It.x) x) := hTT
      subst he
      clear hTT hLB hAB
      have hm3 := (hmB.trans k2).alloc (.cells #[rV TT.a.x, rV TT.a.y, rV TT.a.w, rV TT.b.x, rV TT.b.y, rV TT.b.w, rV TT.c.x, rV TT.c.y, rV TT.c.w, rV TT.d.x, rV TT.d.y, rV TT.d.w] 86)
      have f_r3 := (k2.alloc (.cells #[rV TT.a.x, rV TT.a.y, rV TT.a.w, rV TT.b.x, rV TT.b.y, rV TT.b.w, rV TT.c.x, rV TT.c.y, rV TT.c.w, rV TT.d.x, rV TT.d.y, rV TT.d.w] 86)).keep f_rB (fun f => f)
      have f_m3 := (f_mB.mod k2).alloc (.cells #[rV TT.a.x, rV TT.a.y, rV TT.a.w, rV TT.b.x, rV TT.b.y, rV TT.b.w, rV TT.c.x, rV TT.c.y, rV TT.c.w, rV TT.d.x, rV TT.d.y, rV TT.d.w] 86)
      have hS3 := hSB.keep (k2.alloc (.cells #[rV TT.a.x, rV TT.a.y, rV TT.a.w, rV TT.b.x, rV TT.b.y, rV TT.b.w, rV TT.c.x, rV TT.c.y, rV TT.c.w, rV TT.d.x, rV TT.d.y, rV TT.d.w] 86)) (fun f => f)
      have f_t3 := AtH.new w2 TT
      have s0 := hS3.c0
      have s1 := hS3.c1
      have s2 := hS3.c2
      have s3 := hS3.c3
      have HH : Hid _ := And.intro hm3 (And.intro f_r3 (And.intro f_m3 (And.intro hS3 f_t3)))
      clear hm3 f_r3 f_m3 hS3 f_t3 k2 hmB f_rB f_mB hSB
      go_wp2_with fail
      generalize w2.alloc (.cells #[rV TT.a.x, rV TT.a.y, rV TT.a.w, rV TT.b.x, rV TT.b.y, rV TT.b.w, rV TT.c.x, rV TT.c.y, rV TT.c.w, rV TT.d.x, rV TT.d.y, rV TT.d.w] 86) = w3 at *
      obtain ⟨hm3, f_r3, f_m3, hS3, f_t3⟩ := HH.out
      clear HH s0 s1 s2 s3
      refine (isQuestion_any x.name x.word (.slice aa x.args.length acap) wt0 w3 rfl).mono ?_
      rintro e w4 ⟨rfl, k4⟩
      have hm4 := hm3.trans k4
      have f_r4 := k4.keep f_r3 (fun f => f)
      have f_m4 := f_m3.mod k4
      have hS4 := hS3.keep k4 (fun f => f)
      have f_t4 := f_t3.md k4
      clear hm3 f_r3 f_m3 hS3 f_t3 k4
      obtain ⟨t0, t1, t2, t3, t4, t5, t6, t7, t8, t9, t10, t11⟩ := f_t4.cs
      have s1 := hS4.c1
      have HH : Hid _ := And.intro hm4 (And.intro f_r4 (And.intro f_m4 (And.intro hS4 f_t4)))
      clear hm4 f_r4 f_m4 hS4 f_t4
      by_cases hn : x.name = 0
      · have hb : (x.name == 0) = true := by simpa using hn
        have h63 := kqs hn
        have HN2 : Hid (LK (pq q) (k + 1) = LL ++ qsL x.word TT ∧ IK (pq q) (k + 1) = II) := by
          obtain ⟨a, b⟩ := HN.out
          refine ⟨?_, ?_⟩
          · rw [a, stL, if_pos hn, HTT.out]
          · rw [b, if_neg (fun e => ?_)]; rfl
            have e : x.word = [112, 116] := by simpa using e
            rw [e] at h63; cases h63
        clear HN kqs kcs hn
        go_wp2_with fail
        clear t0 t1 t2 t3 t4 t5 t6 t7 t8 t9 t10 t11 s1
        obtain ⟨hm4, f_r4, f_m4, hS4, f_t4⟩ := HH.out
        clear HH
        obtain ⟨la1, la2⟩ := ask_len x.word h63 TT
        refine (mask_all x.word h63 (w.heap.size + 1) LL 48 II TT w4 f_m4 ⟨by omega, by omega⟩ k12).mono ?_
        rintro e w5 ⟨he, k5⟩
        obtain ⟨vv, hvv⟩ : ∃ vv, vv = 48 + (askL x.word 48 TT).2 := ⟨_, rfl⟩
        have he2 : e = .returned (rV vv) := by rw [hvv]; exact he
        have b_v : vv < 256 := by omega
        have HV : Hid (vv = 48 + (askL x.word 48 TT).2) := hvv
        subst he2
        clear he hvv
        have hm5 := hm4.trans' k5.1
        have f_r5 := k5.1.keep f_r4 (by decide) (by decide)
        have HH : Hid _ := And.intro hm5 (And.intro f_r5 k5.2)
        clear hm5 f_r5 k5 hm4 f_r4 f_m4 hS4 f_t4
        go_wp2_with fail
        obtain ⟨hm5, f_r5, f_m5⟩ := HH.out
        clear HH
        refine (madd_any (w.heap.size + 1) _ _ II ⟨6, vv, 0, 0⟩ w5 f_m5 (by simp; omega) ⟨by show 6 < 256; omega, b_v, by show 0 < 256; omega, by show 0 < 256; omega⟩).mono ?_
        rintro e w6 ⟨rfl, k6, f_m6⟩
        have hm6 := hm5.trans' k6
        have f_r6 := k6.keep f_r5 (by decide) (by decide)
        have f_m7 : Mkr w6 (w.heap.size + 1) (LK (pq q) (k + 1)) (48 + (askL x.word 48 TT).2 + 1) (IK (pq q) (k + 1)) := by
          rw [HN2.out.1, HN2.out.2, qsL, ← HV.out, ← List.append_assoc]
          rw [HV.out] at f_m6 ⊢
          exact f_m6
        have HX : Hid _ := And.intro hm6 (And.intro f_r6 f_m7)
        clear hm5 f_r5 f_m5 k6 f_m6 hm6 f_r6 f_m7
        go_wp2_with fail
        go_roundw
        case rel => exact ⟨k + 1, _, by omega, by go_num, HX.out.1, HX.out.2.1, HX.out.2.2⟩
        case measure => simp [intOf]; omega
      · have hb : (x.name == 0) = false := by simpa using hn
        have hcs := kcs hn
        have HN2 : Hid (LK (pq q) (k + 1) = LL ++ csL x.word II k TT ∧ IK (pq q) (k + 1) = II + (if (x.word == [112, 116]) = true then 2 else 0)) := by
          obtain ⟨a, b⟩ := HN.out
          exact ⟨by rw [a, stL, if_neg hn, HTT.out], b⟩
        clear HN kqs kcs hn
        go_wp2_with fail
        clear t0 t1 t2 t3 t4 t5 t6 t7 t8 t9 t10 t11 s1
        obtain ⟨hm4, f_r4, f_m4, hS4, f_t4⟩ := HH.out
        clear HH
        obtain ⟨lc1, lc2, lc3⟩ := con_len x.word hcs II TT
        have HI : Hid _ := con_in x.word hcs II TT
        refine (mcon_all x.word hcs (w.heap.size + 1) LL 48 II TT w4 f_m4 ⟨by omega, by omega⟩ k12 (by omega)).mono ?_
        rintro e w5 ⟨he, k5⟩
        have HCS : Hid (csL x.word II k TT = (conL x.word 48 II TT).1 ++ (grdL x.word (48 + (conL x.word 48 II TT).1.length) (conL x.word 48 II TT).2.1 k ++ keepL x.word (48 + (conL x.word 48 II TT).1.length + grdN x.word) (conL x.word 48 II TT).2.1 k)) := rfl
        generalize (conL x.word 48 II TT).1 = CL at *
        generalize (conL x.word 48 II TT).2.1 = m at *
        generalize (conL x.word 48 II TT).2.2 = I2 at *
        subst he
        obtain ⟨lg1, lg2, lg3⟩ := grd_len x.word hcs (48 + CL.length) m k
        obtain ⟨-, -, lg4⟩ := grd_len x.word hcs (48 + CL.length + grdN x.word) m k
        have hm5 := (hm4.trans' k5.1).alloc (.cells #[rV m.x, rV m.y, rV m.w] 84)
        have f_r5 := (k5.1.alloc (.cells #[rV m.x, rV m.y, rV m.w] 84)).keep f_r4 (by decide) (by decide)
        have f_m5 := k5.2.alloc (.cells #[rV m.x, rV m.y, rV m.w] 84)
        have hS5 := hS4.kp (k5.1.alloc (.cells #[rV m.x, rV m.y, rV m.w] 84))
        have f_d5 : AtT (w5.alloc (.cells #[rV m.x, rV m.y, rV m.w] 84)) w5.heap.size m := heap_alloc_new w5 _
        obtain ⟨d0, d1, d2⟩ := cells3 f_d5
        have s1 := hS5.c1
        have HH : Hid _ := And.intro hm5 (And.intro f_r5 (And.intro f_m5 (And.intro hS5 f_d5)))
        clear hm5 f_r5 f_m5 hS5 f_d5 k5 hm4 f_r4 f_m4 hS4 f_t4
        go_wp2_with fail
        generalize w5.alloc (.cells #[rV m.x, rV m.y, rV m.w] 84) = w5b at *
        clear d0 d1 d2 s1
        obtain ⟨hm5, f_r5, f_m5, hS5, f_d5⟩ := HH.out
        clear HH
        refine (mgrd_all x.word hcs (w.heap.size + 1) (LL ++ CL) (48 + CL.length) I2 m k w5b f_m5 ⟨by simp; omega, by omega⟩ lc2 (by omega)).mono ?_
        rintro e w6 ⟨rfl, k6⟩
        have hm6 := hm5.trans' k6.1
        have f_r6 := k6.1.keep f_r5 (by decide) (by decide)
        have hS6 := hS5.kp k6.1
        have f_d6 := At3.kp f_d5 k6.1
        obtain ⟨d0, d1, d2⟩ := cells3 f_d6
        have s1 := hS6.c1
        have HH : Hid _ := And.intro hm6 (And.intro f_r6 k6.2)
        clear hm5 f_r5 f_m5 hS5 f_d5 hm6 f_r6 k6 hS6 f_d6
        go_wp2_with fail
        clear d0 d1 d2 s1
        obtain ⟨hm6, f_r6, f_m6⟩ := HH.out
        clear HH
        refine (mkeep_all x.word hcs (w.heap.size + 1) _ (48 + CL.length + grdN x.word) I2 m k w6 f_m6 ⟨by simp; omega, by omega⟩ lc2 (by omega)).mono ?_
        rintro e w7 ⟨rfl, k7⟩
        have hm7 := hm6.trans' k7.1
        have f_r7 := k7.1.keep f_r6 (by decide) (by decide)
        have f_m7 : Mkr w7 (w.heap.size + 1) (LK (pq q) (k + 1)) (48 + CL.length + grdN x.word + 1) (IK (pq q) (k + 1)) := by
          rw [HN2.out.1, HN2.out.2, ← HI.out, HCS.out, ← List.append_assoc, ← List.append_assoc]
          exact k7.2
        have HX : Hid _ := And.intro hm7 (And.intro f_r7 f_m7)
        clear hm6 f_r6 f_m6 k7 hm7 f_r7 f_m7
        go_wp2_with fail
        go_roundw
        case rel => exact ⟨k + 1, _, by omega, by go_num, HX.out.1, HX.out.2.1, HX.out.2.2⟩
        case measure => simp [intOf]; omega
    · have hks : k = q.length := by omega
      subst hks
      obtain ⟨e1, e2⟩ := LK_all (pq q)
      rw [HPL.out, sts_pq] at e1 e2
      rw [e1, e2] at f_m
      clear e1 e2
      have hN : cntI (cmds (q.map It.x)) ≤ 32 := by
        have h1 := cntI_le (cmds (q.map It.x))
        have h2 : (cmds (q.map It.x)).length = q.length := by simp [cmds]
        omega
      obtain ⟨sv, hb, hP⟩ := f_m
      obtain ⟨so, scap, rfl, -⟩ := owns_form hP
      obtain ⟨c0, c1, c2⟩ := cells3 hb
      obtain ⟨y0, y1, y2⟩ := cells3 f_r
      have z0 := fz3 f_r 0
      have z1 := fz3 f_r 1
      have z2 := fz3 f_r 2
      have hlt2 := lt_of_block hb
      obtain ⟨NN, hNN⟩ : ∃ NN, NN = cntI (cmds (q.map It.x)) := ⟨_, rfl⟩
      rw [← hNN] at hb c2 hN
      have HNN : Hid (NN = cntI (cmds (q.map It.x))) := hNN
      clear hNN
      have HC : Hid _ := cells3 (set3_at (x' := .int .u8 128) (y' := .int .u8 (NN : Nat)) (z' := .slice so (cmdsL (cmds (q.map It.x)) 0 0).length scap) f_r)
      have hmE := set3_mod hm1 w.heap.size (.int .u8 128) (.int .u8 (NN : Nat)) (.slice so (cmdsL (cmds (q.map It.x)) 0 0).length scap) (Nat.le_refl _)
      have hPE := owns_base (base' := w.heap.size) (owns_mod hP (set3_own wr w.heap.size (.int .u8 128) (.int .u8 (NN : Nat)) (.slice so (cmdsL (cmds (q.map It.x)) 0 0).length scap)) (fun g h1 h2 => by omega)) (by omega)
      have HE : Hid _ := And.intro hmE hPE
      clear hmE hPE hm1 f_r hb hP
      go_wp2_with fail
      obtain ⟨g0, g1, g2⟩ := HC.out
      unfold set3 at g0 g1 g2
      exact bodyPost_ret (v := .agg #[.int .u8 128, .int .u8 (NN : Nat), .slice so (cmdsL (cmds (q.map It.x)) 0 0).length scap]) (by simp [results, Tryz.results32, go_sem, g0, g1, g2]) rfl ⟨HE.out.1, so, _, scap, by rw [HNN.out], HE.out.2⟩
end Go.Proofs.YtmnfndpbblpjiabGreatDoor

/- What Check answers, plainly. -/
namespace Go.Proofs.YtmnfndpbblpjiabGreatDoor
open Go.RowKit Pu

/-- What both answer of a text that is not too long: an error and a place. -/
def Ans (s : ByteArray) (a b : Nat) : Prop :=
  (Stuck s b ∧ a = 2) ∨
  (Whole s ∧ ∃ (p : List (St × Nat)) (hk : b < (gaA s s.size).l.length), Ok p ∧ sts p = (gaA s s.size).l.take b ∧ err p (gaA s s.size).l[b] ≠ 0 ∧ a = err p (gaA s s.size).l[b]) ∨
  (Whole s ∧ a = 0 ∧ b = 0 ∧ ∃ p, Ok p ∧ sts p = (gaA s s.size).l)

/-- Right beginnings with their weights are what they are. -/
theorem Ok.unique : ∀ {p r : List (St × Nat)}, Ok p → Ok r → ∀ n, n ≤ p.length → n ≤ r.length → (sts p).take n = (sts r).take n → p.take n = r.take n := by
  intro p r hp hr n
  induction n with
  | zero => intros; simp
  | succ n ih =>
    intro h1 h2 he
    have e' : (sts p).take n = (sts r).take n := by
      have := congrArg (List.take n) he
      simpa [List.take_take] using this
    have hih := ih (by omega) (by omega) e'
    have hn1 : n < p.length := by omega
    have hn2 : n < r.length := by omega
    have hx : p[n].1 = r[n].1 := by
      have := congrArg (fun l : List St => l[n]?) he
      simpa [sts, hn1, hn2] using this
    have hw : p[n].2 = r[n].2 := by rw [(hp n hn1).2, (hr n hn2).2, hih, hx]
    rw [take_snoc' p n hn1, take_snoc' r n hn2, hih, Prod.ext hx hw]

theorem Ans.unique {s : ByteArray} {a b c d : Nat} (h : Ans s a b) (k : Ans s c d) : a = c ∧ b = d := by
  have lens : ∀ {p : List (St × Nat)} {n : Nat}, sts p = (gaA s s.size).l.take n → n < (gaA s s.size).l.length → p.length = n := fun {p n} h1 h2 => by
    have := congrArg List.length h1; simp [sts] at this; omega
  have eqs : ∀ {p r : List (St × Nat)} {m n : Nat}, Ok p → Ok r → sts p = (gaA s s.size).l.take m → sts r = (gaA s s.size).l.take n → m ≤ n → p.length = m → m ≤ r.length → p = r.take m := fun {p r m n} o1 o2 h1 h2 hmn hpl hrl => by
    have := Ok.unique o1 o2 m (by omega) hrl (by rw [h1, h2, List.take_take, List.take_take]; congr 1; omega)
    rwa [List.take_of_length_le (by omega)] at this
  rcases h with ⟨hs, rfl⟩ | ⟨hw, p, hk, hok, hp, he, rfl⟩ | ⟨hw, rfl, rfl, p, hok, hp⟩
  · rcases k with ⟨ks, rfl⟩ | ⟨kw, _⟩ | ⟨kw, _⟩
    · exact ⟨rfl, hs.unique ks⟩
    · exact (hs.not_whole kw).elim
    · exact (hs.not_whole kw).elim
  · rcases k with ⟨ks, rfl⟩ | ⟨kw, r, kk, kok, kp, ke, rfl⟩ | ⟨kw, rfl, rfl, r, kok, kp⟩
    · exact (ks.not_whole hw).elim
    · have l1 := lens hp hk
      have l2 := lens kp kk
      rcases Nat.lt_trichotomy b d with hbd | hbd | hbd
      · have := eqs hok kok hp kp (by omega) l1 (by omega)
        have hx := (kok b (by omega)).1
        rw [← this] at hx
        have hxe : r[b].1 = (gaA s s.size).l[b] := by
          have h1 : (sts r)[b]? = ((gaA s s.size).l.take d)[b]? := by rw [kp]
          simp [sts, show b < r.length by omega, hk, hbd] at h1
          exact h1
        rw [hxe] at hx
        exact (he hx).elim
      · subst hbd
        have := eqs hok kok hp kp (Nat.le_refl _) l1 (by omega)
        rw [List.take_of_length_le (by omega)] at this
        subst this
        exact ⟨rfl, rfl⟩
      · have := eqs kok hok kp hp (by omega) l2 (by omega)
        have hx := (hok d (by omega)).1
        rw [← this] at hx
        have hxe : p[d].1 = (gaA s s.size).l[d] := by
          have h1 : (sts p)[d]? = ((gaA s s.size).l.take b)[d]? := by rw [hp]
          simp [sts, show d < p.length by omega, kk, hbd] at h1
          exact h1
        rw [hxe] at hx
        exact (ke hx).elim
    · exfalso
      have l1 := lens hp hk
      have l2 : r.length = (gaA s s.size).l.length := by have := congrArg List.length kp; simpa [sts] using this
      have := eqs (n := (gaA s s.size).l.length) hok kok hp (by rw [kp, List.take_length]) (by omega) l1 (by omega)
      have hx := (kok b (by omega)).1
      rw [← this] at hx
      have hxe : r[b].1 = (gaA s s.size).l[b] := by
        have h1 : (sts r)[b]? = ((gaA s s.size).l)[b]? := by rw [kp]
        simp [sts, show b < r.length by omega, hk] at h1
        exact h1
      rw [hxe] at hx
      exact he hx
  · rcases k with ⟨ks, rfl⟩ | ⟨kw, r, kk, kok, kp, ke, rfl⟩ | ⟨kw, rfl, rfl, r, kok, kp⟩
    · exact (ks.not_whole hw).elim
    · exfalso
      have l1 := lens kp kk
      have l2 : p.length = (gaA s s.size).l.length := by have := congrArg List.length hp; simpa [sts] using this
      have := eqs (n := (gaA s s.size).l.length) kok hok kp (by rw [hp, List.take_length]) (by omega) l1 (by omega)
      have hx := (hok d (by omega)).1
      rw [← this] at hx
      have hxe : p[d].1 = (gaA s s.size).l[d] := by
        have h1 : (sts p)[d]? = ((gaA s s.size).l)[d]? := by rw [hp]
        simp [sts, show d < p.length by omega, kk] at h1
        exact h1
      rw [hxe] at hx
      exact ke hx
    · exact ⟨rfl, rfl⟩

end Go.Proofs.YtmnfndpbblpjiabGreatDoor

/- Whole numbers in limbs of nine decimal digits: plain. -/
namespace Go.Proofs.YtmnfndpbblpjiabGreatDoor.Pu

def v9 : List Nat → Nat
  | [] => 0
  | d :: l => d + 1000000000 * v9 l
def D9 (l : List Nat) : Prop := ∀ d ∈ l, d < 1000000000
def T9 (l : List Nat) : Prop := ∀ d, l.getLast? = some d → d ≠ 0
theorem v9_append (a b : List Nat) : v9 (a ++ b) = v9 a + 1000000000 ^ a.length * v9 b := by
  induction a with
  | nil => simp [v9]
  | cons d a ih =>
    simp only [List.cons_append, v9, ih, List.length_cons, Nat.pow_succ, Nat.mul_add]
    rw [Nat.add_assoc]
    congr 2
    rw [← Nat.mul_assoc, Nat.mul_comm (1000000000 : Nat) (1000000000 ^ a.length)]
theorem v9_lt {a : List Nat} (h : D9 a) : v9 a < 1000000000 ^ a.length := by
  induction a with
  | nil => simp [v9]
  | cons d a ih =>
    have h1 := h d (by simp)
    have h2 := ih (fun x hx => h x (by simp [hx]))
    simp only [v9, List.length_cons, Nat.pow_succ]
    omega
theorem v9_zeros (n : Nat) : v9 (List.replicate n 0) = 0 := by
  induction n with
  | zero => rfl
  | succ n ih => simp [List.replicate_succ, v9, ih]
theorem v9_top {a : List Nat} (ht : T9 a) (hn : a ≠ []) : 1000000000 ^ (a.length - 1) ≤ v9 a := by
  obtain ⟨b, x, rfl⟩ : ∃ b x, a = b ++ [x] := ⟨a.dropLast, a.getLast hn, (List.dropLast_concat_getLast hn).symm⟩
  have hx : x ≠ 0 := ht x (by simp)
  rw [v9_append]
  simp only [v9, List.length_append, List.length_cons, List.length_nil]
  have : 1000000000 ^ b.length * 1 ≤ 1000000000 ^ b.length * (x + 1000000000 * 0) := Nat.mul_le_mul_left _ (by omega)
  simp at this ⊢
  omega
theorem v9_zero_top {l : List Nat} : v9 (l ++ [0]) = v9 l := by rw [v9_append]; simp [v9]
theorem v9_set (l : List Nat) (k x : Nat) (hk : k < l.length) : v9 (l.set k x) + 1000000000 ^ k * l[k] = v9 l + 1000000000 ^ k * x := by
  induction l generalizing k with
  | nil => simp at hk
  | cons d l ih =>
    cases k with
    | zero => simp [v9]; omega
    | succ k =>
      have hkl : k < l.length := by simpa using hk
      have := ih k hkl
      simp only [List.set_cons_succ, v9, List.getElem_cons_succ, Nat.pow_succ]
      have e1 : 1000000000 ^ k * 1000000000 * l[k] = 1000000000 * (1000000000 ^ k * l[k]) := by rw [Nat.mul_comm (1000000000 ^ k) 1000000000, Nat.mul_assoc]
      have e2 : 1000000000 ^ k * 1000000000 * x = 1000000000 * (1000000000 ^ k * x) := by rw [Nat.mul_comm (1000000000 ^ k) 1000000000, Nat.mul_assoc]
      rw [e1, e2]
      omega
theorem v9_take (l : List Nat) (k : Nat) (hk : k < l.length) : v9 (l.take (k + 1)) = v9 (l.take k) + 1000000000 ^ k * l[k] := by
  rw [List.take_succ_eq_append_getElem hk, v9_append, List.length_take, Nat.min_eq_left (by omega)]
  simp [v9]
theorem v9_split (l : List Nat) (k : Nat) (hk : k ≤ l.length) : v9 l = v9 (l.take k) + 1000000000 ^ k * v9 (l.drop k) := by
  have h := v9_append (l.take k) (l.drop k)
  rw [List.take_append_drop, List.length_take, Nat.min_eq_left hk] at h
  exact h
/-- A sign and limbs. -/
def num9 (neg : Bool) (l : List Nat) : Int := if neg then -(v9 l : Int) else (v9 l : Int)
def C9 (neg : Bool) (l : List Nat) : Prop := D9 l ∧ T9 l ∧ (l = [] → neg = false)
theorem v9_nil {l : List Nat} (ht : T9 l) (h : v9 l = 0) : l = [] := by
  cases hl : l with
  | nil => rfl
  | cons d q =>
    have h1 := v9_top ht (by rw [hl]; simp)
    have h2 : 0 < 1000000000 ^ (l.length - 1) := Nat.pow_pos (by omega)
    omega
end Go.Proofs.YtmnfndpbblpjiabGreatDoor.Pu

/- Limbs: a row added; carries; noughts on top. -/
namespace Go.Proofs.YtmnfndpbblpjiabGreatDoor.Pu

def rowTo (L : List Nat) (a : Nat) (b : List Nat) (f : Nat) : Nat → List Nat
  | 0 => L
  | k + 1 => (rowTo L a b f k).set (a + k) ((rowTo L a b f k)[a + k]?.getD 0 + b[k]?.getD 0 * f)
theorem rowTo_len (L : List Nat) (a : Nat) (b : List Nat) (f k : Nat) : (rowTo L a b f k).length = L.length := by
  induction k with
  | zero => rfl
  | succ k ih => simp [rowTo, ih]
theorem rowTo_far (L : List Nat) (a : Nat) (b : List Nat) (f k i : Nat) (hi : a + k ≤ i) : (rowTo L a b f k)[i]? = L[i]? := by
  induction k with
  | zero => rfl
  | succ k ih => simp only [rowTo]; rw [List.getElem?_set, if_neg (by omega)]; exact ih (by omega)
theorem rowTo_val (L : List Nat) (a : Nat) (b : List Nat) (f k : Nat) (hk : k ≤ b.length) (ha : a + b.length ≤ L.length) : v9 (rowTo L a b f k) = v9 L + 1000000000 ^ a * (f * v9 (b.take k)) := by
  induction k with
  | zero => simp [rowTo, v9]
  | succ k ih =>
    have hkb : k < b.length := by omega
    have hl : a + k < (rowTo L a b f k).length := by rw [rowTo_len]; omega
    have hs := v9_set (rowTo L a b f k) (a + k) ((rowTo L a b f k)[a + k] + b[k] * f) hl
    have e : rowTo L a b f (k + 1) = (rowTo L a b f k).set (a + k) ((rowTo L a b f k)[a + k] + b[k] * f) := by simp [rowTo, hl, hkb]
    rw [e, v9_take b k hkb]
    rw [ih (by omega), Nat.mul_add (1000000000 ^ (a + k))] at hs
    have e2 : 1000000000 ^ a * (f * (v9 (b.take k) + 1000000000 ^ k * b[k])) = 1000000000 ^ a * (f * v9 (b.take k)) + 1000000000 ^ (a + k) * (b[k] * f) := by
      rw [Nat.mul_add, Nat.mul_add, Nat.pow_add]
      congr 1
      rw [Nat.mul_comm (b[k]) f, Nat.mul_left_comm f, Nat.mul_assoc]
    rw [e2]
    omega
def Bd (L : List Nat) (M : Nat) : Prop := ∀ x ∈ L, x ≤ M
theorem rowTo_bd {L : List Nat} {a : Nat} {b : List Nat} {f M N : Nat} (hL : Bd L M) (hb : Bd b N) (k : Nat) : Bd (rowTo L a b f k) (M + N * f) := by
  have key : ∀ (i x : Nat), (rowTo L a b f k)[i]? = some x → x ≤ M + N * f := by
    induction k with
    | zero => intro i x hx; have := hL x (List.mem_of_getElem? hx); omega
    | succ k ih =>
      intro i x hx
      simp only [rowTo] at hx
      rw [List.getElem?_set] at hx
      by_cases e : a + k = i
      · rw [if_pos e] at hx
        split at hx
        · simp at hx
          rw [rowTo_far L a b f k (a + k) (Nat.le_refl _)] at hx
          have h1 : L[a + k]?.getD 0 ≤ M := by
            cases h : L[a + k]? with
            | none => simp
            | some y => simpa using hL y (List.mem_of_getElem? h)
          have h2 : b[k]?.getD 0 ≤ N := by
            cases h : b[k]? with
            | none => simp
            | some y => simpa using hb y (List.mem_of_getElem? h)
          have h3 : b[k]?.getD 0 * f ≤ N * f := Nat.mul_le_mul_right _ h2
          omega
        · cases hx
      · rw [if_neg e] at hx
        exact ih i x hx
  intro x hx
  obtain ⟨i, hi⟩ := List.getElem?_of_mem hx
  exact key i x hi
theorem Bd.at {L : List Nat} {M k : Nat} (h : Bd L M) (hk : k < L.length) : L[k] ≤ M := h _ (List.getElem_mem hk)
theorem D9.bd {L : List Nat} (h : D9 L) : Bd L 999999999 := fun x hx => by have := h x hx; omega
theorem Bd.d9 {L : List Nat} (h : Bd L 999999999) : D9 L := fun x hx => by have := h x hx; omega

/-- Carries: the limbs ahead of k, and what is carried on. -/
def carTo (L : List Nat) : Nat → List Nat × Nat
  | 0 => (L, 0)
  | k + 1 => let c := carTo L k; (c.1.set k ((c.1[k]?.getD 0 + c.2) % 1000000000), (c.1[k]?.getD 0 + c.2) / 1000000000)
theorem carTo_len (L : List Nat) (k : Nat) : (carTo L k).1.length = L.length := by
  induction k with
  | zero => rfl
  | succ k ih => simp [carTo, ih]
theorem carTo_far (L : List Nat) (k i : Nat) (hi : k ≤ i) : (carTo L k).1[i]? = L[i]? := by
  induction k with
  | zero => rfl
  | succ k ih => simp only [carTo]; rw [List.getElem?_set, if_neg (by omega)]; exact ih (by omega)
theorem carTo_small (L : List Nat) (k i x : Nat) (hi : i < k) (hx : (carTo L k).1[i]? = some x) : x < 1000000000 := by
  induction k generalizing x with
  | zero => omega
  | succ k ih =>
    simp only [carTo] at hx
    rw [List.getElem?_set] at hx
    by_cases e : k = i
    · rw [if_pos e] at hx
      split at hx
      · simp at hx; rw [← hx]; exact Nat.mod_lt _ (by omega)
      · cases hx
    · rw [if_neg e] at hx
      exact ih x (by omega) hx
theorem carTo_val (L : List Nat) (k : Nat) (hk : k ≤ L.length) : v9 (carTo L k).1 + 1000000000 ^ k * (carTo L k).2 = v9 L := by
  induction k with
  | zero => simp [carTo]
  | succ k ih =>
    have hl : k < (carTo L k).1.length := by rw [carTo_len]; omega
    have ih' := ih (by omega)
    have hs := v9_set (carTo L k).1 k (((carTo L k).1[k] + (carTo L k).2) % 1000000000) hl
    have e : carTo L (k + 1) = ((carTo L k).1.set k (((carTo L k).1[k] + (carTo L k).2) % 1000000000), ((carTo L k).1[k] + (carTo L k).2) / 1000000000) := by simp [carTo, hl]
    rw [e]
    generalize (carTo L k).1 = A at *
    generalize (carTo L k).2 = c at *
    have hd := Nat.div_add_mod (A[k] + c) 1000000000
    generalize (A[k] + c) / 1000000000 = q at *
    generalize (A[k] + c) % 1000000000 = r at *
    simp only
    have e1 : 1000000000 ^ (k + 1) * q = 1000000000 ^ k * (1000000000 * q) := by rw [Nat.pow_succ, Nat.mul_assoc]
    have e2 : 1000000000 ^ k * (1000000000 * q) + 1000000000 ^ k * r = 1000000000 ^ k * A[k] + 1000000000 ^ k * c := by rw [← Nat.mul_add, hd, Nat.mul_add]
    rw [e1]
    omega
theorem carTo_over {L : List Nat} {M : Nat} (hL : Bd L M) (hM : M ≤ 17000000000000000000) (k : Nat) : (carTo L k).2 ≤ 18000000000 := by
  induction k with
  | zero => simp [carTo]
  | succ k ih =>
    simp only [carTo]
    have : (carTo L k).1[k]?.getD 0 ≤ M := by
      rw [carTo_far L k k (Nat.le_refl _)]
      cases h : L[k]? with
      | none => simp
      | some y => simpa using hL y (List.mem_of_getElem? h)
    omega
theorem car_end {L : List Nat} {k : Nat} (hk : k = L.length) (hv : v9 L < 1000000000 ^ L.length) : D9 (carTo L k).1 ∧ v9 (carTo L k).1 = v9 L := by
  subst hk
  have h := carTo_val L L.length (Nat.le_refl _)
  have h0 : (carTo L L.length).2 = 0 := by
    refine Nat.eq_zero_of_not_pos fun hp => ?_
    have : 1000000000 ^ L.length * 1 ≤ 1000000000 ^ L.length * (carTo L L.length).2 := Nat.mul_le_mul_left _ hp
    omega
  rw [h0] at h
  refine ⟨fun d hd => ?_, by omega⟩
  obtain ⟨i, hi⟩ := List.getElem?_of_mem hd
  have hil := (List.getElem?_eq_some_iff.1 hi).1
  rw [carTo_len] at hil
  exact carTo_small L L.length i d hil hi
/-- Noughts on top. -/
theorem strip9 (l : List Nat) (n : Nat) (hn : n ≤ l.length) (hz : v9 (l.take n) = v9 l) (ht : n = 0 ∨ ∃ h : n - 1 < l.length, l[n - 1] ≠ 0) : T9 (l.take n) := by
  intro d hd
  rcases ht with rfl | ⟨h, hne⟩
  · simp at hd
  · by_cases h0 : n = 0
    · subst h0; simp at hd
    · rw [List.getLast?_take, if_neg h0] at hd
      rw [List.getElem?_eq_getElem h] at hd
      simp at hd
      rw [← hd]; exact hne
end Go.Proofs.YtmnfndpbblpjiabGreatDoor.Pu

/- The program's rows of limbs: addRow. -/
namespace Go.Proofs.YtmnfndpbblpjiabGreatDoor
open Go.RowKit Pu

def uvs (l : List Nat) : List Value := l.map fun (n : Nat) => Value.int .u64 (n : Int)
theorem uvs_set (d : List Nat) (k x : Nat) : (uvs d).set k (.int .u64 (x : Int)) = uvs (d.set k x) := by simp [uvs, List.map_set]
theorem uvs_cell {w : World} {base n : Nat} {ao : Option Addr} {cap : Nat} {l : List Nat} (h : w.ownsRow base 188 1 (.slice ao n cap) n (uvs l)) (hn : n = l.length) {k : Nat} (hk : k < l.length) :
    ∃ gb, ao = some ⟨gb, 0, none⟩ ∧ w.cell? ⟨gb, k, none⟩ = some (.int .u64 (l[k] : Int)) := by
  subst hn
  obtain ⟨gb, rfl, hc⟩ := owns_cell h (j := k) (by omega)
  exact ⟨gb, rfl, by rw [hc]; simp [uvs, hk]⟩
/-- A tally in memory. -/
def Tl (w : World) (tb : Nat) (v : Value) : Prop := w.heap[tb]? = some (.cells #[v] 248 (0, 0))
theorem Tl.c0 {w : World} {tb : Nat} {v : Value} (h : Tl w tb v) : w.cell? ⟨tb, 0, none⟩ = some v := by unfold Tl at h; simp [World.cell?, h]
theorem Tl.lt {w : World} {tb : Nat} {v : Value} (h : Tl w tb v) : tb < w.heap.size := lt_of_block h
theorem Tl.keep {p : Nat → Prop} {w w' : World} {tb : Nat} {v : Value} (h : Tl w tb v) (hm : Mod p w w') (hp : ¬ p tb) : Tl w' tb v := hm.keep h hp
theorem wrap_u64 {n : Int} (h0 : 0 ≤ n) (h : n < 18446744073709551616) : IntKind.u64.wrap n = n := by
  simp [IntKind.wrap, IntKind.signed, IntKind.bits]; omega

set_option maxHeartbeats 1600000 in
set_option maxRecDepth 4000 in
theorem addrow_any (tb gt tcap : Nat) (bv : Value) (L b : List Nat) (a f M base bbase : Nat) (w : World) (hT : Tl w tb (.slice (some ⟨gt, 0, none⟩) L.length tcap)) (hL : w.ownsRow base 188 1 (.slice (some ⟨gt, 0, none⟩) L.length tcap) L.length (uvs L)) (hB : w.ownsRow bbase 188 1 bv b.length (uvs b))
    (hne : ∀ g, bv.ownBlock = some g → g ≠ gt) (hnt : tb ≠ gt) (ha : a + b.length ≤ L.length) (hl : L.length ≤ 100000) (hM : Bd L M) (hb : D9 b) (hf : f < 1000000000) (hMM : M ≤ 17000000000000000000) :
    Calls Tryz.prog 207 #[.pointer (some ⟨tb, 0, none⟩), .int .i64 a, bv, .int .u64 f] w fun e w' => e = .returned (.tuple #[]) ∧ Mod (fun q => q = gt) w w' ∧ w'.ownsRow base 188 1 (.slice (some ⟨gt, 0, none⟩) L.length tcap) L.length (uvs (rowTo L a b f b.length)) := by
  obtain ⟨bo, bcap, rfl, -⟩ := owns_form hB
  have HBd : Hid (∀ k, Bd (rowTo L a b f k) (M + 999999999 * f)) := fun k => rowTo_bd hM hb.bd k
  have HFar : Hid (∀ k, (rowTo L a b f k)[a + k]? = L[a + k]?) := fun k => rowTo_far L a b f k (a + k) (Nat.le_refl _)
  have HM : Hid (Bd L M) := hM
  have HD : Hid (D9 b) := hb
  have HRL : Hid (∀ k, (rowTo L a b f k).length = L.length) := fun k => rowTo_len L a b f k
  have HNE : Hid _ := hne
  clear hM hb hne
  go_enter Tryz.func207, Tryz.ntmps207
  go_wp2_with fail
  go_loopw [8] (fun kv wr => ∃ k : Nat, k ≤ b.length ∧ kv = .int .i64 k ∧ wr.ownsRow base 188 1 (.slice (some ⟨gt, 0, none⟩) L.length tcap) L.length (uvs (rowTo L a b f k)) ∧ Mod (fun q => q = gt) w wr) (fun kv _ => b.length - (intOf kv).toNat)
  case atStart => exact ⟨0, by omega, rfl, hL, Mod.refl _ _⟩
  case round =>
    clear hL
    obtain ⟨k, hk, rfl, hown, hm⟩ := hrel
    have t0 := (hT.keep hm hnt).c0
    by_cases hlt : k < b.length
    · have hBr := owns_mod' hB hm (fun g h1 h2 => HNE.out g h1 h2)
      obtain ⟨gb, rfl, cb⟩ := uvs_cell hBr rfl hlt
      have hak : a + k < (rowTo L a b f k).length := by rw [HRL.out]; omega
      obtain ⟨g2, hg2, ca⟩ := uvs_cell hown (HRL.out k).symm hak
      injection hg2 with hg2
      injection hg2 with hg2
      subst hg2
      have hfz := hown.frozenAt (a + k)
      have hbk : b[k] < 1000000000 := HD.out _ (List.getElem_mem hlt)
      have haL : (rowTo L a b f k)[a + k] ≤ M := by
        have h1 := HFar.out k
        rw [List.getElem?_eq_getElem hak, List.getElem?_eq_getElem (by omega)] at h1
        rw [Option.some.inj h1]
        exact HM.out.at (by omega)
      have HNX : Hid (rowTo L a b f (k + 1) = (rowTo L a b f k).set (a + k) ((rowTo L a b f k)[a + k] + b[k] * f)) := show _ = _ by simp [rowTo, hak, hlt]
      have hst : (wr.setCell ⟨gt, a + k, none⟩ (.int .u64 (((rowTo L a b f k)[a + k] + b[k] * f : Nat) : Int))).ownsRow base 188 1 (.slice (some ⟨gt, 0, none⟩) L.length tcap) L.length (uvs (rowTo L a b f (k + 1))) := by
        rw [HNX.out, ← uvs_set]; exact (hown.stored (a + k) _).1
      have hm2 : Mod (fun q => q = gt) w (wr.setCell ⟨gt, a + k, none⟩ (.int .u64 (((rowTo L a b f k)[a + k] + b[k] * f : Nat) : Int))) := hm.setCell ⟨gt, a + k, none⟩ _ (fun _ => rfl)
      have HST : Hid _ := And.intro hst hm2
      clear hst hm2 hown hBr HNX
      generalize (rowTo L a b f k)[a + k] = x at *
      generalize b[k] = y at *
      have hyf : y * f ≤ 999999999 * 999999999 := Nat.mul_le_mul (by omega) (by omega)
      have w1 : IntKind.u64.wrap ((y : Int) * (f : Int)) = (y : Int) * (f : Int) := by
        rw [← Int.natCast_mul]; exact wrap_u64 (by omega) (by omega)
      have w2 : IntKind.u64.wrap ((x : Int) + (y : Int) * (f : Int)) = (x : Int) + (y : Int) * (f : Int) := by
        rw [← Int.natCast_mul]; exact wrap_u64 (by omega) (by omega)
      have w3 : IntKind.i64.wrap ((a : Int) + (k : Int)) = (a : Int) + (k : Int) := by
        simp [IntKind.wrap, IntKind.signed, IntKind.bits]; omega
      have q1 : (a : Int) + (k : Int) < (L.length : Int) := by omega
      have q0 : (0 : Int) ≤ (a : Int) + (k : Int) := by omega
      have q2 : ((a : Int) + (k : Int)).toNat = a + k := by omega
      clear hyf
      go_wp2_with fail
      go_region
      go_wp2_with fail
      go_roundw
      case rel =>
        have h2 := HST.out
        rw [show ((x + y * f : Nat) : Int) = (x : Int) + (y : Int) * (f : Int) by simp] at h2
        exact ⟨k + 1, by omega, by go_num, h2.1.drew, h2.2.drew⟩
      case measure => simp [intOf]; omega
    · have hks : k = b.length := by omega
      subst hks
      go_wp2_with fail
      exact bodyPost_end (v := .tuple #[]) (by simp [results, Tryz.results207]) rfl ⟨rfl, hm, hown⟩
end Go.Proofs.YtmnfndpbblpjiabGreatDoor

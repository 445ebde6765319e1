/- The program's argumentsOf. -/
import Derived.Test.YtmnfndpbblpjiabGreatDoorZb16
import Derived.Test.YtmnfndpbblpjiabGreatDoorZb17
import Derived.Test.YtmnfndpbblpjiabGreatDoorZb19
import Derived.Test.YtmnfndpbblpjiabGreatDoorZb10
namespace Go.Proofs.YtmnfndpbblpjiabGreatDoor
open Go.RowKit Pu

abbrev thC (t : Th) : Array Value := #[rV t.a.x, rV t.a.y, rV t.a.w, rV t.b.x, rV t.b.y, rV t.b.w, rV t.c.x, rV t.c.y, rV t.c.w, rV t.d.x, rV t.d.y, rV t.d.w]
theorem Tryz.infoTh : (Tryz.prog.info? 86).map (·.size) = some 12 := by kernel_rfl
theorem th_one (t : Th) : (thC t).all (·.oneCell') = true := by simp [thC, Value.oneCell']
def tz : Tr := ⟨0, 0, 0⟩
def thz : Th := ⟨tz, tz, tz, tz⟩
/-- The first k arguments are there. -/
def thK (l : List St) (x : St) (k : Nat) : Th := ⟨if 0 < k then thJ l x 0 else tz, if 1 < k then thJ l x 1 else tz, if 2 < k then thJ l x 2 else tz, if 3 < k then thJ l x 3 else tz⟩
theorem thK_all (l : List St) (x : St) : thK l x x.args.length = thO l x := by
  have key : ∀ j, (if j < x.args.length then thJ l x j else tz) = thJ l x j := fun j => by
    unfold thJ tz
    split <;> rfl
  unfold thK thO
  rw [key, key, key, key]
theorem fzH {w : World} {k : Nat} {t : Th} (h : AtH w k t) (i : Nat) : w.frozen? ⟨k, i, none⟩ = false := by unfold AtH at h; simp [World.frozen?, h]
def set3o (w : World) (b o : Nat) (x y z : Value) : World := ((w.setCell ⟨b, o, none⟩ x).setCell ⟨b, o + 1, none⟩ y).setCell ⟨b, o + 2, none⟩ z
theorem set3o_own (w : World) (b o : Nat) (x y z : Value) : Mod (fun q => q = b) w (set3o w b o x y z) := by
  have h0 : Mod (fun q => q = b) w (w.setCell ⟨b, o, none⟩ x) := (Mod.refl _ w).setCell ⟨b, o, none⟩ x (fun _ => rfl)
  have h1 := h0.setCell ⟨b, o + 1, none⟩ y (fun _ => rfl)
  exact h1.setCell ⟨b, o + 2, none⟩ z (fun _ => rfl)
theorem set3o_mod {a w : World} (h : Mod (fun _ => False) a w) (b o : Nat) (x y z : Value) (hb : a.heap.size ≤ b) : Mod (fun _ => False) a (set3o w b o x y z) := by
  have := (h.mono (q := fun q => q = b) (fun _ _ f => f.elim)).trans (set3o_own w b o x y z)
  exact this.mono (fun k hk e => by omega)
theorem cellsH {w : World} {b : Nat} {C : Array Value} {ty : TypeId} (i : Nat) (v : Value) (h : w.heap[b]? = some (.cells C ty (0, 0))) : (w.setCell ⟨b, i, none⟩ v).heap[b]? = some (.cells (C.setIfInBounds i v) ty (0, 0)) := by
  simp [World.setCell, Array.getElem?_modify, h]

theorem AtH.set0 {w : World} {b : Nat} {t : Th} (h : AtH w b t) (u : Tr) : AtH (set3o w b 0 (rV u.x) (rV u.y) (rV u.w)) b ⟨u, t.b, t.c, t.d⟩ := cellsH 2 _ (cellsH 1 _ (cellsH 0 _ h))
theorem AtH.set1 {w : World} {b : Nat} {t : Th} (h : AtH w b t) (u : Tr) : AtH (set3o w b 3 (rV u.x) (rV u.y) (rV u.w)) b ⟨t.a, u, t.c, t.d⟩ := cellsH 5 _ (cellsH 4 _ (cellsH 3 _ h))
theorem AtH.set2 {w : World} {b : Nat} {t : Th} (h : AtH w b t) (u : Tr) : AtH (set3o w b 6 (rV u.x) (rV u.y) (rV u.w)) b ⟨t.a, t.b, u, t.d⟩ := cellsH 8 _ (cellsH 7 _ (cellsH 6 _ h))
theorem AtH.set3 {w : World} {b : Nat} {t : Th} (h : AtH w b t) (u : Tr) : AtH (set3o w b 9 (rV u.x) (rV u.y) (rV u.w)) b ⟨t.a, t.b, t.c, u⟩ := cellsH 11 _ (cellsH 10 _ (cellsH 9 _ h))

set_option maxHeartbeats 1600000 in
set_option maxRecDepth 100000 in
theorem argsOf_any (v : Value) (q : List It) (base : Nat) (x : St) (av : Value) (wt : Int) (w : World) (hq : q.length ≤ 16) (hal : x.args.length ≤ 4) (hL : Lst w base v q) (hA : w.ownsRow base 5 1 av x.args.length (bvs x.args))
    (hg : ∀ i (hi : i < x.args.length), ∃ k, k < 16 ∧ gvI (q.map It.x) x.args[i].toNat = ((k : Nat) : Int)) :
    Calls Tryz.prog 46 #[v, ag4 x.name x.word av wt] w fun e w' => e = .returned (thV (thO (q.map It.x) x)) ∧ Mod (fun _ => False) w w' := by
  have hav := owns_one hA
  obtain ⟨aa, acap, rfl, -⟩ := owns_form hA
  have HG : Hid (∀ i (hi : i < x.args.length), ∃ k, k < 16 ∧ gvI (q.map It.x) x.args[i].toNat = ((k : Nat) : Int)) := hg
  have HK : Hid (thK (q.map It.x) x x.args.length = thO (q.map It.x) x) := thK_all _ _
  clear hg
  have hm0 : Mod (fun _ => False) w (((w.alloc (.cells #[.int .u8 x.name, S x.word, .slice aa x.args.length acap, .int .i64 wt] 72)).alloc (.cells #[.int .u8 0, .int .u8 0, .int .u8 0, .int .u8 0, .int .u8 0, .int .u8 0, .int .u8 0, .int .u8 0, .int .u8 0, .int .u8 0, .int .u8 0, .int .u8 0] 86)).alloc (.cells #[.int .u8 0, .int .u8 0, .int .u8 0, .int .u8 0, .int .u8 0, .int .u8 0, .int .u8 0, .int .u8 0, .int .u8 0, .int .u8 0, .int .u8 0, .int .u8 0] 86)) := (((Mod.refl _ w).alloc _).alloc _).alloc _
  have f_r : AtH (((w.alloc (.cells #[.int .u8 x.name, S x.word, .slice aa x.args.length acap, .int .i64 wt] 72)).alloc (.cells #[.int .u8 0, .int .u8 0, .int .u8 0, .int .u8 0, .int .u8 0, .int .u8 0, .int .u8 0, .int .u8 0, .int .u8 0, .int .u8 0, .int .u8 0, .int .u8 0] 86)).alloc (.cells #[.int .u8 0, .int .u8 0, .int .u8 0, .int .u8 0, .int .u8 0, .int .u8 0, .int .u8 0, .int .u8 0, .int .u8 0, .int .u8 0, .int .u8 0, .int .u8 0] 86)) (w.heap.size + 1) thz := by
    have h := heap_alloc_new (w.alloc (.cells #[.int .u8 x.name, S x.word, .slice aa x.args.length acap, .int .i64 wt] 72)) (.cells #[.int .u8 0, .int .u8 0, .int .u8 0, .int .u8 0, .int .u8 0, .int .u8 0, .int .u8 0, .int .u8 0, .int .u8 0, .int .u8 0, .int .u8 0, .int .u8 0] 86)
    simp only [sz_al] at h
    exact AtH.al (t := thz) h _
  have f_t : AtH (((w.alloc (.cells #[.int .u8 x.name, S x.word, .slice aa x.args.length acap, .int .i64 wt] 72)).alloc (.cells #[.int .u8 0, .int .u8 0, .int .u8 0, .int .u8 0, .int .u8 0, .int .u8 0, .int .u8 0, .int .u8 0, .int .u8 0, .int .u8 0, .int .u8 0, .int .u8 0] 86)).alloc (.cells #[.int .u8 0, .int .u8 0, .int .u8 0, .int .u8 0, .int .u8 0, .int .u8 0, .int .u8 0, .int .u8 0, .int .u8 0, .int .u8 0, .int .u8 0, .int .u8 0] 86)) (w.heap.size + 1 + 1) thz := by
    have h := heap_alloc_new ((w.alloc (.cells #[.int .u8 x.name, S x.word, .slice aa x.args.length acap, .int .i64 wt] 72)).alloc (.cells #[.int .u8 0, .int .u8 0, .int .u8 0, .int .u8 0, .int .u8 0, .int .u8 0, .int .u8 0, .int .u8 0, .int .u8 0, .int .u8 0, .int .u8 0, .int .u8 0] 86)) (.cells #[.int .u8 0, .int .u8 0, .int .u8 0, .int .u8 0, .int .u8 0, .int .u8 0, .int .u8 0, .int .u8 0, .int .u8 0, .int .u8 0, .int .u8 0, .int .u8 0] 86)
    simp only [sz_al] at h
    exact h
  have HH : Hid _ := And.intro hm0 (And.intro f_r f_t)
  clear hm0 f_r f_t
  go_enter Tryz.func46, Tryz.ntmps46
  go_wp2_with fail
  generalize ((w.alloc (.cells #[.int .u8 x.name, S x.word, .slice aa x.args.length acap, .int .i64 wt] 72)).alloc (.cells #[.int .u8 0, .int .u8 0, .int .u8 0, .int .u8 0, .int .u8 0, .int .u8 0, .int .u8 0, .int .u8 0, .int .u8 0, .int .u8 0, .int .u8 0, .int .u8 0] 86)).alloc (.cells #[.int .u8 0, .int .u8 0, .int .u8 0, .int .u8 0, .int .u8 0, .int .u8 0, .int .u8 0, .int .u8 0, .int .u8 0, .int .u8 0, .int .u8 0, .int .u8 0] 86) = w0 at *
  obtain ⟨hm0, f_r, f_t⟩ := HH.out
  clear HH
  go_loopw [12] (fun i wr => ∃ k : Nat, k ≤ x.args.length ∧ i = .int .i64 k ∧ Mod (fun _ => False) w wr ∧ AtH wr (w.heap.size + 1) thz ∧ AtH wr (w.heap.size + 1 + 1) (thK (q.map It.x) x k)) (fun i _ => x.args.length - (intOf i).toNat)
  case atStart => exact ⟨0, by omega, rfl, hm0, f_r, f_t⟩
  case round =>
    clear hm0 f_r f_t
    obtain ⟨k, hk, rfl, hmd, f_r, f_t⟩ := hrel
    by_cases hlt : k < x.args.length
    · have hLr := hL.mod hmd (fun _ _ _ f => f)
      have hAr := owns_mod hA hmd (fun _ _ f => f)
      obtain ⟨gb, rfl, ck⟩ := args_cell hAr rfl hlt
      obtain ⟨j, hj, hgj⟩ := HG.out k hlt
      have hj1 : ((j : Int) == -1) = false := by rw [beq_eq_false_iff_ne]; omega
      have hj2 : ((j : Int) != -1) = true := by rw [bne_iff_ne]; omega
      have hgv := giver_any v q x.args[k].toNat base wr (by omega) hLr
      rw [hgj] at hgv
      have HJ : Hid (thJ (q.map It.x) x k = hm j) := show thJ (q.map It.x) x k = hm j by
        unfold thJ ix ag
        rw [if_pos hlt, List.getElem?_eq_getElem hlt, Option.getD_some, hgj]; rfl
      clear hgj hLr hAr
      have hk4 : k < 4 := by omega
      have HH : Hid _ := And.intro hmd (And.intro f_r f_t)
      clear hmd f_r f_t
      rcases (show k = 0 ∨ k = 1 ∨ k = 2 ∨ k = 3 by omega) with rfl | rfl | rfl | rfl
      · go_wp2_with fail
        refine hgv.mono ?_
        rintro e w2 ⟨rfl, rfl⟩
        clear hgv
        go_wp2_with fail
        obtain ⟨hmd, f_r, f_t⟩ := HH.out
        clear HH
        refine (home_any j hj wr).mono ?_
        rintro e w3 ⟨rfl, k3⟩
        have hm3 := hmd.trans k3
        replace f_r := AtH.md f_r k3
        replace f_t := AtH.md f_t k3
        obtain ⟨c0, c1, c2, c3, c4, c5, c6, c7, c8, c9, c10, c11⟩ := f_t.cs
        have z0 := fzH f_t 0
        have z1 := fzH f_t 1
        have z2 := fzH f_t 2
        have f_t4 := AtH.set0 f_t (hm j)
        have hTh : (⟨hm j, (thK (q.map It.x) x 0).b, (thK (q.map It.x) x 0).c, (thK (q.map It.x) x 0).d⟩ : Th) = thK (q.map It.x) x 1 := by rw [← HJ.out]; rfl
        rw [hTh] at f_t4
        have f_r4 : AtH (set3o w3 (w.heap.size + 1 + 1) 0 (rV (hm j).x) (rV (hm j).y) (rV (hm j).w)) (w.heap.size + 1) thz := (set3o_own w3 (w.heap.size + 1 + 1) 0 (rV (hm j).x) (rV (hm j).y) (rV (hm j).w)).keep f_r (by omega)
        have hm4 := set3o_mod hm3 (w.heap.size + 1 + 1) 0 (rV (hm j).x) (rV (hm j).y) (rV (hm j).w) (by omega)
        have HX : Hid _ := And.intro hm4 (And.intro f_r4 f_t4)
        clear hmd hm3 k3 f_r f_t hm4 f_r4 f_t4
        go_wp2_with fail
        go_roundw
        case rel => exact ⟨1, by omega, by go_num, HX.out.1, HX.out.2.1, HX.out.2.2⟩
        case measure => simp [intOf]; omega
      · go_wp2_with fail
        refine hgv.mono ?_
        rintro e w2 ⟨rfl, rfl⟩
        clear hgv
        go_wp2_with fail
        obtain ⟨hmd, f_r, f_t⟩ := HH.out
        clear HH
        refine (home_any j hj wr).mono ?_
        rintro e w3 ⟨rfl, k3⟩
        have hm3 := hmd.trans k3
        replace f_r := AtH.md f_r k3
        replace f_t := AtH.md f_t k3
        obtain ⟨c0, c1, c2, c3, c4, c5, c6, c7, c8, c9, c10, c11⟩ := f_t.cs
        have z0 := fzH f_t 3
        have z1 := fzH f_t 4
        have z2 := fzH f_t 5
        have f_t4 := AtH.set1 f_t (hm j)
        have hTh : (⟨(thK (q.map It.x) x 1).a, hm j, (thK (q.map It.x) x 1).c, (thK (q.map It.x) x 1).d⟩ : Th) = thK (q.map It.x) x 2 := by rw [← HJ.out]; rfl
        rw [hTh] at f_t4
        have f_r4 : AtH (set3o w3 (w.heap.size + 1 + 1) 3 (rV (hm j).x) (rV (hm j).y) (rV (hm j).w)) (w.heap.size + 1) thz := (set3o_own w3 (w.heap.size + 1 + 1) 3 (rV (hm j).x) (rV (hm j).y) (rV (hm j).w)).keep f_r (by omega)
        have hm4 := set3o_mod hm3 (w.heap.size + 1 + 1) 3 (rV (hm j).x) (rV (hm j).y) (rV (hm j).w) (by omega)
        have HX : Hid _ := And.intro hm4 (And.intro f_r4 f_t4)
        clear hmd hm3 k3 f_r f_t hm4 f_r4 f_t4
        go_wp2_with fail
        go_roundw
        case rel => exact ⟨2, by omega, by go_num, HX.out.1, HX.out.2.1, HX.out.2.2⟩
        case measure => simp [intOf]; omega
      · go_wp2_with fail
        refine hgv.mono ?_
        rintro e w2 ⟨rfl, rfl⟩
        clear hgv
        go_wp2_with fail
        obtain ⟨hmd, f_r, f_t⟩ := HH.out
        clear HH
        refine (home_any j hj wr).mono ?_
        rintro e w3 ⟨rfl, k3⟩
        have hm3 := hmd.trans k3
        replace f_r := AtH.md f_r k3
        replace f_t := AtH.md f_t k3
        obtain ⟨c0, c1, c2, c3, c4, c5, c6, c7, c8, c9, c10, c11⟩ := f_t.cs
        have z0 := fzH f_t 6
        have z1 := fzH f_t 7
        have z2 := fzH f_t 8
        have f_t4 := AtH.set2 f_t (hm j)
        have hTh : (⟨(thK (q.map It.x) x 2).a, (thK (q.map It.x) x 2).b, hm j, (thK (q.map It.x) x 2).d⟩ : Th) = thK (q.map It.x) x 3 := by rw [← HJ.out]; rfl
        rw [hTh] at f_t4
        have f_r4 : AtH (set3o w3 (w.heap.size + 1 + 1) 6 (rV (hm j).x) (rV (hm j).y) (rV (hm j).w)) (w.heap.size + 1) thz := (set3o_own w3 (w.heap.size + 1 + 1) 6 (rV (hm j).x) (rV (hm j).y) (rV (hm j).w)).keep f_r (by omega)
        have hm4 := set3o_mod hm3 (w.heap.size + 1 + 1) 6 (rV (hm j).x) (rV (hm j).y) (rV (hm j).w) (by omega)
        have HX : Hid _ := And.intro hm4 (And.intro f_r4 f_t4)
        clear hmd hm3 k3 f_r f_t hm4 f_r4 f_t4
        go_wp2_with fail
        go_roundw
        case rel => exact ⟨3, by omega, by go_num, HX.out.1, HX.out.2.1, HX.out.2.2⟩
        case measure => simp [intOf]; omega
      · go_wp2_with fail
        refine hgv.mono ?_
        rintro e w2 ⟨rfl, rfl⟩
        clear hgv
        go_wp2_with fail
        obtain ⟨hmd, f_r, f_t⟩ := HH.out
        clear HH
        refine (home_any j hj wr).mono ?_
        rintro e w3 ⟨rfl, k3⟩
        have hm3 := hmd.trans k3
        replace f_r := AtH.md f_r k3
        replace f_t := AtH.md f_t k3
        obtain ⟨c0, c1, c2, c3, c4, c5, c6, c7, c8, c9, c10, c11⟩ := f_t.cs
        have z0 := fzH f_t 9
        have z1 := fzH f_t 10
        have z2 := fzH f_t 11
        have f_t4 := AtH.set3 f_t (hm j)
        have hTh : (⟨(thK (q.map It.x) x 3).a, (thK (q.map It.x) x 3).b, (thK (q.map It.x) x 3).c, hm j⟩ : Th) = thK (q.map It.x) x 4 := by rw [← HJ.out]; rfl
        rw [hTh] at f_t4
        have f_r4 : AtH (set3o w3 (w.heap.size + 1 + 1) 9 (rV (hm j).x) (rV (hm j).y) (rV (hm j).w)) (w.heap.size + 1) thz := (set3o_own w3 (w.heap.size + 1 + 1) 9 (rV (hm j).x) (rV (hm j).y) (rV (hm j).w)).keep f_r (by omega)
        have hm4 := set3o_mod hm3 (w.heap.size + 1 + 1) 9 (rV (hm j).x) (rV (hm j).y) (rV (hm j).w) (by omega)
        have HX : Hid _ := And.intro hm4 (And.intro f_r4 f_t4)
        clear hmd hm3 k3 f_r f_t hm4 f_r4 f_t4
        go_wp2_with fail
        go_roundw
        case rel => exact ⟨4, by omega, by go_num, HX.out.1, HX.out.2.1, HX.out.2.2⟩
        case measure => simp [intOf]; omega
    · have hks : k = x.args.length := by omega
      subst hks
      rw [HK.out] at f_t
      have HF1 : Hid _ := f_t
      have HF2 : Hid _ := f_r
      have HM : Hid _ := setRow_new (b := w.heap.size + 1) (C := thC (thO (q.map It.x) x)) hmd (by omega)
      have HQ : Hid _ := run_loadVar_row (P := Tryz.prog) _ _ _ 86 (thC (thO (q.map It.x) x)) (0, 0) _ (setRow_at (C' := thC (thO (q.map It.x) x)) f_r) Tryz.underlying86 rfl Tryz.infoTh
      clear hmd f_r f_t
      go_wp2_with (first
        | (refine wpList_load_row rfl 86 _ rfl _ rfl (thC (thO (q.map It.x) x)) 86 (0, 0) ?hb0 _ Tryz.underlying86 rfl Tryz.infoTh ?_; case hb0 => exact HF1.out)
        | (refine wpList_store_row rfl 86 _ _ rfl _ (thC thz) (thC (thO (q.map It.x) x)) 86 rfl rfl ?hb1 Tryz.infoTh rfl (th_one _) ?_; case hb1 => exact HF2.out))
      refine bodyPost_ret (v := thV (thO (q.map It.x) x)) ?_ rfl ⟨rfl, HM.out⟩
      rw [results_one Tryz.results46]
      simp [asAddr, Result.andThen, HQ.out, Act.put]
end Go.Proofs.YtmnfndpbblpjiabGreatDoor

/- The maker's methods at every word. -/
namespace Go.Proofs.YtmnfndpbblpjiabGreatDoor
open Go.RowKit Pu

theorem mask_all (wd : List UInt8) (hw : (fm wd).2 = 63) (mb : Nat) (L : List Stp) (s i : Nat) (t : Th) (w : World) (hM : Mkr w mb L s i) (hr : Room L s 54) (h8 : S12 t) :
    Calls Tryz.prog 48 #[mP mb, S wd, thV t] w fun e w' => e = .returned (rV (s + (askL wd s t).2)) ∧ MkEnd w w' mb (L ++ (askL wd s t).1) (s + (askL wd s t).2 + 1) i := by
  rcases word_cases (w := wd) (by omega) with rfl | rfl | rfl | rfl | rfl | rfl | rfl | rfl | rfl | rfl | rfl | rfl | rfl | rfl | rfl | rfl | rfl | rfl
  · cases hw
  · cases hw
  · cases hw
  · cases hw
  · cases hw
  · cases hw
  · cases hw
  · cases hw
  · cases hw
  · exact mask_same mb L s i t w hM (hr.mono (by omega)) h8
  · exact mask_col mb L s i t w hM (hr.mono (by omega)) h8
  · exact mask_ccw mb L s i t w hM (hr.mono (by omega)) h8
  · exact mask_btw mb L s i t w hM (hr.mono (by omega)) h8
  · exact mask_con mb L s i t w hM (hr.mono (by omega)) h8
  · exact mask_on mb L s i t w hM (hr.mono (by omega)) h8
  · exact mask_pll mb L s i t w hM (hr.mono (by omega)) h8
  · exact mask_prp mb L s i t w hM (hr.mono (by omega)) h8
  · exact mask_cc mb L s i t w hM (hr.mono (by omega)) h8
theorem mcon_all (wd : List UInt8) (hw : (fm wd).2 = 80 ∨ (fm wd).2 = 76) (mb : Nat) (L : List Stp) (s i : Nat) (t : Th) (w : World) (hM : Mkr w mb L s i) (hr : Room L s 61) (h8 : S12 t) (hi : i < 100) :
    Calls Tryz.prog 50 #[mP mb, S wd, thV t] w fun e w' => e = .returned (trV (conL wd s i t).2.1) ∧ MkEnd w w' mb (L ++ (conL wd s i t).1) (s + (conL wd s i t).1.length) (conL wd s i t).2.2 := by
  rcases word_cases (w := wd) (by omega) with rfl | rfl | rfl | rfl | rfl | rfl | rfl | rfl | rfl | rfl | rfl | rfl | rfl | rfl | rfl | rfl | rfl | rfl
  · exact mcon_pt mb L s i t w hM (hr.mono (by omega)) h8 hi
  · exact mcon_mid mb L s i t w hM (hr.mono (by omega)) h8
  · exact mcon_line mb L s i t w hM (hr.mono (by omega)) h8
  · exact mcon_par mb L s i t w hM (hr.mono (by omega)) h8
  · exact mcon_perp mb L s i t w hM (hr.mono (by omega)) h8
  · exact mcon_meet mb L s i t w hM (hr.mono (by omega)) h8
  · exact mcon_foot mb L s i t w hM (hr.mono (by omega)) h8
  · exact mcon_mirror mb L s i t w hM (hr.mono (by omega)) h8
  · exact mcon_centre mb L s i t w hM (hr.mono (by omega)) h8
  · rcases hw with hw | hw <;> cases hw
  · rcases hw with hw | hw <;> cases hw
  · rcases hw with hw | hw <;> cases hw
  · rcases hw with hw | hw <;> cases hw
  · rcases hw with hw | hw <;> cases hw
  · rcases hw with hw | hw <;> cases hw
  · rcases hw with hw | hw <;> cases hw
  · rcases hw with hw | hw <;> cases hw
  · rcases hw with hw | hw <;> cases hw
theorem mgrd_all (wd : List UInt8) (hw : (fm wd).2 = 80 ∨ (fm wd).2 = 76) (mb : Nat) (L : List Stp) (s i : Nat) (m : Tr) (k : Nat) (w : World) (hM : Mkr w mb L s i) (hr : Room L s 4) (h8 : S8 m) (hk : k < 16) :
    Calls Tryz.prog 51 #[mP mb, S wd, trV m, .int .i64 k] w fun e w' => e = .returned (.tuple #[]) ∧ MkEnd w w' mb (L ++ grdL wd s m k) (s + grdN wd) i := by
  rcases word_cases (w := wd) (by omega) with rfl | rfl | rfl | rfl | rfl | rfl | rfl | rfl | rfl | rfl | rfl | rfl | rfl | rfl | rfl | rfl | rfl | rfl
  · exact mgrd_pt mb L s i m k w hM hr h8 hk
  · exact mgrd_mid mb L s i m k w hM hr h8 hk
  · exact mgrd_line mb L s i m k w hM hr h8 hk
  · exact mgrd_par mb L s i m k w hM hr h8 hk
  · exact mgrd_perp mb L s i m k w hM hr h8 hk
  · exact mgrd_meet mb L s i m k w hM hr h8 hk
  · exact mgrd_foot mb L s i m k w hM hr h8 hk
  · exact mgrd_mirror mb L s i m k w hM hr h8 hk
  · exact mgrd_centre mb L s i m k w hM hr h8 hk
  · rcases hw with hw | hw <;> cases hw
  · rcases hw with hw | hw <;> cases hw
  · rcases hw with hw | hw <;> cases hw
  · rcases hw with hw | hw <;> cases hw
  · rcases hw with hw | hw <;> cases hw
  · rcases hw with hw | hw <;> cases hw
  · rcases hw with hw | hw <;> cases hw
  · rcases hw with hw | hw <;> cases hw
  · rcases hw with hw | hw <;> cases hw
theorem mkeep_all (wd : List UInt8) (hw : (fm wd).2 = 80 ∨ (fm wd).2 = 76) (mb : Nat) (L : List Stp) (s i : Nat) (m : Tr) (k : Nat) (w : World) (hM : Mkr w mb L s i) (hr : Room L s 4) (h8 : S8 m) (hk : k < 16) :
    Calls Tryz.prog 52 #[mP mb, S wd, trV m, .int .i64 k] w fun e w' => e = .returned (.tuple #[]) ∧ MkEnd w w' mb (L ++ keepL wd s m k) (s + 1) i := by
  rcases word_cases (w := wd) (by omega) with rfl | rfl | rfl | rfl | rfl | rfl | rfl | rfl | rfl | rfl | rfl | rfl | rfl | rfl | rfl | rfl | rfl | rfl
  · exact mkeep_pt mb L s i m k w hM hr h8 hk
  · exact mkeep_mid mb L s i m k w hM hr h8 hk
  · exact mkeep_line mb L s i m k w hM hr h8 hk
  · exact mkeep_par mb L s i m k w hM hr h8 hk
  · exact mkeep_perp mb L s i m k w hM hr h8 hk
  · exact mkeep_meet mb L s i m k w hM hr h8 hk
  · exact mkeep_foot mb L s i m k w hM hr h8 hk
  · exact mkeep_mirror mb L s i m k w hM hr h8 hk
  · exact mkeep_centre mb L s i m k w hM hr h8 hk
  · rcases hw with hw | hw <;> cases hw
  · rcases hw with hw | hw <;> cases hw
  · rcases hw with hw | hw <;> cases hw
  · rcases hw with hw | hw <;> cases hw
  · rcases hw with hw | hw <;> cases hw
  · rcases hw with hw | hw <;> cases hw
  · rcases hw with hw | hw <;> cases hw
  · rcases hw with hw | hw <;> cases hw
  · rcases hw with hw | hw <;> cases hw
/-- How much a statement makes. -/
theorem ask_len (wd : List UInt8) (hw : (fm wd).2 = 63) (t : Th) : (askL wd 48 t).1.length ≤ 60 ∧ (askL wd 48 t).2 ≤ 60 := by
  rcases word_cases (w := wd) (by omega) with rfl | rfl | rfl | rfl | rfl | rfl | rfl | rfl | rfl | rfl | rfl | rfl | rfl | rfl | rfl | rfl | rfl | rfl
  · cases hw
  · cases hw
  · cases hw
  · cases hw
  · cases hw
  · cases hw
  · cases hw
  · cases hw
  · cases hw
  · exact ⟨Nat.le_of_ble_eq_true rfl, Nat.le_of_ble_eq_true rfl⟩
  · exact ⟨Nat.le_of_ble_eq_true rfl, Nat.le_of_ble_eq_true rfl⟩
  · exact ⟨Nat.le_of_ble_eq_true rfl, Nat.le_of_ble_eq_true rfl⟩
  · exact ⟨Nat.le_of_ble_eq_true rfl, Nat.le_of_ble_eq_true rfl⟩
  · exact ⟨Nat.le_of_ble_eq_true rfl, Nat.le_of_ble_eq_true rfl⟩
  · exact ⟨Nat.le_of_ble_eq_true rfl, Nat.le_of_ble_eq_true rfl⟩
  · exact ⟨Nat.le_of_ble_eq_true rfl, Nat.le_of_ble_eq_true rfl⟩
  · exact ⟨Nat.le_of_ble_eq_true rfl, Nat.le_of_ble_eq_true rfl⟩
  · exact ⟨Nat.le_of_ble_eq_true rfl, Nat.le_of_ble_eq_true rfl⟩
theorem con_len (wd : List UInt8) (hw : (fm wd).2 = 80 ∨ (fm wd).2 = 76) (i : Nat) (t : Th) : (conL wd 48 i t).1.length ≤ 61 ∧ S8 (conL wd 48 i t).2.1 ∧ (conL wd 48 i t).2.2 ≤ i + 2 := by
  rcases word_cases (w := wd) (by omega) with rfl | rfl | rfl | rfl | rfl | rfl | rfl | rfl | rfl | rfl | rfl | rfl | rfl | rfl | rfl | rfl | rfl | rfl
  · exact ⟨Nat.le_of_ble_eq_true rfl, ⟨Nat.le_of_ble_eq_true rfl, Nat.le_of_ble_eq_true rfl, Nat.le_of_ble_eq_true rfl⟩, Nat.le_refl _⟩
  · exact ⟨Nat.le_of_ble_eq_true rfl, ⟨Nat.le_of_ble_eq_true rfl, Nat.le_of_ble_eq_true rfl, Nat.le_of_ble_eq_true rfl⟩, Nat.le_add_right i 2⟩
  · exact ⟨Nat.le_of_ble_eq_true rfl, ⟨Nat.le_of_ble_eq_true rfl, Nat.le_of_ble_eq_true rfl, Nat.le_of_ble_eq_true rfl⟩, Nat.le_add_right i 2⟩
  · exact ⟨Nat.le_of_ble_eq_true rfl, ⟨Nat.le_of_ble_eq_true rfl, Nat.le_of_ble_eq_true rfl, Nat.le_of_ble_eq_true rfl⟩, Nat.le_add_right i 2⟩
  · exact ⟨Nat.le_of_ble_eq_true rfl, ⟨Nat.le_of_ble_eq_true rfl, Nat.le_of_ble_eq_true rfl, Nat.le_of_ble_eq_true rfl⟩, Nat.le_add_right i 2⟩
  · exact ⟨Nat.le_of_ble_eq_true rfl, ⟨Nat.le_of_ble_eq_true rfl, Nat.le_of_ble_eq_true rfl, Nat.le_of_ble_eq_true rfl⟩, Nat.le_add_right i 2⟩
  · exact ⟨Nat.le_of_ble_eq_true rfl, ⟨Nat.le_of_ble_eq_true rfl, Nat.le_of_ble_eq_true rfl, Nat.le_of_ble_eq_true rfl⟩, Nat.le_add_right i 2⟩
  · exact ⟨Nat.le_of_ble_eq_true rfl, ⟨Nat.le_of_ble_eq_true rfl, Nat.le_of_ble_eq_true rfl, Nat.le_of_ble_eq_true rfl⟩, Nat.le_add_right i 2⟩
  · exact ⟨Nat.le_of_ble_eq_true rfl, ⟨Nat.le_of_ble_eq_true rfl, Nat.le_of_ble_eq_true rfl, Nat.le_of_ble_eq_true rfl⟩, Nat.le_add_right i 2⟩
  · rcases hw with hw | hw <;> cases hw
  · rcases hw with hw | hw <;> cases hw
  · rcases hw with hw | hw <;> cases hw
  · rcases hw with hw | hw <;> cases hw
  · rcases hw with hw | hw <;> cases hw
  · rcases hw with hw | hw <;> cases hw
  · rcases hw with hw | hw <;> cases hw
  · rcases hw with hw | hw <;> cases hw
  · rcases hw with hw | hw <;> cases hw
theorem grd_len (wd : List UInt8) (hw : (fm wd).2 = 80 ∨ (fm wd).2 = 76) (s : Nat) (m : Tr) (k : Nat) : (grdL wd s m k).length ≤ 4 ∧ grdN wd ≤ 3 ∧ (keepL wd s m k).length = 4 := by
  rcases word_cases (w := wd) (by omega) with rfl | rfl | rfl | rfl | rfl | rfl | rfl | rfl | rfl | rfl | rfl | rfl | rfl | rfl | rfl | rfl | rfl | rfl
  · exact ⟨Nat.le_of_ble_eq_true rfl, Nat.le_of_ble_eq_true rfl, rfl⟩
  · exact ⟨Nat.le_of_ble_eq_true rfl, Nat.le_of_ble_eq_true rfl, rfl⟩
  · exact ⟨Nat.le_of_ble_eq_true rfl, Nat.le_of_ble_eq_true rfl, rfl⟩
  · exact ⟨Nat.le_of_ble_eq_true rfl, Nat.le_of_ble_eq_true rfl, rfl⟩
  · exact ⟨Nat.le_of_ble_eq_true rfl, Nat.le_of_ble_eq_true rfl, rfl⟩
  · exact ⟨Nat.le_of_ble_eq_true rfl, Nat.le_of_ble_eq_true rfl, rfl⟩
  · exact ⟨Nat.le_of_ble_eq_true rfl, Nat.le_of_ble_eq_true rfl, rfl⟩
  · exact ⟨Nat.le_of_ble_eq_true rfl, Nat.le_of_ble_eq_true rfl, rfl⟩
  · exact ⟨Nat.le_of_ble_eq_true rfl, Nat.le_of_ble_eq_true rfl, rfl⟩
  · rcases hw with hw | hw <;> cases hw
  · rcases hw with hw | hw <;> cases hw
  · rcases hw with hw | hw <;> cases hw
  · rcases hw with hw | hw <;> cases hw
  · rcases hw with hw | hw <;> cases hw
  · rcases hw with hw | hw <;> cases hw
  · rcases hw with hw | hw <;> cases hw
  · rcases hw with hw | hw <;> cases hw
  · rcases hw with hw | hw <;> cases hw
theorem con_in (wd : List UInt8) (hw : (fm wd).2 = 80 ∨ (fm wd).2 = 76) (i : Nat) (t : Th) : (conL wd 48 i t).2.2 = i + (if (wd == [112, 116]) = true then 2 else 0) := by
  rcases word_cases (w := wd) (by omega) with rfl | rfl | rfl | rfl | rfl | rfl | rfl | rfl | rfl | rfl | rfl | rfl | rfl | rfl | rfl | rfl | rfl | rfl
  · rfl
  · rfl
  · rfl
  · rfl
  · rfl
  · rfl
  · rfl
  · rfl
  · rfl
  · rcases hw with hw | hw <;> cases hw
  · rcases hw with hw | hw <;> cases hw
  · rcases hw with hw | hw <;> cases hw
  · rcases hw with hw | hw <;> cases hw
  · rcases hw with hw | hw <;> cases hw
  · rcases hw with hw | hw <;> cases hw
  · rcases hw with hw | hw <;> cases hw
  · rcases hw with hw | hw <;> cases hw
  · rcases hw with hw | hw <;> cases hw
theorem hm8 {k : Nat} (h : k < 16) : S8 (hm k) := ⟨by show 3 * k < 256; omega, by show 3 * k + 1 < 256; omega, by show 3 * k + 2 < 256; omega⟩
end Go.Proofs.YtmnfndpbblpjiabGreatDoor

/- The program's look at sorts, and its weighing. -/
namespace Go.Proofs.YtmnfndpbblpjiabGreatDoor
open Go.RowKit Pu

theorem Lst.drewN {w : World} {base : Nat} {v : Value} {q : List It} (h : Lst w base v q) (n : Nat) : Lst (w.drewN n) base v q := h.mod (Mod.same n (fun _ => False) w) (fun _ _ _ f => f)
theorem who_q {q : List It} {nm j : Nat} (hj : j < q.length) (h : gvI (q.map It.x) nm = (j : Int)) : who (pq q) nm = some (q[j].x, q[j].wt) := by
  have := who_of (p := pq q) (nm := nm) (k := j) (by simpa [pq] using hj) (by rw [sts_pq]; exact h)
  simpa [pq] using this
theorem given_q {q : List It} {nm : Nat} (h : gvI (q.map It.x) nm ≠ -1) : ∃ j, ∃ hj : j < q.length, gvI (q.map It.x) nm = (j : Int) ∧ q[j].x.name = nm := by
  obtain ⟨k, hk, h1, h2⟩ := given_lt (p := pq q) (nm := nm) (by rw [sts_pq]; exact h)
  exact ⟨k, by simpa [pq] using hk, by rw [← sts_pq]; exact h1, by simpa [pq] using h2⟩
theorem sorts_no {p : List (St × Nat)} {ag so : List UInt8} {k : Nat} (hk : k < ag.length) (hs : k < so.length) (h : ¬ sG (argWord p ag[k].toNat) = so[k].toNat) : sortsOkG p ag so = false := by
  unfold sortsOkG
  rw [Bool.eq_false_iff, ne_eq, List.all_eq_true]
  intro H
  have := H (ag[k], so[k]) (by rw [← List.getElem_zip (h := by simp; omega)]; exact List.getElem_mem _)
  exact h (by simpa using this)
theorem sorts_yes {p : List (St × Nat)} {ag so : List UInt8} (h : ∀ j (hj : j < ag.length) (hs : j < so.length), sG (argWord p ag[j].toNat) = so[j].toNat) : sortsOkG p ag so = true := by
  unfold sortsOkG
  rw [List.all_eq_true]
  intro y hy
  obtain ⟨j, hj, rfl⟩ := List.getElem_of_mem hy
  have hj' : j < min ag.length so.length := by simpa using hj
  simpa using h j (by omega) (by omega)

set_option maxHeartbeats 1600000 in
set_option maxRecDepth 100000 in
theorem sortsFit_any (v : Value) (q : List It) (base : Nat) (x : St) (av : Value) (wt : Int) (so : List UInt8) (w : World) (hq : q.length ≤ 1000) (hal : x.args.length ≤ 1000) (hL : Lst w base v q) (hA : w.ownsRow base 5 1 av x.args.length (bvs x.args))
    (hg : ∀ j (hj : j < x.args.length), gvI (q.map It.x) x.args[j].toNat ≠ -1) (hlen : x.args.length = so.length) :
    Calls Tryz.prog 75 #[v, ag4 x.name x.word av wt, S so] w fun e w' => e = .returned (.bool (sortsOkG (pq q) x.args so)) ∧ Mod (fun _ => False) w w' := by
  have hS := se_new w x.name x.word av wt
  have hm0 : Mod (fun _ => False) w (w.alloc (.cells #[.int .u8 x.name, S x.word, av, .int .i64 wt] 72)) := (Mod.refl _ w).alloc _
  have hL1 := hL.mod hm0 (fun _ _ _ f => f)
  have hA1 := owns_mod hA hm0 (fun _ _ f => f)
  have hav := owns_one hA
  obtain ⟨aa, acap, rfl, -⟩ := owns_form hA
  obtain ⟨va, vcap, rfl, -⟩ := hL.form
  have HG : Hid (∀ j (hj : j < x.args.length), gvI (q.map It.x) x.args[j].toNat ≠ -1) := hg
  have HLen : Hid (x.args.length = so.length) := hlen
  clear hL hA hg hlen
  go_enter Tryz.func75, Tryz.ntmps75
  go_wp2
  go_loopw [13] (fun i wr => ∃ k : Nat, k ≤ x.args.length ∧ i = .int .i64 k ∧ Mod (fun _ => False) w wr ∧ Lst wr base (.slice va q.length vcap) q ∧ wr.ownsRow base 5 1 (.slice aa x.args.length acap) x.args.length (bvs x.args) ∧ ∀ j (hj : j < x.args.length) (hs : j < so.length), j < k → sG (argWord (pq q) x.args[j].toNat) = so[j].toNat) (fun i _ => x.args.length - (intOf i).toNat)
  case atStart => exact ⟨0, by omega, rfl, hm0, hL1, hA1, fun j hj hs h => by omega⟩
  case round =>
    clear hm0 hL1 hA1 hS
    obtain ⟨k, hk, rfl, hm0, hL1, hA1, hN⟩ := hrel
    have HN : Hid (∀ j (hj : j < x.args.length) (hs : j < so.length), j < k → sG (argWord (pq q) x.args[j].toNat) = so[j].toNat) := hN
    clear hN
    by_cases hlt : k < x.args.length
    · have hks : k < so.length := by have := HLen.out; omega
      obtain ⟨gb, rfl, ck⟩ := args_cell hA1 rfl hlt
      obtain ⟨j, hj, hgj, -⟩ := given_q (HG.out k hlt)
      obtain ⟨vb, rfl, -, cw, -⟩ := hL1.cell hj
      have hw : argWord (pq q) x.args[k].toNat = q[j].x.word := by simp [argWord, who_q hj hgj]
      have HW : Hid (argWord (pq q) x.args[k].toNat = q[j].x.word) := hw
      have HJ : Hid (gvI (q.map It.x) x.args[k].toNat = (j : Int)) := hgj
      clear hw hgj
      have hj1 : ((j : Int) == -1) = false := by rw [beq_eq_false_iff_ne]; omega
      have hso : ∀ h, (⟨so.toArray⟩ : ByteArray)[k]'h = so[k] := fun _ => rfl
      by_cases he : sG q[j].x.word = so[k].toNat
      · have HE : Hid (sG q[j].x.word = so[k].toNat) := he
        have hb : ((sG q[j].x.word : Int) != (so[k].toNat : Int)) = false := by rw [he]; simp
        clear he
        go_wp2_with fail
        have hgv := giver_any (.slice (some ⟨vb, 0, none⟩) q.length vcap) q x.args[k].toNat base wr hq hL1
        rw [HJ.out] at hgv
        refine hgv.mono ?_
        rintro e w2 ⟨rfl, rfl⟩
        clear hgv
        go_wp2
        go_quiet ((go_at_call 122; exact Calls.quiet_of_same ((sortGiven_any _ _).mono fun _ _ h => ⟨h.1, h.2.symm⟩)))
        go_wp2
        go_roundw
        case rel => exact ⟨k + 1, by omega, by go_num, hm0.drewN _, hL1.drewN _, owns_drewN hA1 _, fun j hj hs h => by by_cases e : j = k; (· subst e; rw [HW.out]; exact HE.out); exact HN.out j hj hs (by omega)⟩
        case measure => simp [intOf]; omega
      · have hb : ((sG q[j].x.word : Int) != (so[k].toNat : Int)) = true := by rw [bne_iff_ne]; omega
        go_wp2_with fail
        have hgv := giver_any (.slice (some ⟨vb, 0, none⟩) q.length vcap) q x.args[k].toNat base wr hq hL1
        rw [HJ.out] at hgv
        refine hgv.mono ?_
        rintro e w2 ⟨rfl, rfl⟩
        clear hgv
        go_wp2
        go_quiet ((go_at_call 122; exact Calls.quiet_of_same ((sortGiven_any _ _).mono fun _ _ h => ⟨h.1, h.2.symm⟩)))
        go_wp2
        go_ret
        exact ⟨by rw [sorts_no hlt hks (by rw [HW.out]; exact he)]; rfl, hm0.drewN _⟩
    · go_wp2
      go_ret
      exact ⟨by rw [sorts_yes (fun j hj hs => HN.out j hj hs (by omega))]; rfl, hm0⟩
end Go.Proofs.YtmnfndpbblpjiabGreatDoor

/- The program's weighing, and its judging of a statement. -/
namespace Go.Proofs.YtmnfndpbblpjiabGreatDoor
open Go.RowKit Pu

theorem take_snoc' {α : Type} (l : List α) (k : Nat) (h : k < l.length) : l.take (k + 1) = l.take k ++ [l[k]] := by
  rw [List.take_succ_eq_append_getElem h]

set_option maxHeartbeats 1600000 in
set_option maxRecDepth 100000 in
theorem weigh_any (v : Value) (q : List It) (base : Nat) (x : St) (av : Value) (wt : Int) (w : World) (hq : q.length ≤ 1000) (hal : x.args.length ≤ 4) (hL : Lst w base v q) (hA : w.ownsRow base 5 1 av x.args.length (bvs x.args))
    (hg : ∀ j (hj : j < x.args.length), gvI (q.map It.x) x.args[j].toNat ≠ -1) (hok : Ok (pq q)) :
    Calls Tryz.prog 76 #[v, ag4 x.name x.word av wt] w fun e w' => e = .returned (.int .i64 (wgh (pq q) x)) ∧ Mod (fun _ => False) w w' := by
  have hS := se_new w x.name x.word av wt
  have hm0 : Mod (fun _ => False) w (w.alloc (.cells #[.int .u8 x.name, S x.word, av, .int .i64 wt] 72)) := (Mod.refl _ w).alloc _
  have hL1 := hL.mod hm0 (fun _ _ _ f => f)
  have hA1 := owns_mod hA hm0 (fun _ _ f => f)
  have hav := owns_one hA
  obtain ⟨aa, acap, rfl, -⟩ := owns_form hA
  obtain ⟨va, vcap, rfl, -⟩ := hL.form
  have HG : Hid (∀ j (hj : j < x.args.length), gvI (q.map It.x) x.args[j].toNat ≠ -1) := hg
  have HO : Hid (Ok (pq q)) := hok
  clear hL hA hg hok
  by_cases h0 : x.name = 0
  · have hb : (x.name == 0) = true := by simpa using h0
    have HB : Hid (wgh (pq q) x = 0) := show wgh (pq q) x = 0 by simp [wgh, h0]
    clear h0
    go_enter Tryz.func76, Tryz.ntmps76
    go_wp2_with fail
    refine (isQuestion_any x.name x.word _ wt _ hav).mono ?_
    rintro e w2 ⟨rfl, hm2⟩
    go_wp2
    go_ret
    exact ⟨by rw [HB.out]; rfl, hm0.trans hm2⟩
  · have hb : (x.name == 0) = false := by simpa using h0
    have HB : Hid (wgh (pq q) x = wG x.word (sumW (pq q) x.args) (lastW (pq q) x.args)) := show wgh (pq q) x = wG x.word (sumW (pq q) x.args) (lastW (pq q) x.args) by simp [wgh, h0]
    clear h0
    go_enter Tryz.func76, Tryz.ntmps76
    go_wp2_with fail
    refine (isQuestion_any x.name x.word _ wt _ hav).mono ?_
    rintro e W ⟨rfl, hm2⟩
    have hS2 := hS.keep hm2 (fun f => f)
    have hL2 := hL1.mod hm2 (fun _ _ _ f => f)
    have hA2 := owns_mod hA1 hm2 (fun _ _ f => f)
    have hm3 := hm0.trans hm2
    clear hm0 hm2 hS hL1 hA1
    have s1 := hS2.c1
    have s2 := hS2.c2
    go_wp2
    go_loop [5, 6, 15] (fun a b i => ∃ k : Nat, k ≤ x.args.length ∧ i = .int .i64 k ∧ a = .int .i64 (sumW (pq q) (x.args.take k)) ∧ b = .int .i64 (lastW (pq q) (x.args.take k))) (fun _ _ i => x.args.length - (intOf i).toNat)
    case atStart => exact ⟨0, by omega, rfl, rfl, rfl⟩
    case round =>
      obtain ⟨k, hk, rfl, rfl, rfl⟩ := hrel
      have b1 := HO.out.sumW (x.args.take k)
      have b2 := HO.out.lastW (x.args.take k)
      have b3 : (x.args.take k).length ≤ k := List.length_take_le _ _
      by_cases hlt : k < x.args.length
      · have HT : Hid (x.args.take (k + 1) = x.args.take k ++ [x.args[k]]) := take_snoc' _ _ hlt
        obtain ⟨gb, rfl, ck⟩ := args_cell hA2 rfl hlt
        obtain ⟨j, hj, hgj, -⟩ := given_q (HG.out k hlt)
        obtain ⟨vb, rfl, -, -, -, cw⟩ := hL2.cell hj
        have HW : Hid (argW (pq q) x.args[k].toNat = q[j].wt) := show argW (pq q) x.args[k].toNat = q[j].wt by simp [argW, who_q hj hgj]
        have hwb : q[j].wt ≤ 64 := by have := HO.out.argW x.args[k].toNat; rw [HW.out] at this; exact this
        have HJ : Hid (gvI (q.map It.x) x.args[k].toNat = (j : Int)) := hgj
        clear hgj
        have hj1 : ((j : Int) != -1) = true := by rw [bne_iff_ne]; omega
        go_wp2_with fail
        have hgv := giver_any (.slice (some ⟨vb, 0, none⟩) q.length vcap) q x.args[k].toNat base W hq hL2
        rw [HJ.out] at hgv
        refine hgv.mono ?_
        rintro e w2 ⟨rfl, rfl⟩
        clear hgv
        go_wp2
        go_round
        case rel => exact ⟨k + 1, by omega, by go_num, by rw [HT.out, sumW_snoc, HW.out]; go_num, by rw [HT.out, lastW_snoc, HW.out]⟩
        case measure => simp [intOf]; omega
      · have hkl : k = x.args.length := by omega
        subst hkl
        rw [List.take_length] at b1 b2 ⊢
        clear b3
        go_wp2_with fail
        refine (weightGiven_any _ _ _ _ (by omega) (by omega)).mono ?_
        rintro e w2 ⟨rfl, rfl⟩
        go_wp2
        go_ret
        exact ⟨by rw [HB.out]; rfl, hm3⟩

def jw (p : List (St × Nat)) (x : St) : Nat := if err p x = 0 then wgh p x else 0
theorem jw_no {p : List (St × Nat)} {x : St} {n : Nat} (h : err p x = n + 1) : jw p x = 0 := by simp [jw, h]
theorem jw_yes {p : List (St × Nat)} {x : St} (h : err p x = 0) : jw p x = wgh p x := by simp [jw, h]
theorem tk_known (x : St) : (tk x.name x.word).2 = known x ∧ (known x = true → (tk x.name x.word).1 = (fm x.word).1) := by
  unfold tk known
  have h1 := qT_fm x.word
  have h2 := cT_fm x.word
  by_cases h0 : x.name = 0
  · rw [if_pos h0]
    refine ⟨?_, fun h => h1.2 ?_⟩
    · rw [Bool.eq_iff_iff, h1.1]; simp [h0]; intro h; omega
    · rw [h1.1]; simp [h0] at h; exact h.2
  · rw [if_neg h0]
    refine ⟨?_, fun h => h2.2 ?_⟩
    · rw [Bool.eq_iff_iff, h2.1]; simp [h0]; exact ⟨fun h => ⟨h.2, h.1⟩, fun h => ⟨h.2, h.1⟩⟩
    · rw [h2.1]; simp [h0] at h; exact ⟨h.2, h.1⟩
theorem names_each {l : List St} {x : St} (h : namesOk l x = true) : ∀ a ∈ x.args, gvI l a.toNat ≠ -1 := by
  unfold namesOk at h
  rw [Bool.and_eq_true, List.all_eq_true] at h
  intro a ha
  simpa using h.1 a ha

set_option maxHeartbeats 1600000 in
set_option maxRecDepth 100000 in
theorem judge_any (v : Value) (q : List It) (base : Nat) (x : St) (av : Value) (wt : Int) (w : World) (hq : q.length ≤ 1000) (hal : x.args.length ≤ 1000) (hL : Lst w base v q) (hA : w.ownsRow base 5 1 av x.args.length (bvs x.args))
    (hok : Ok (pq q)) (hz : ∀ a ∈ x.args, a.toNat ≠ 0) :
    Calls Tryz.prog 45 #[v, ag4 x.name x.word av wt] w fun e w' => e = .returned (.tuple #[.int .i64 (jw (pq q) x : Int), .int .i64 (err (pq q) x)]) ∧ Mod (fun _ => False) w w' := by
  have hS := se_new w x.name x.word av wt
  have hm0 : Mod (fun _ => False) w (w.alloc (.cells #[.int .u8 x.name, S x.word, av, .int .i64 wt] 72)) := (Mod.refl _ w).alloc _
  have hL1 := hL.mod hm0 (fun _ _ _ f => f)
  have hA1 := owns_mod hA hm0 (fun _ _ f => f)
  have hav := owns_one hA
  obtain ⟨aa, acap, rfl, -⟩ := owns_form hA
  have HO : Hid (Ok (pq q)) := hok
  have HZ : Hid (∀ a ∈ x.args, a.toNat ≠ 0) := hz
  have hk := tk_known x
  have HK : Hid ((tk x.name x.word).2 = known x) := hk.1
  have HK2 : Hid (known x = true → (tk x.name x.word).1 = (fm x.word).1) := hk.2
  clear hL hA hok hz hk
  cases hkn : known x with
  | false =>
    have HE : Hid (err (pq q) x = 3) := show err (pq q) x = 3 by simp [err, hkn]
    have hb : (tk x.name x.word).2 = false := by rw [HK.out, hkn]
    go_enter Tryz.func45, Tryz.ntmps45
    go_wp2_with fail
    refine (argumentSorts_any x.name x.word _ wt _ hav).mono ?_
    rintro e w2 ⟨rfl, hm2⟩
    go_wp2
    go_ret2
    exact ⟨by rw [jw_no HE.out, HE.out]; rfl, hm0.trans hm2⟩
  | true =>
    have hb : (tk x.name x.word).2 = true := by rw [HK.out, hkn]
    have HTK : Hid (tk x.name x.word = ((fm x.word).1, true)) := show tk x.name x.word = ((fm x.word).1, true) by rw [← HK2.out hkn, ← hb]
    have HKN : Hid (known x = true) := hkn
    clear hb HK HK2 hkn
    have hfl := fm_len x.word
    have hAS := argumentSorts_any x.name x.word (.slice aa x.args.length acap) wt (w.alloc (.cells #[.int .u8 x.name, S x.word, .slice aa x.args.length acap, .int .i64 wt] 72)) hav
    rw [HTK.out] at hAS
    clear HTK
    generalize hso : (fm x.word).1 = so at *
    have HSO : Hid ((fm x.word).1 = so) := hso
    clear hso
    simp only at hAS
    go_enter Tryz.func45, Tryz.ntmps45
    go_wp2_with fail
    refine hAS.mono ?_
    clear hAS
    rintro e w2 ⟨rfl, hm2⟩
    have hS2 := hS.keep hm2 (fun f => f)
    have hL2 := hL1.mod hm2 (fun _ _ _ f => f)
    have hA2 := owns_mod hA1 hm2 (fun _ _ f => f)
    have hm := hm0.trans hm2
    clear hm0 hm2 hS hL1 hA1
    have s0 := hS2.c0
    have s1 := hS2.c1
    have s2 := hS2.c2
    have s3 := hS2.c3
    by_cases hc : x.args.length = so.length
    · have HC : Hid (x.args.length = so.length) := hc
      have hb : ((x.args.length : Int) != (so.length : Int)) = false := by rw [hc]; simp
      have hal4 : x.args.length ≤ 4 := by omega
      clear hc
      go_wp2_with fail
      refine (namesFit_any v q base x _ wt _ hq hal hL2 hA2).mono ?_
      rintro e w3 ⟨rfl, hm3⟩
      cases hn : namesOk (q.map It.x) x with
      | false =>
        have HE : Hid (err (pq q) x = 5) := show err (pq q) x = 5 by simp [err, HKN.out, HC.out, HSO.out, sts_pq, hn]
        go_wp2
        go_ret2
        exact ⟨by rw [jw_no HE.out, HE.out]; rfl, hm.trans hm3⟩
      | true =>
        have HN : Hid (namesOk (q.map It.x) x = true) := hn
        clear hn
        have hS3 := hS2.keep hm3 (fun f => f)
        have hL3 := hL2.mod hm3 (fun _ _ _ f => f)
        have hA3 := owns_mod hA2 hm3 (fun _ _ f => f)
        have hmm := hm.trans hm3
        clear s0 s1 s2 s3 hm hm3 hS2 hL2 hA2
        have s0 := hS3.c0
        have s1 := hS3.c1
        have s2 := hS3.c2
        have s3 := hS3.c3
        go_wp2_with fail
        refine (sortsFit_any v q base x _ wt so _ hq hal hL3 hA3 (fun j hj => names_each HN.out _ (List.getElem_mem hj)) HC.out).mono ?_
        rintro e w4 ⟨rfl, hm4⟩
        have HSS : Hid (sortsOkG (pq q) x.args so = sortsOk (pq q) x.args so) := sorts_same HO.out (fun a ha => by rw [sts_pq]; exact names_each HN.out a ha) HZ.out
        cases hs : sortsOkG (pq q) x.args so with
        | false =>
          have HE : Hid (err (pq q) x = 6) := show err (pq q) x = 6 by
            have h6 : sortsOk (pq q) x.args so = false := by rw [← HSS.out, hs]
            simp [err, HKN.out, HC.out, HSO.out, sts_pq, HN.out, h6]
          go_wp2
          go_ret2
          exact ⟨by rw [jw_no HE.out, HE.out]; rfl, hmm.trans hm4⟩
        | true =>
          have h6 : sortsOk (pq q) x.args so = true := by rw [← HSS.out, hs]
          have H6 : Hid (sortsOk (pq q) x.args so = true) := h6
          clear h6 hs HSS
          have hS4 := hS3.keep hm4 (fun f => f)
          have hL4 := hL3.mod hm4 (fun _ _ _ f => f)
          have hA4 := owns_mod hA3 hm4 (fun _ _ f => f)
          have hm5 := hmm.trans hm4
          clear s0 s1 s2 s3 hmm hm4 hS3 hL3 hA3
          have s0 := hS4.c0
          have s1 := hS4.c1
          have s2 := hS4.c2
          have s3 := hS4.c3
          go_wp2_with fail
          refine (weigh_any v q base x _ wt _ hq hal4 hL4 hA4 (fun j hj => names_each HN.out _ (List.getElem_mem hj)) HO.out).mono ?_
          rintro e w6 ⟨rfl, hm6⟩
          by_cases h64 : 64 < wgh (pq q) x
          · have HE : Hid (err (pq q) x = 7) := show err (pq q) x = 7 by simp [err, HKN.out, HC.out, HSO.out, sts_pq, HN.out, H6.out, h64]
            go_wp2
            go_ret2
            exact ⟨by rw [jw_no HE.out, HE.out]; rfl, hm5.trans hm6⟩
          · have HE : Hid (err (pq q) x = 0) := show err (pq q) x = 0 by simp [err, HKN.out, HC.out, HSO.out, sts_pq, HN.out, H6.out, h64]
            go_wp2
            go_ret2
            exact ⟨by rw [jw_yes HE.out, HE.out]; rfl, hm5.trans hm6⟩
    · have hb : ((x.args.length : Int) != (so.length : Int)) = true := by rw [bne_iff_ne]; omega
      have HE : Hid (err (pq q) x = 4) := show err (pq q) x = 4 by simp [err, HKN.out, HSO.out, hc]
      go_wp2
      go_ret2
      exact ⟨by rw [jw_no HE.out, HE.out]; rfl, hm⟩
end Go.Proofs.YtmnfndpbblpjiabGreatDoor

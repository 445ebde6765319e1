/- The program's machine stops: the end. -/
import Derived.Test.YtmnfndpbblpjiaaGreatDoorGc
namespace Go.Proofs.YtmnfndpbblpjiaaGreatDoor
open Go.RowKit Pu

theorem spc_index8 (y : Nat) (hy : y < 3) (u : World) : (Instr.index 9 (.string ⟨#[115, 112, 99]⟩) (.int .u8 (y : Int))).run Tryz.prog u = .ok (.int .u8 ((spc y).toNat : Int)) u := by
  rw [run_index_string u 9 _ .u8 (y : Int) Tryz.underlying9]
  have : y = 0 ∨ y = 1 ∨ y = 2 := by omega
  rcases this with rfl | rfl | rfl <;> rfl
attribute [local go_sem ↓] spc_index8
/-- The report set, and the end. -/
theorem stopped_of {w : World} {mb n cap : Nat} {C : Array Value} {ro : Option Addr} {bs : List UInt8} (h : w.heap[mb]? = some (.cells C 162 (0, 0))) (hC : C.size = 515) (hO : w.ownsRow (mb + 1) 5 1 (.slice ro n cap) bs.length (bvs bs)) (hn : n = bs.length) :
    Stopped ((w.setCell ⟨mb, 513, none⟩ (.slice ro n cap)).setCell ⟨mb, 514, none⟩ (.bool true)) mb bs := by
  have e : (w.setCell ⟨mb, 513, none⟩ (.slice ro n cap)).setCell ⟨mb, 514, none⟩ (.bool true) = set2at w mb 513 (.slice ro n cap) (.bool true) := rfl
  rw [e]
  refine ⟨by rw [set2at_cell h, if_pos ⟨rfl, by omega⟩], ro, n, cap, by rw [set2at_cell h, if_neg (by omega), if_pos ⟨rfl, by omega⟩], owns_mod hO (set2at_own w mb 513 _ _) (fun g h1 h2 => by omega), hn⟩

set_option maxHeartbeats 800000 in
set_option maxRecDepth 4000 in
theorem mstop_end (t : Stp) (mb : Nat) (iv : Value) (R : List Int) (bs : List UInt8) (w : World) (hM : Mc w mb iv R bs false) (hs : Small t) (hz : reg R t.x = 0) (hy3 : t.y < 3) (hz16 : t.z < 16) (hbs : bs.length ≤ 10000) :
    Calls Tryz.prog 162 #[.pointer (some ⟨mb, 0, none⟩), stV t] w fun e w' => e = .returned (.tuple #[]) ∧ Mod (fun q => mb ≤ q) w w' ∧ Stopped w' mb (bs ++ [spc t.y] ++ (dec (t.z : Int)).data.toList) := by
  obtain ⟨nx, ao, an, acap, a, cy0, cy1, hU, hxa, la⟩ := hM.regs hs.2.1
  have hmA : Mod (fun _ => False) w (w.alloc (.cells #[.int .u8 t.op, .int .u8 t.x, .int .u8 t.y, .int .u8 t.z] 107)) := (Mod.refl _ w).alloc _
  have hSt := st_new w t
  have hlt := hM.lt
  have hU0 := hU.mod hmA
  have d0 := hmA.cell cy0
  have d1 := hmA.cell cy1
  have ix : (t.x : Int) < 256 := by have := hs.2.1; omega
  have hMA := hM.mod hmA
  have HH : Hid _ := And.intro hU0 (And.intro hmA (And.intro d0 (And.intro d1 (And.intro hSt hMA))))
  have hsg : sgn (num9 nx a) = 0 := by rw [hxa]; unfold sgn; rw [if_neg (by omega), if_pos hz]
  have w1 : IntKind.i64.wrap (t.y : Int) = (t.y : Int) := by simp [IntKind.wrap, IntKind.signed, IntKind.bits]; omega
  have w2 : IntKind.i64.wrap (t.z : Int) = (t.z : Int) := by simp [IntKind.wrap, IntKind.signed, IntKind.bits]; omega
  have q3 : ¬ (3 : Int) ≤ (t.y : Int) := by omega
  clear hU hmA hSt hU0 d0 d1 hM cy0 cy1 hxa hz hMA
  go_enter Tryz.func162, Tryz.ntmps162
  go_wp2_with fail
  generalize w.alloc (.cells #[.int .u8 t.op, .int .u8 t.x, .int .u8 t.y, .int .u8 t.z] 107) = W at *
  obtain ⟨hU0, hmA, d0, d1, hSt, hMA⟩ := HH.out
  clear HH
  have hcall := sign9_any nx (.slice ao an acap) a W.drew (hU0.mod (Mod.refl _ W).drew) (by omega)
  rw [hsg] at hcall
  obtain ⟨e0, e1, e2, e3⟩ := cells4 hSt
  clear hsg hU0
  have HHH : Hid _ := And.intro hmA (And.intro hSt hMA)
  clear hmA hSt hMA e0
  go_region_held3 (fun w' => w'.cell? ⟨mb, 1 + t.x * 2, none⟩ = some (.bool nx) ∧ w'.cell? ⟨mb, 1 + t.x * 2 + 1, none⟩ = some (.slice ao an acap) ∧ w'.cell? ⟨w.heap.size, 1, none⟩ = some (.int .u8 t.x) ∧ w'.cell? ⟨w.heap.size, 2, none⟩ = some (.int .u8 t.y))
    (first | go_keep | (exact hkeep))
    ((go_at_call 160; refine hcall.mono ?_; rintro e w2 ⟨rfl, hm2⟩; have hkeep := And.intro (hm2.cell (a := W.drew) d0) (And.intro (hm2.cell (a := W.drew) d1) (And.intro (hm2.cell (a := W.drew) e1) (hm2.cell (a := W.drew) e2)))))
  obtain ⟨hmA, hSt, hMA⟩ := HHH.out
  have hM2 := (hMA.mod (Mod.refl _ W).drew).mod hm2
  have hS2 := hm2.keep (a := W.drew) hSt (fun f => f)
  have hmw := hmA.drew.trans hm2
  obtain ⟨-, -, e2', e3'⟩ := cells4 hS2
  obtain ⟨ro, rn, rcap, c513, hrow, hrn⟩ := hM2.rep
  subst hrn
  have c514 := hM2.ended
  have f513 := hM2.fz 513
  have f514 := hM2.fz 514
  have hml := hM2.lt
  obtain ⟨C, hC, hCs, -⟩ := hM2
  have hst := addstop_any (.slice ro bs.length rcap) bs (spc t.y) t.z (mb + 1) w2.drew (owns_mod hrow (Mod.refl (fun _ => False) w2).drew (fun _ _ f => f)) hbs hml hz16
  have HC : Hid _ := And.intro hC (And.intro hCs hmw)
  clear hkeep d0 d1 e1 e2 e3 hcall HHH hmA hSt hMA hS2 hmw hC hCs hrow hm2
  generalize hsc : spc t.y = sc at *
  generalize hb2 : bs ++ [sc] ++ (dec (t.z : Int)).data.toList = bs2 at *
  have HB2 : Hid (bs ++ [spc t.y] ++ (dec (t.z : Int)).data.toList = bs2) := show _ = _ by rw [hsc]; exact hb2
  clear hb2
  go_wp2_with fail
  first
    | go_region_with (go_at_call 180; refine hst.mono ?_; rintro e w3 ⟨hm3, v3, rfl, hO3⟩; obtain ⟨vo3, vcap3, rfl, -⟩ := owns_form hO3; have hC3 := hm3.keep (a := w2.drew) HC.out.1 (Nat.not_succ_le_self mb); have k513 := (Mc.cell hC3 513).trans ((Mc.cell HC.out.1 513).symm.trans c513); have k514 := (Mc.cell hC3 514).trans ((Mc.cell HC.out.1 514).symm.trans c514); have g513 := fz3 hC3 513; have g514 := fz3 hC3 514)
    | fail
  all_goals
    have hE := stopped_of hC3 HC.out.2.1 hO3 rfl
    have hmE : Mod (fun q => mb ≤ q) w ((w3.setCell ⟨mb, 513, none⟩ (.slice vo3 bs2.length vcap3)).setCell ⟨mb, 514, none⟩ (.bool true)) :=
      ((HC.out.2.2.drew.mono (q := fun q => mb ≤ q) (fun _ _ f => f.elim)).trans (hm3.mono (fun q _ h => Nat.le_of_succ_le h))).trans ((set2at_own w3 mb 513 (.slice vo3 bs2.length vcap3) (.bool true)).mono (fun q _ h => Nat.le_of_eq h.symm))
    rw [← HB2.out] at hE
    have HE : Hid _ := And.intro hmE hE
    clear hE hmE hO3 hC3 hm3
    go_wp2_with fail
    exact bodyPost_end (v := .tuple #[]) (by simp [results, Tryz.results162]) rfl ⟨rfl, by have := HE.out; rw [HB2.out] at this; exact this.1, by have := HE.out; rw [HB2.out] at this ⊢; exact this.2⟩
end Go.Proofs.YtmnfndpbblpjiaaGreatDoor

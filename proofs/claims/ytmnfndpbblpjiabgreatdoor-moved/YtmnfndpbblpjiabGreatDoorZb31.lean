/- The program's machine does a step. -/
import Derived.Deep.AppendLies
import Derived.Test.YtmnfndpbblpjiabGreatDoorZb30
import Derived.Test.YtmnfndpbblpjiabGreatDoorZb17
import Derived.Test.YtmnfndpbblpjiabGreatDoorZb01
import Derived.Test.YtmnfndpbblpjiabGreatDoorZb04
import Derived.Test.YtmnfndpbblpjiabGreatDoorZb27
import Derived.Test.YtmnfndpbblpjiabGreatDoorZb05
namespace Go.Proofs.YtmnfndpbblpjiabGreatDoor
open Go.RowKit Pu

theorem own_other {w : World} {b1 b2 n1 n2 s1 s2 : Nat} {e1 e2 : TypeId} {u v : Value} {xs ys : List Value} (h1 : w.ownsRow b1 e1 s1 u n1 xs) (h2 : w.ownsRow b2 e2 s2 v n2 ys) (he : e1 ≠ e2) {g : Nat} (hu : u.ownBlock = some g) (hv : v.ownBlock = some g) : False := by
  obtain ⟨_, ⟨rfl, _⟩ | ⟨g1, c1, r1, rfl, _, k1, _⟩⟩ := h1
  · simp [Value.ownBlock] at hu
  · obtain ⟨_, ⟨rfl, _⟩ | ⟨g2, c2, r2, rfl, _, k2, _⟩⟩ := h2
    · simp [Value.ownBlock] at hv
    · simp [Value.ownBlock] at hu hv
      subst hu; subst hv
      rw [k1] at k2
      simp at k2
      exact he k2.2
theorem Mc.answer {w w' : World} {mb : Nat} {iv rv v' : Value} {R : List Int} {bs bs' : List UInt8} (h : Mc w mb iv R bs false) (hrv : w.cell? ⟨mb, 513, none⟩ = some rv) (hm : Mod (fun q => rv.ownBlock = some q) w w') (hO : w'.ownsRow (mb + 1) 5 1 v' bs'.length (bvs bs')) : Mc (w'.setCell ⟨mb, 513, none⟩ v') mb iv R bs' false := by
  obtain ⟨C, h1, h2, h3, h4, ⟨rv', h5, h6⟩, h7⟩ := h
  have hrr : rv' = rv := by rw [Mc.cell h1, h5] at hrv; exact Option.some.inj hrv
  subst hrr
  have hb1 : w'.heap[mb]? = some (.cells C 144 (0, 0)) := hm.keep h1 (fun hh => by have := (h6.lt mb hh).1; omega)
  have hset : (w'.setCell ⟨mb, 513, none⟩ v').heap[mb]? = some (.cells (C.setIfInBounds 513 v') 144 (0, 0)) := by simp [World.setCell, Array.getElem?_modify, hb1]
  have hms : Mod (fun q => q = mb) w' (w'.setCell ⟨mb, 513, none⟩ v') := (Mod.refl _ w').setCell ⟨mb, 513, none⟩ v' (fun _ => rfl)
  refine ⟨_, hset, by simpa using h2, ?_, ?_, ⟨v', ?_, owns_mod hO hms (fun g a b => by omega)⟩, fun r hr => ?_⟩
  · rw [Array.getElem?_setIfInBounds, if_neg (by omega)]; exact h3
  · rw [Array.getElem?_setIfInBounds, if_neg (by omega)]; exact h4
  · rw [Array.getElem?_setIfInBounds, if_pos rfl, if_pos (by omega)]
  · obtain ⟨nx, u, a, c0, c1, hN, hx, hl⟩ := h7 r hr
    refine ⟨nx, u, a, ?_, ?_, ⟨hN.1, own_apart (owns_mod' hN.2 hm (fun g p q => own_other hN.2 h6 (by decide) p q)) hms hb1 (by decide)⟩, hx, hl⟩
    · rw [Array.getElem?_setIfInBounds, if_neg (by omega)]; exact c0
    · rw [Array.getElem?_setIfInBounds, if_neg (by omega)]; exact c1

/-- An answer's digit. -/
def ansB (x : Int) : UInt8 := if 0 < x then 49 else 48
set_option maxHeartbeats 1600000 in
set_option maxRecDepth 4000 in
theorem mdo_out (t : Stp) (mb : Nat) (iv : Value) (R : List Int) (bs : List UInt8) (w : World) (hM : Mc w mb iv R bs false) (hs : Small t) (hop : t.op = 6) (hbs : bs.length ≤ 10000) :
    Calls Tryz.prog 97 #[.pointer (some ⟨mb, 0, none⟩), stV t] w fun e w' => e = .returned (.bool true) ∧ Mod (fun q => mb ≤ q) w w' ∧ Mc w' mb iv R (bs ++ [ansB (reg R t.x)]) false := by
  obtain ⟨nx, ao, an, acap, a, cy0, cy1, hU, hxa, la⟩ := hM.regs hs.2.1
  have hmA : Mod (fun _ => False) w (w.alloc (.cells #[.int .u8 t.op, .int .u8 t.x, .int .u8 t.y, .int .u8 t.z] 94)) := (Mod.refl _ w).alloc _
  have hSt := st_new w t
  have hlt := hM.lt
  have hU0 := hU.mod hmA
  have d0 := hmA.cell cy0
  have d1 := hmA.cell cy1
  obtain ⟨e0, e1, e2, e3⟩ := cells4 hSt
  have ix : (t.x : Int) < 256 := by have := hs.2.1; omega
  have hMA := hM.mod hmA
  have HH : Hid _ := And.intro hU0 (And.intro hmA (And.intro d0 (And.intro d1 (And.intro e1 hMA))))
  have o6 : ((t.op : Int) == 6) = true := beq_t (m := 6) hop
  have HSG : Hid (ansB (reg R t.x) = if decide (0 < sgn (num9 nx a)) then 49 else 48) := show _ = _ by
    rw [hxa]; unfold sgn ansB
    by_cases hq : reg R t.x < 0
    · rw [if_pos hq, if_neg (by omega)]; rfl
    · by_cases hz : reg R t.x = 0
      · rw [if_neg hq, if_pos hz, if_neg (by omega)]; rfl
      · rw [if_neg hq, if_neg hz, if_pos (by omega)]; rfl
  clear hU hmA hSt hU0 d0 d1 e0 e1 e2 e3 hM cy0 cy1 hxa hMA hop
  go_enter Tryz.func97, Tryz.ntmps97
  go_wp2_with fail
  generalize w.alloc (.cells #[.int .u8 t.op, .int .u8 t.x, .int .u8 t.y, .int .u8 t.z] 94) = W at *
  obtain ⟨hU0, hmA, d0, d1, e1, hMA⟩ := HH.out
  clear HH
  have hcall := sign9_any nx (.slice ao an acap) a W.drew (hU0.mod (Mod.refl _ W).drew) (by omega)
  generalize sgn (num9 nx a) = sg at *
  have HHH : Hid _ := And.intro hmA hMA
  clear hmA hMA hU0
  go_region_held3 (fun w' => w'.cell? ⟨mb, 1 + t.x * 2, none⟩ = some (.bool nx) ∧ w'.cell? ⟨mb, 1 + t.x * 2 + 1, none⟩ = some (.slice ao an acap) ∧ w'.cell? ⟨w.heap.size, 1, none⟩ = some (.int .u8 t.x))
    (first | go_keep | (exact hkeep))
    ((go_at_call 139; refine hcall.mono ?_; rintro e w2 ⟨rfl, hm2⟩; have hkeep := And.intro (hm2.cell (a := W.drew) d0) (And.intro (hm2.cell (a := W.drew) d1) (hm2.cell (a := W.drew) e1))))
  obtain ⟨hmA, hMA⟩ := HHH.out
  have hM2 := (hMA.mod (Mod.refl _ W).drew).mod hm2
  have hmw := hmA.drew.trans hm2
  obtain ⟨ro, rn, rcap, c513, hrow, hrn⟩ := hM2.rep
  subst hrn
  have hml := hM2.lt
  have hst := answer_any (.slice ro bs.length rcap) bs (decide (0 < sg)) (mb + 1) w2 hrow hbs hml
  have HC : Hid _ := And.intro hM2 (And.intro hmw hrow)
  clear hkeep d0 d1 e1 hcall HHH hmA hMA hM2 hmw hm2
  generalize hbq : decide ((0 : Int) < sg) = bq at *
  go_wp2_with fail
  refine hst.mono ?_
  rintro e w3 ⟨hm3, v3, rfl, hO3⟩
  obtain ⟨hM2, hmw, hrow'⟩ := HC.out
  obtain ⟨vo3, vcap3, rfl, -⟩ := owns_form hO3
  have hM4 := hM2.answer c513 hm3 hO3
  have hb3 : Mod (fun q => mb ≤ q) w (w3.setCell ⟨mb, 513, none⟩ (.slice vo3 (bs ++ [if bq then 49 else 48]).length vcap3)) :=
    ((hmw.mono (q := fun q => mb ≤ q) (fun _ _ f => f.elim)).trans (hm3.mono (fun q _ h => by have := (hrow'.lt q h).1; omega))).setCell ⟨mb, 513, none⟩ _ (fun _ => Nat.le_refl _)
  obtain ⟨C, hC, -⟩ := hM2
  have hC3 := hm3.keep hC (fun hh => by have := (hrow'.lt mb hh).1; omega)
  have k513 := (Mc.cell hC3 513).trans ((Mc.cell hC 513).symm.trans c513)
  have g513 := fz3 hC3 513
  have HE : Hid (Mod (fun q => mb ≤ q) w (w3.setCell ⟨mb, 513, none⟩ (.slice vo3 (bs ++ [if bq then 49 else 48]).length vcap3)) ∧ Mc (w3.setCell ⟨mb, 513, none⟩ (.slice vo3 (bs ++ [if bq then 49 else 48]).length vcap3)) mb iv R (bs ++ [ansB (reg R t.x)]) false) := ⟨hb3, by rw [HSG.out]; exact hM4⟩
  generalize (bs ++ [if bq then (49 : UInt8) else 48]).length = nn at *
  clear hb3 hM4 hC hC3 hrow' hmw hO3 hst HC hrow hm3
  go_wp2_with fail
  go_ret
  exact ⟨rfl, HE.out.1, HE.out.2⟩

set_option maxHeartbeats 800000 in
set_option maxRecDepth 4000 in
theorem mdo_on (t : Stp) (mb : Nat) (iv : Value) (R : List Int) (bs : List UInt8) (w : World) (hM : Mc w mb iv R bs false) (hs : Small t) (hop : t.op = 7) (hz : reg R t.x ≠ 0) :
    Calls Tryz.prog 97 #[.pointer (some ⟨mb, 0, none⟩), stV t] w fun e w' => e = .returned (.bool true) ∧ Mod (fun _ => False) w w' := by
  have hmA : Mod (fun _ => False) w (w.alloc (.cells #[.int .u8 t.op, .int .u8 t.x, .int .u8 t.y, .int .u8 t.z] 94)) := (Mod.refl _ w).alloc _
  have hst := mstop_on t mb iv R bs _ (hM.mod hmA) hs hz
  have o6 : ((t.op : Int) == 6) = false := beq_f (m := 6) (by omega)
  have o7 : ((t.op : Int) == 7) = true := beq_t (m := 7) hop
  have HM : Hid _ := hmA
  clear hM hmA hop hz
  go_enter Tryz.func97, Tryz.ntmps97
  go_wp2_with fail
  refine hst.mono ?_
  rintro e w2 ⟨rfl, hm2⟩
  have hmE := HM.out.trans hm2
  clear hst HM hm2
  go_wp2_with fail
  go_ret
  exact ⟨rfl, hmE⟩
set_option maxHeartbeats 800000 in
set_option maxRecDepth 4000 in
theorem mdo_end (t : Stp) (mb : Nat) (iv : Value) (R : List Int) (bs : List UInt8) (w : World) (hM : Mc w mb iv R bs false) (hs : Small t) (hop : t.op = 7) (hz : reg R t.x = 0) (hy3 : t.y < 3) (hz16 : t.z < 16) (hbs : bs.length ≤ 10000) :
    Calls Tryz.prog 97 #[.pointer (some ⟨mb, 0, none⟩), stV t] w fun e w' => e = .returned (.bool true) ∧ Mod (fun q => mb ≤ q) w w' ∧ Stopped w' mb (bs ++ [spc t.y] ++ (dec (t.z : Int)).data.toList) := by
  have hmA : Mod (fun _ => False) w (w.alloc (.cells #[.int .u8 t.op, .int .u8 t.x, .int .u8 t.y, .int .u8 t.z] 94)) := (Mod.refl _ w).alloc _
  have hst := mstop_end t mb iv R bs _ (hM.mod hmA) hs hz hy3 hz16 hbs
  have o6 : ((t.op : Int) == 6) = false := beq_f (m := 6) (by omega)
  have o7 : ((t.op : Int) == 7) = true := beq_t (m := 7) hop
  have HM : Hid _ := hmA
  clear hM hmA hop hz
  go_enter Tryz.func97, Tryz.ntmps97
  go_wp2_with fail
  refine hst.mono ?_
  rintro e w2 ⟨rfl, hm2, hS⟩
  have hmE := (HM.out.mono (q := fun q => mb ≤ q) (fun _ _ f => f.elim)).trans hm2
  have HS : Hid _ := hS
  clear hst HM hm2 hS
  go_wp2_with fail
  go_ret
  exact ⟨rfl, hmE, HS.out⟩
set_option maxHeartbeats 800000 in
set_option maxRecDepth 4000 in
theorem mdo_set (B nn : Nat) (hB : B = 10 ^ nn) (hnn : nn = 8000) (t : Stp) (mb : Nat) (iv : Value) (R ins : List Int) (base : Nat) (bs : List UInt8) (w : World) (hM : Mc w mb iv R bs false) (hR : R.length = 128) (hg : Good ins.length t) (hop : t.op < 6) (hI : w.ownsRow base 3 1 iv ins.length (zvs ins)) (hn : ins.length ≤ 1000) (hi : ∀ x ∈ ins, -100 < x ∧ x < 100) :
    Calls Tryz.prog 97 #[.pointer (some ⟨mb, 0, none⟩), stV t] w (SetEnd w B mb iv R bs t.x (Pu.valOf t R ins)) := by
  have hmA : Mod (fun _ => False) w (w.alloc (.cells #[.int .u8 t.op, .int .u8 t.x, .int .u8 t.y, .int .u8 t.z] 94)) := (Mod.refl _ w).alloc _
  have hst := mset_any B nn hB hnn t mb iv R ins base bs _ (hM.mod hmA) hR hg hop (owns_mod hI hmA (fun _ _ f => f)) hn hi
  have o6 : ((t.op : Int) == 6) = false := beq_f (m := 6) (by omega)
  have o7 : ((t.op : Int) == 7) = false := beq_f (m := 7) (by omega)
  have HM : Hid _ := hmA
  have s0 := hg.1.1
  generalize Pu.valOf t R ins = val at *
  clear hM hmA hI hi hg hB hnn
  go_enter Tryz.func97, Tryz.ntmps97
  go_wp2_with fail
  refine hst.mono ?_
  rintro e w2 ⟨hm2, hc⟩
  have hmE := (HM.out.mono (q := fun q => q = mb) (fun _ _ f => f.elim)).trans hm2
  clear hst HM hm2
  rcases hc with ⟨hb, rfl⟩ | ⟨hb, rfl, hM2⟩
  · have HE : Hid (SetEnd w B mb iv R bs t.x val (.returned (.bool false)) w2) := ⟨hmE, .inl ⟨hb, rfl⟩⟩
    go_wp2_with fail
    go_ret
    exact HE.out
  · have HE : Hid (SetEnd w B mb iv R bs t.x val (.returned (.bool true)) w2) := ⟨hmE, .inr ⟨hb, rfl, hM2⟩⟩
    clear hM2
    go_wp2_with fail
    go_ret
    exact HE.out
end Go.Proofs.YtmnfndpbblpjiabGreatDoor

/- The program's machine, as it begins. -/
namespace Go.Proofs.YtmnfndpbblpjiabGreatDoor
open Go.RowKit Pu

def zc (i : Nat) : Value := if i = 0 then .slice none 0 0 else if i = 513 then .slice none 0 0 else if i = 514 then .bool false else if i % 2 = 1 then .bool false else .slice none 0 0
theorem Tryz.machine0 : Tryz.zeroCells144 = (Array.range 515).map zc := by kernel_rfl
theorem Tryz.infoMc : (Tryz.prog.info? 144).map (·.size) = some 515 := by kernel_rfl
theorem m0_at {i : Nat} (h : i < 515) : Tryz.zeroCells144[i]? = some (zc i) := by rw [Tryz.machine0]; simp [h]
theorem zc_one (i : Nat) : (zc i).oneCell' = true := by
  unfold zc; repeat' split
  all_goals rfl
theorem m0_one (iv : Value) (h : iv.oneCell' = true) : (Tryz.zeroCells144.setIfInBounds 0 iv).all (·.oneCell') = true := by
  rw [Array.all_eq_true_iff_forall_mem]
  intro v hv
  rcases Array.mem_or_eq_of_mem_setIfInBounds hv with h1 | h1
  · rw [Tryz.machine0] at h1
    simp at h1
    obtain ⟨k, -, rfl⟩ := h1
    exact zc_one k
  · rw [h1]; exact h
theorem Mc.start {w : World} {mb : Nat} {iv : Value} (h : w.heap[mb]? = some (.cells (Tryz.zeroCells144.setIfInBounds 0 iv) 144 (0, 0))) : Mc w mb iv (List.replicate 128 0) [] false := by
  have hs : Tryz.zeroCells144.size = 515 := Tryz.zeroCells144_size
  have hf : ∀ i, 0 < i → i < 515 → (Tryz.zeroCells144.setIfInBounds 0 iv)[i]? = some (zc i) := fun i h0 hi => by rw [Array.getElem?_setIfInBounds, if_neg (by omega)]; exact m0_at hi
  refine ⟨_, h, by simp, by rw [Array.getElem?_setIfInBounds, if_pos rfl, if_pos (by omega)], by rw [hf 514 (by omega) (by omega)]; rfl, ⟨.slice none 0 0, by rw [hf 513 (by omega) (by omega)]; rfl, World.ownsRow_nil _ _ _ _⟩, fun r hr => ⟨false, .slice none 0 0, [], ?_, ?_, ⟨C9.nil, World.ownsRow_nil _ _ _ _⟩, ?_, by simp⟩⟩
  · rw [hf _ (by omega) (by omega)]
    unfold zc
    rw [if_neg (by omega), if_neg (by omega), if_neg (by omega), if_pos (by omega)]
  · rw [hf _ (by omega) (by omega)]
    unfold zc
    rw [if_neg (by omega)]
    by_cases e : 1 + r * 2 + 1 = 513
    · rw [if_pos e]
    · rw [if_neg e, if_neg (by omega), if_neg (by omega)]
  · show (num9 false []) = reg (List.replicate 128 0) r
    rw [reg, List.getElem?_replicate]
    split <;> rfl

end Go.Proofs.YtmnfndpbblpjiabGreatDoor

/- The program's execute. -/
namespace Go.Proofs.YtmnfndpbblpjiabGreatDoor
open Go.RowKit Pu

set_option maxHeartbeats 800000 in
set_option maxRecDepth 4000 in
theorem execute_any (B nn : Nat) (hB : B = 10 ^ nn) (hnn : nn = 8000) (r i : Nat) (v iv : Value) (l : List Stp) (ins : List Int) (base ibase : Nat) (w : World) (hl : l.length ≤ 3000) (hL : PLst w base v l) (hI : w.ownsRow ibase 3 1 iv ins.length (zvs ins)) (hn : ins.length ≤ 1000) (hi : ∀ x ∈ ins, -100 < x ∧ x < 100) (hg : ∀ t ∈ l, Good ins.length t) :
    Calls Tryz.prog 57 #[.agg #[.int .u8 r, .int .u8 i, v], iv] w fun e w' => e = .returned (.tuple #[.string (play B ins l (List.replicate 128 0) ⟨#[]⟩).1, .int .i64 (play B ins l (List.replicate 128 0) ⟨#[]⟩).2]) ∧ Mod (fun _ => False) w w' := by
  obtain ⟨ao, cap, rfl, -⟩ := owns_form hL
  obtain ⟨io, icap, rfl, -⟩ := owns_form hI
  have HG : Hid (∀ t ∈ l, Good ins.length t) := hg
  have HI : Hid (∀ x ∈ ins, -100 < x ∧ x < 100) := hi
  have HB : Hid (B = 10 ^ nn) := hB
  have HNN : Hid (nn = 8000) := hnn
  have HP : Hid (play B ins (l.drop 0) (List.replicate 128 0) ⟨([] : List UInt8).toArray⟩ = play B ins l (List.replicate 128 0) ⟨#[]⟩) := rfl
  generalize play B ins l (List.replicate 128 0) ⟨#[]⟩ = pr at *
  clear hg hi hB hnn
  obtain ⟨a1, a2⟩ := alloc2_at w (.cells #[.int .u8 r, .int .u8 i, .slice ao l.length cap] 63) (.cells Tryz.zeroCells144 144)
  have hm0 : Mod (fun _ => False) w ((w.alloc (.cells #[.int .u8 r, .int .u8 i, .slice ao l.length cap] 63)).alloc (.cells Tryz.zeroCells144 144)) := ((Mod.refl _ w).alloc _).alloc _
  have HA : Hid _ := a2
  have hms := setRow_new (C := Tryz.zeroCells144.setIfInBounds 0 (.slice io ins.length icap)) hm0 (b := w.heap.size + 1) (by omega)
  have hst := setRow_at (C' := Tryz.zeroCells144.setIfInBounds 0 (.slice io ins.length icap)) a2
  have hpp := (setRow_mod ((w.alloc (.cells #[.int .u8 r, .int .u8 i, .slice ao l.length cap] 63)).alloc (.cells Tryz.zeroCells144 144)) (w.heap.size + 1) (Tryz.zeroCells144.setIfInBounds 0 (.slice io ins.length icap))).keep a1 (by omega)
  obtain ⟨-, -, p2⟩ := cells3 hpp
  have HH : Hid _ := And.intro hms (Mc.start hst)
  clear a1 a2 hm0 hms hst hpp
  go_enter Tryz.func57, Tryz.ntmps57
  go_wp2_with (refine wpList_store_row rfl 144 _ _ rfl _ Tryz.zeroCells144 (Tryz.zeroCells144.setIfInBounds 0 (.slice io ins.length icap)) 144 rfl rfl ?hb1 (by rw [Array.size_setIfInBounds, Tryz.zeroCells144_size]; exact Tryz.infoMc) (by simp) (m0_one _ rfl) ?_; case hb1 => exact HA.out)
  generalize ((w.alloc (.cells #[.int .u8 r, .int .u8 i, .slice ao l.length cap] 63)).alloc (.cells Tryz.zeroCells144 144)).setRow (w.heap.size + 1) (Tryz.zeroCells144.setIfInBounds 0 (.slice io ins.length icap)) = W1 at *
  obtain ⟨hm1, hM1⟩ := HH.out
  clear HH HA p2
  go_loopw [14] (fun kv wr => ∃ (k : Nat) (R : List Int) (bs : List UInt8), k ≤ l.length ∧ kv = .int .i64 k ∧ Hid (R.length = 128) ∧ bs.length ≤ k ∧ Mc wr (w.heap.size + 1) (.slice io ins.length icap) R bs false ∧ Hid (play B ins (l.drop k) R ⟨bs.toArray⟩ = pr) ∧ Mod (fun _ => False) w wr) (fun kv _ => l.length - (intOf kv).toNat)
  case atStart => exact ⟨0, _, [], by omega, rfl, show _ = _ by simp, by simp, hM1, HP, hm1⟩
  case round =>
    clear hM1 hm1 HP
    obtain ⟨k, R, bs, hk, rfl, HR, hbs, hM, HP, hm⟩ := hrel
    by_cases hlt : k < l.length
    · have hLr := hL.mod hm
      obtain ⟨gb, rfl, c0, c1, c2, c3⟩ := hLr.cell hlt
      have HD : Hid (l.drop k = l[k] :: l.drop (k + 1)) := List.drop_eq_getElem_cons hlt
      have HGt : Hid (Good ins.length l[k]) := HG.out _ (List.getElem_mem hlt)
      have hIr := owns_mod hI hm (fun _ _ f => f)
      obtain ⟨hsm, h7, hx, -, -, -, hst⟩ := HGt.out
      have HST : Hid _ := hst
      clear hst hLr
      generalize l[k] = t at *
      have hrl := hM.lt
      have hmA : Mod (fun _ => False) wr (wr.alloc (.cells #[.int .u8 t.op, .int .u8 t.x, .int .u8 t.y, .int .u8 t.z] 94)) := (Mod.refl _ wr).alloc _
      have hMA := hM.mod hmA
      by_cases h6 : t.op < 6
      · have hd := mdo_set B nn HB.out HNN.out t (w.heap.size + 1) (.slice io ins.length icap) R ins ibase bs _ hMA HR.out HGt.out h6 (owns_mod hIr hmA (fun _ _ f => f)) hn HI.out
        have HBIG : Hid (B ≤ (Pu.valOf t R ins).natAbs → pr = (⟨#[]⟩, 10)) := fun h => by rw [← HP.out, HD.out]; exact play_big h6 h
        have HSET : Hid (¬ B ≤ (Pu.valOf t R ins).natAbs → play B ins (l.drop (k + 1)) (R.set t.x (Pu.valOf t R ins)) ⟨bs.toArray⟩ = pr) := fun h => by rw [← HP.out, HD.out]; exact (play_set h6 h).symm
        have hmA2 := hm.trans hmA
        clear hM hMA HP HD HST hIr hmA
        generalize Pu.valOf t R ins = val at *
        go_wp2_with fail
        refine hd.mono ?_
        rintro e w2 ⟨hm2, hc⟩
        have hm3 : Mod (fun _ => False) w w2 := ((hmA2.mono (q := fun q => q = w.heap.size + 1) (fun _ _ f => f.elim)).trans hm2).mono (fun q hq h => by omega)
        rcases hc with ⟨hb, rfl⟩ | ⟨hb, rfl, hM2⟩
        · have HE : Hid (pr = (⟨#[]⟩, 10)) := HBIG.out hb
          clear HBIG HSET hd hm2
          go_wp2_with fail
          go_ret2
          exact ⟨by rw [HE.out]; rfl, hm3⟩
        · have HP2 := HSET.out hb
          have HP2 : Hid _ := HP2
          have c514 := hM2.ended
          have HR2 : Hid ((R.set t.x val).length = 128) := show _ = _ by simpa using HR.out
          have HM2 : Hid _ := hM2
          clear HBIG HSET hd hm2 hM2
          go_wp2_with fail
          go_roundw
          case rel => exact ⟨k + 1, _, bs, by omega, by go_num, HR2, by omega, HM2.out, HP2.out, hm3⟩
          case measure => simp [intOf]; omega
      · by_cases h66 : t.op = 6
        · have hd := mdo_out t (w.heap.size + 1) (.slice io ins.length icap) R bs _ hMA hsm h66 (by omega)
          have HP2 : Hid (play B ins (l.drop (k + 1)) R ⟨(bs ++ [ansB (reg R t.x)]).toArray⟩ = pr) := show _ = _ by
            rw [← HP.out, HD.out, play_out h66]
            congr 1
          have hmA2 := hm.trans hmA
          clear hM hMA HP HD HST hIr hmA h66 h6
          go_wp2_with fail
          refine hd.mono ?_
          rintro e w2 ⟨rfl, hm2, hM2⟩
          have hm3 : Mod (fun _ => False) w w2 := ((hmA2.mono (q := fun q => w.heap.size + 1 ≤ q) (fun _ _ f => f.elim)).trans hm2).mono (fun q hq h => by omega)
          have c514 := hM2.ended
          have HM2 : Hid _ := hM2
          have hbl : (bs ++ [ansB (reg R t.x)]).length ≤ k + 1 := by simp; omega
          clear hd hm2 hM2
          go_wp2_with fail
          go_roundw
          case rel => exact ⟨k + 1, R, _, by omega, by go_num, HR, hbl, HM2.out, HP2, hm3⟩
          case measure => simp [intOf]; omega
        · have h77 : t.op = 7 := by omega
          by_cases hz : reg R t.x = 0
          · obtain ⟨hy3, hz16⟩ := HST.out h77
            have hd := mdo_end t (w.heap.size + 1) (.slice io ins.length icap) R bs _ hMA hsm h77 hz hy3 hz16 (by omega)
            have HE : Hid (pr = (⟨(bs ++ [spc t.y] ++ (dec (t.z : Int)).data.toList).toArray⟩, 0)) := show _ = _ by
              rw [← HP.out, HD.out, play_end (by omega) hz]
              congr 1
            have hmA2 := hm.trans hmA
            clear hM hMA HP HD HST hIr hmA h66 h6 hz h77
            generalize bs ++ [spc t.y] ++ (dec (t.z : Int)).data.toList = bs2 at *
            go_wp2_with fail
            refine hd.mono ?_
            rintro e w2 ⟨rfl, hm2, c514, ro, rn, rcap, c513, hrow, hrn⟩
            subst hrn
            have hm3 : Mod (fun _ => False) w w2 := ((hmA2.mono (q := fun q => w.heap.size + 1 ≤ q) (fun _ _ f => f.elim)).trans hm2).mono (fun q hq h => by omega)
            have hcv := convert_owned (P := Tryz.prog) hrow rfl Tryz.underlying70 Tryz.underlying5 Tryz.underlying9
            clear hd hm2 hmA2
            go_wp2_with fail
            go_ret2
            exact ⟨by rw [HE.out]; rfl, hm3⟩
          · have hd := mdo_on t (w.heap.size + 1) (.slice io ins.length icap) R bs _ hMA hsm h77 hz
            have HP2 : Hid (play B ins (l.drop (k + 1)) R ⟨bs.toArray⟩ = pr) := show _ = _ by
              rw [← HP.out, HD.out, play_on (by omega) hz]
            clear hM HP HD HST hIr h66 h6 hz h77
            have HMA : Hid _ := And.intro hMA (hm.trans hmA)
            clear hMA hmA hm
            go_wp2_with fail
            refine hd.mono ?_
            rintro e w2 ⟨rfl, hm2⟩
            have hM2 := HMA.out.1.mod hm2
            have hm3 := HMA.out.2.trans hm2
            have c514 := hM2.ended
            have HM2 : Hid _ := hM2
            clear hd hm2 hM2 HMA
            go_wp2_with fail
            go_roundw
            case rel => exact ⟨k + 1, R, bs, by omega, by go_num, HR, by omega, HM2.out, HP2, hm3⟩
            case measure => simp [intOf]; omega
    · have hks : l.drop k = [] := List.drop_eq_nil_of_le (by omega)
      have HE : Hid (pr = (⟨bs.toArray⟩, 0)) := show pr = _ by rw [← HP.out, hks]; rfl
      obtain ⟨ro, rn, rcap, c513, hrow, hrn⟩ := hM.rep
      subst hrn
      have hcv := convert_owned (P := Tryz.prog) hrow rfl Tryz.underlying70 Tryz.underlying5 Tryz.underlying9
      clear hks hM
      go_wp2_with fail
      go_ret2
      exact ⟨by rw [HE.out]; rfl, hm⟩
end Go.Proofs.YtmnfndpbblpjiabGreatDoor

/- The program's readNumber. -/
namespace Go.Proofs.YtmnfndpbblpjiabGreatDoor
open Go.RowKit Pu

/-- What readNumber answers. -/
def NumRd (w : World) (rb : Nat) (s : ByteArray) (k : Nat) (e : Ending) (w' : World) : Prop := Mod (fun q => q = rb) w w' ∧
  ((∃ n p, rdN s k = some (n, p) ∧ e = .returned (.tuple #[.int .i64 n, .bool true]) ∧ Rd w' rb s p) ∨ (rdN s k = none ∧ e = .returned (.tuple #[.int .i64 0, .bool false])))

/-- The digits behind the sign. -/
def tailN (s : ByteArray) (k : Nat) (neg : Bool) : Option (Int × Nat) :=
  if 49 ≤ g s k ∧ g s k ≤ 57 then
    (if 48 ≤ g s (k + 1) ∧ g s (k + 1) ≤ 57 then some ((if neg then -((10 * (g s k - 48) + (g s (k + 1) - 48) : Nat) : Int) else ((10 * (g s k - 48) + (g s (k + 1) - 48) : Nat) : Int)), k + 2) else some ((if neg then -((g s k - 48 : Nat) : Int) else ((g s k - 48 : Nat) : Int)), k + 1))
  else none
theorem rdN_zero {s : ByteArray} {k : Nat} (h : g s k = 48) : rdN s k = some (0, k + 1) := by unfold rdN; rw [if_pos h]
theorem rdN_neg {s : ByteArray} {k : Nat} (h : g s k = 45) : rdN s k = tailN s (k + 1) true := by unfold rdN tailN; rw [if_neg (by omega), if_pos h]; simp
theorem rdN_pos {s : ByteArray} {k : Nat} (h : g s k ≠ 48) (h2 : g s k ≠ 45) : rdN s k = tailN s k false := by unfold rdN tailN; rw [if_neg h, if_neg h2]; simp

set_option maxHeartbeats 800000 in
set_option maxRecDepth 4000 in
theorem readnum_any (rb : Nat) (s : ByteArray) (k : Nat) (w : World) (hs : s.size ≤ 300) (hk : k ≤ s.size) (hr : Rd w rb s k) :
    Calls Tryz.prog 95 #[.pointer (some ⟨rb, 0, none⟩)] w (NumRd w rb s k) := by
  by_cases h48 : g s k = 48
  · have HR : Hid _ := rdN_zero h48
    go_enter Tryz.func95, Tryz.ntmps95
    go_wp2_with fail
    refine (take_yes rb s k 48 w hs hk hr (by omega) h48).mono ?_
    rintro e w1 ⟨rfl, hr1, hk1, hm1⟩
    go_wp2_with fail
    go_ret2
    exact ⟨hm1, .inl ⟨0, k + 1, HR.out, rfl, hr1⟩⟩
  · by_cases h45 : g s k = 45
    · have HR : Hid (rdN s k = tailN s (k + 1) true) := rdN_neg h45
      go_enter Tryz.func95, Tryz.ntmps95
      go_wp2_with fail
      refine (take_no rb s k 48 w hs hk hr h48).mono ?_
      rintro e w1 ⟨rfl, hr1, hm1⟩
      go_wp2_with fail
      refine (take_yes rb s k 45 w1 hs hk hr1 (by omega) h45).mono ?_
      rintro e w2 ⟨rfl, hr2, hkk, hm2'⟩
      have hm2 := hm1.trans hm2'
      clear hm1 hm2' hr1 h48 h45
      generalize k + 1 = kk at *
      have hpk := fun (w : World) (j : Nat) (hj : j ≤ s.size) (h : Rd w rb s j) => peek_any rb s j w hs hj h
      go_wp2_with fail
      refine (hpk w2 kk hkk hr2).mono ?_
      rintro e w3 ⟨rfl, n3, rfl⟩
      have hm3 : Mod (fun q => q = rb) w (w2.drewN n3) := hm2.drewN n3
      have hr3 := hr2.drewN n3
      have gl := g_lt s kk
      have gl2 := g_lt s (kk + 1)
      clear hm2 hr2
      generalize w2.drewN n3 = w3 at *
      by_cases ha : 49 ≤ g s kk ∧ g s kk ≤ 57
      · have hkl : kk < s.size := in_of (by omega)
        have q1 : ¬ (g s kk : Int) < 49 := by omega
        have q2 : ¬ (57 : Int) < (g s kk : Int) := by omega
        have t1 := hr3.c1
        have f1 := hr3.f1
        have hr4 := hr3.set (kk + 1)
        have hm4 : Mod (fun q => q = rb) w (w3.setCell ⟨rb, 1, none⟩ (.int .i64 ((kk + 1 : Nat) : Int))) := hm3.setCell ⟨rb, 1, none⟩ _ (fun _ => rfl)
        have e4 : ((kk + 1 : Nat) : Int) = (kk : Int) + 1 := by omega
        rw [e4] at hr4 hm4
        have HX : Hid _ := And.intro hr4 hm4
        have w5 : IntKind.u8.wrap ((g s kk : Int) - 48) = (g s kk : Int) - 48 := by simp [IntKind.wrap, IntKind.signed, IntKind.bits]; omega
        have w6 : IntKind.i64.wrap ((g s kk : Int) - 48) = (g s kk : Int) - 48 := by simp [IntKind.wrap, IntKind.signed, IntKind.bits]; omega
        clear hr4 hm4 e4
        go_wp2_with fail
        obtain ⟨hr4, hm4⟩ := HX.out
        refine (hpk _ (kk + 1) (by omega) hr4).mono ?_
        rintro e w5' ⟨rfl, n5, rfl⟩
        have hm5 := hm4.drewN n5
        have hr5 := hr4.drewN n5
        clear hr4 hm4 HX t1 f1 hr3 hm3
        generalize (w3.setCell ⟨rb, 1, none⟩ (.int .i64 ((kk : Int) + 1))).drewN n5 = w6' at *
        by_cases hb : 48 ≤ g s (kk + 1) ∧ g s (kk + 1) ≤ 57
        · have q3 : (48 : Int) ≤ (g s (kk + 1) : Int) := by omega
          have q4 : (g s (kk + 1) : Int) ≤ 57 := by omega
          have hkl2 : kk + 1 < s.size := in_of (by omega)
          have t1 := hr5.c1
          have f1 := hr5.f1
          have hr7 := hr5.set (kk + 2)
          have hm7 : Mod (fun q => q = rb) w (w6'.setCell ⟨rb, 1, none⟩ (.int .i64 ((kk + 2 : Nat) : Int))) := hm5.setCell ⟨rb, 1, none⟩ _ (fun _ => rfl)
          have e4 : ((kk + 2 : Nat) : Int) = (kk : Int) + 1 + 1 := by omega
          rw [e4] at hr7 hm7
          have HX : Hid _ := And.intro hr7 hm7
          have w7 : IntKind.u8.wrap ((g s (kk + 1) : Int) - 48) = (g s (kk + 1) : Int) - 48 := by simp [IntKind.wrap, IntKind.signed, IntKind.bits]; omega
          have w8 : IntKind.i64.wrap ((g s (kk + 1) : Int) - 48) = (g s (kk + 1) : Int) - 48 := by simp [IntKind.wrap, IntKind.signed, IntKind.bits]; omega
          have HT : Hid (tailN s kk true = some (-((10 : Int) * ((g s kk : Int) - 48) + ((g s (kk + 1) : Int) - 48)), kk + 2)) := show _ = _ by
            unfold tailN; rw [if_pos ha, if_pos hb]; simp; omega
          clear hr7 hm7 hm5 hr5 e4
          go_wp2_with fail
          go_ret2
          exact ⟨HX.out.2, .inl ⟨_, kk + 2, HR.out.trans HT.out, rfl, HX.out.1⟩⟩
        · have HT : Hid (tailN s kk true = some (-((g s kk : Int) - 48), kk + 1)) := show _ = _ by
            unfold tailN; rw [if_pos ha, if_neg hb]; simp; omega
          by_cases hb1 : 48 ≤ g s (kk + 1)
          · have q3 : (48 : Int) ≤ (g s (kk + 1) : Int) := by omega
            have q4 : ¬ (g s (kk + 1) : Int) ≤ 57 := by omega
            go_wp2_with fail
            go_ret2
            exact ⟨hm5, .inl ⟨_, kk + 1, HR.out.trans HT.out, rfl, hr5⟩⟩
          · have q3 : ¬ (48 : Int) ≤ (g s (kk + 1) : Int) := by omega
            go_wp2_with fail
            go_ret2
            exact ⟨hm5, .inl ⟨_, kk + 1, HR.out.trans HT.out, rfl, hr5⟩⟩
      · have HT : Hid (tailN s kk true = none) := show _ = _ by unfold tailN; rw [if_neg ha]
        by_cases ha1 : g s kk < 49
        · have q1 : (g s kk : Int) < 49 := by omega
          go_wp2_with fail
          go_ret2
          exact ⟨hm3, .inr ⟨HR.out.trans HT.out, rfl⟩⟩
        · have q1 : ¬ (g s kk : Int) < 49 := by omega
          have q2 : (57 : Int) < (g s kk : Int) := by omega
          go_wp2_with fail
          go_ret2
          exact ⟨hm3, .inr ⟨HR.out.trans HT.out, rfl⟩⟩
    · have HR : Hid (rdN s k = tailN s k false) := rdN_pos h48 h45
      go_enter Tryz.func95, Tryz.ntmps95
      go_wp2_with fail
      refine (take_no rb s k 48 w hs hk hr h48).mono ?_
      rintro e w1 ⟨rfl, hr1, hm1⟩
      go_wp2_with fail
      refine (take_no rb s k 45 w1 hs hk hr1 h45).mono ?_
      rintro e w2 ⟨rfl, hr2, hm2'⟩
      have hm2 := hm1.trans hm2'
      clear hm1 hm2' hr1 h48 h45
      have hpk := fun (w : World) (j : Nat) (hj : j ≤ s.size) (h : Rd w rb s j) => peek_any rb s j w hs hj h
      go_wp2_with fail
      refine (hpk w2 k hk hr2).mono ?_
      rintro e w3 ⟨rfl, n3, rfl⟩
      have hm3 : Mod (fun q => q = rb) w (w2.drewN n3) := hm2.drewN n3
      have hr3 := hr2.drewN n3
      have gl := g_lt s k
      have gl2 := g_lt s (k + 1)
      clear hm2 hr2
      generalize w2.drewN n3 = w3 at *
      by_cases ha : 49 ≤ g s k ∧ g s k ≤ 57
      · have hkl : k < s.size := in_of (by omega)
        have q1 : ¬ (g s k : Int) < 49 := by omega
        have q2 : ¬ (57 : Int) < (g s k : Int) := by omega
        have t1 := hr3.c1
        have f1 := hr3.f1
        have hr4 := hr3.set (k + 1)
        have hm4 : Mod (fun q => q = rb) w (w3.setCell ⟨rb, 1, none⟩ (.int .i64 ((k + 1 : Nat) : Int))) := hm3.setCell ⟨rb, 1, none⟩ _ (fun _ => rfl)
        have e4 : ((k + 1 : Nat) : Int) = (k : Int) + 1 := by omega
        rw [e4] at hr4 hm4
        have HX : Hid _ := And.intro hr4 hm4
        have w5 : IntKind.u8.wrap ((g s k : Int) - 48) = (g s k : Int) - 48 := by simp [IntKind.wrap, IntKind.signed, IntKind.bits]; omega
        have w6 : IntKind.i64.wrap ((g s k : Int) - 48) = (g s k : Int) - 48 := by simp [IntKind.wrap, IntKind.signed, IntKind.bits]; omega
        clear hr4 hm4 e4
        go_wp2_with fail
        obtain ⟨hr4, hm4⟩ := HX.out
        refine (hpk _ (k + 1) (by omega) hr4).mono ?_
        rintro e w5' ⟨rfl, n5, rfl⟩
        have hm5 := hm4.drewN n5
        have hr5 := hr4.drewN n5
        clear hr4 hm4 HX t1 f1 hr3 hm3
        generalize (w3.setCell ⟨rb, 1, none⟩ (.int .i64 ((k : Int) + 1))).drewN n5 = w6' at *
        by_cases hb : 48 ≤ g s (k + 1) ∧ g s (k + 1) ≤ 57
        · have q3 : (48 : Int) ≤ (g s (k + 1) : Int) := by omega
          have q4 : (g s (k + 1) : Int) ≤ 57 := by omega
          have hkl2 : k + 1 < s.size := in_of (by omega)
          have t1 := hr5.c1
          have f1 := hr5.f1
          have hr7 := hr5.set (k + 2)
          have hm7 : Mod (fun q => q = rb) w (w6'.setCell ⟨rb, 1, none⟩ (.int .i64 ((k + 2 : Nat) : Int))) := hm5.setCell ⟨rb, 1, none⟩ _ (fun _ => rfl)
          have e4 : ((k + 2 : Nat) : Int) = (k : Int) + 1 + 1 := by omega
          rw [e4] at hr7 hm7
          have HX : Hid _ := And.intro hr7 hm7
          have w7 : IntKind.u8.wrap ((g s (k + 1) : Int) - 48) = (g s (k + 1) : Int) - 48 := by simp [IntKind.wrap, IntKind.signed, IntKind.bits]; omega
          have w8 : IntKind.i64.wrap ((g s (k + 1) : Int) - 48) = (g s (k + 1) : Int) - 48 := by simp [IntKind.wrap, IntKind.signed, IntKind.bits]; omega
          have HT : Hid (tailN s k false = some ((10 : Int) * ((g s k : Int) - 48) + ((g s (k + 1) : Int) - 48), k + 2)) := show _ = _ by
            unfold tailN; rw [if_pos ha, if_pos hb]; simp; omega
          clear hr7 hm7 hm5 hr5 e4
          go_wp2_with fail
          go_ret2
          exact ⟨HX.out.2, .inl ⟨_, k + 2, HR.out.trans HT.out, rfl, HX.out.1⟩⟩
        · have HT : Hid (tailN s k false = some ((g s k : Int) - 48, k + 1)) := show _ = _ by
            unfold tailN; rw [if_pos ha, if_neg hb]; simp; omega
          by_cases hb1 : 48 ≤ g s (k + 1)
          · have q3 : (48 : Int) ≤ (g s (k + 1) : Int) := by omega
            have q4 : ¬ (g s (k + 1) : Int) ≤ 57 := by omega
            go_wp2_with fail
            go_ret2
            exact ⟨hm5, .inl ⟨_, k + 1, HR.out.trans HT.out, rfl, hr5⟩⟩
          · have q3 : ¬ (48 : Int) ≤ (g s (k + 1) : Int) := by omega
            go_wp2_with fail
            go_ret2
            exact ⟨hm5, .inl ⟨_, k + 1, HR.out.trans HT.out, rfl, hr5⟩⟩
      · have HT : Hid (tailN s k false = none) := show _ = _ by unfold tailN; rw [if_neg ha]
        by_cases ha1 : g s k < 49
        · have q1 : (g s k : Int) < 49 := by omega
          go_wp2_with fail
          go_ret2
          exact ⟨hm3, .inr ⟨HR.out.trans HT.out, rfl⟩⟩
        · have q1 : ¬ (g s k : Int) < 49 := by omega
          have q2 : (57 : Int) < (g s k : Int) := by omega
          go_wp2_with fail
          go_ret2
          exact ⟨hm3, .inr ⟨HR.out.trans HT.out, rfl⟩⟩
end Go.Proofs.YtmnfndpbblpjiabGreatDoor

/- The program's parseInputs. -/
namespace Go.Proofs.YtmnfndpbblpjiabGreatDoor
open Go.RowKit Pu

/-- What has been read: more may follow, or the reading is over. -/
def PIx (s : ByteArray) (more : Bool) (f : Nat) (l : List Int) : Prop :=
  (more = true → inpSt s f = some (f, l) ∧ s.size ≠ 0) ∧ (more = false → (f = s.size → inps s = some l) ∧ (f ≠ s.size → inps s = none))
def moreOf : Value → Nat
  | .bool true => 1
  | _ => 0

set_option maxHeartbeats 800000 in
set_option maxRecDepth 4000 in
theorem pinputs_any (s : ByteArray) (w : World) (hs : s.size ≤ 140) : Calls Tryz.prog 56 #[.string s] w (InpEnd w (inps s)) := by
  obtain ⟨i0, hii, hz0, hz1, hz2⟩ := info_parts Tryz.info3
  have hR0 : Rd (w.alloc (.cells #[.string s, .int .i64 0] 118)) w.heap.size s 0 := by unfold Rd; show (w.heap.push _)[w.heap.size]? = _; simp
  have hm0 : Mod (fun _ => False) w (w.alloc (.cells #[.string s, .int .i64 0] 118)) := (Mod.refl _ w).alloc _
  have HH : Hid _ := And.intro hR0 hm0
  clear hR0 hm0
  obtain ⟨mb, hmb, HPI⟩ : ∃ mb : Bool, (!s.toList.isEmpty) = mb ∧ Hid (PIx s mb 0 []) := by
    refine ⟨_, rfl, ?_⟩
    by_cases h0 : s.size = 0
    · have : s.toList = [] := by
        have e : s = ⟨#[]⟩ := by apply ByteArray.ext; exact Array.eq_empty_of_size_eq_zero h0
        rw [e, show (⟨#[]⟩ : ByteArray) = ⟨([] : List UInt8).toArray⟩ from rfl, ByteArray.toList_mk]
      rw [this]
      exact ⟨fun h => by simp at h, fun _ => ⟨fun _ => by simp [inps, h0], fun h => absurd h0.symm h⟩⟩
    · have : (!s.toList.isEmpty) = true := by
        simp
        intro h
        obtain ⟨l, rfl⟩ : ∃ l : List UInt8, s = ⟨l.toArray⟩ := ⟨s.data.toList, by simp⟩
        rw [ByteArray.toList_mk] at h
        exact h0 (by rw [h]; rfl)
      rw [this]
      exact ⟨fun _ => ⟨rfl, h0⟩, fun h => by cases h⟩
  go_enter Tryz.func56, Tryz.ntmps56
  go_wp2_with fail
  generalize w.alloc (.cells #[.string s, .int .i64 0] 118) = W at *
  obtain ⟨hR0, hm0⟩ := HH.out
  clear HH
  have hW := hm0.size
  have hWl := hR0.lt
  go_loopw [5, 6] (fun lv mv wr => ∃ (f : Nat) (l : List Int) (more : Bool), mv = .bool more ∧ f ≤ s.size ∧ l.length ≤ f ∧ Rd wr w.heap.size s f ∧ wr.ownsRow (w.heap.size + 1) 3 1 lv l.length (zvs l) ∧ Hid (PIx s more f l) ∧ Mod (fun _ => False) w wr) (fun lv mv _ => moreOf mv * (1000 - sliceLen lv))
  case atStart => exact ⟨0, [], mb, rfl, by omega, by simp, hR0, World.ownsRow_nil _ _ _ _, HPI, hm0⟩
  case round =>
    clear hR0 hm0 HPI hmb
    obtain ⟨f, l, more, rfl, hf, hlf, hr, hO, HP, hm⟩ := hrel
    obtain ⟨lo, lcap, rfl, -⟩ := owns_form hO
    have hrl := hr.lt
    cases more with
    | false =>
      obtain ⟨p1, p2⟩ := HP.out.2 rfl
      have c1 := hr.c1
      by_cases he : f = s.size
      · have HI : Hid _ := p1 he
        have q1 : ((f : Int) != (s.size : Int)) = false := by rw [he]; simp
        have hE := owns_base (base' := w.heap.size) hO (by omega)
        clear he p1 p2
        go_wp2_with fail
        go_ret2
        rw [HI.out]
        exact inpEnd_some hm hE
      · have HI : Hid _ := p2 he
        have q1 : ((f : Int) != (s.size : Int)) = true := by simp; omega
        clear he p1 p2
        go_wp2_with fail
        go_ret2
        rw [HI.out]
        exact inpEnd_none hm
    | true =>
      obtain ⟨hst, hs0⟩ := HP.out.1 rfl
      have HST : Hid _ := hst
      clear hst
      go_wp2_with fail
      refine (readnum_any w.heap.size s f wr (by omega) hf hr).mono ?_
      rintro e w2 ⟨hm2, ⟨n, p, hrd, rfl, hr2⟩ | ⟨hrd, rfl⟩⟩
      · obtain ⟨g1, g2, -, g4, g5, -⟩ := rdN_dec hrd
        have hm2w : Mod (fun _ => False) w w2 := ((hm.mono (q := fun q => q = w.heap.size) (fun _ _ f => f.elim)).trans hm2).mono (fun q hq h => by omega)
        have hO2 := owns_mod hO hm2 (fun g h1 h2 => by omega)
        have hrl2 := hr2.lt
        have HRD : Hid _ := hrd
        clear hrd hm hO hm2 hr
        go_wp2_with (at_builtin; refine wpList_append_own _ rfl _ _ 29 rfl (w.heap.size + 1) 3 i0 _ 1 8 Tryz.underlying29 hii hz0 hz1 hz2 rfl (by decide) _ _ _ rfl (hO2.alloc _) ⟨w2.heap.size, 0, none⟩ 1 1 [.int .i64 n] rfl rfl ?c1 ?c2 ?c3 ?c4 ?c5 ?_)
        case c1 => exact World.news_of_block (cs := #[.int .i64 n]) (t := 3) (fr := (0, 0)) (heap_alloc_new w2 _)
        case c2 => simp [Value.oneCell']
        case c3 => unfold maxLen; omega
        case c4 => omega
        case c5 => simp; omega
        intro v' w4 hown4 hgrow _
        have hgm : Mod (fun i => w.heap.size + 1 ≤ i) w2 w4 := ((Mod.refl _ w2).alloc _).grown hgrow (fun i hi _ => (hO2.lt i hi).1)
        have hr4 : Rd w4 w.heap.size s p := hr2.keep hgm (by omega)
        have hm4 : Mod (fun _ => False) w w4 := ⟨hgm.os.trans hm2w.os, hgm.tape.trans hm2w.tape, hgm.output.trans hm2w.output, Nat.le_trans hm2w.size hgm.size, fun i hi _ => (hgm.block i (by omega) (by omega)).trans (hm2w.block i hi (fun f => f))⟩
        have hO4 : w4.ownsRow (w.heap.size + 1) 3 1 v' (l ++ [n]).length (zvs (l ++ [n])) := by
          have : zvs (l ++ [n]) = zvs l ++ [.int .i64 n] := by simp [zvs]
          rw [this]; simpa using hown4
        obtain ⟨lo4, lcap4, rfl, -⟩ := owns_form hO4
        have hln : (l ++ [n]).length = l.length + 1 := by simp
        have HLN : Hid _ := hln
        have hl4 : (l ++ [n]).length ≤ p := by omega
        clear hown4 hgrow hgm hO2 hm2w hr2 hln
        generalize hnl : (l ++ [n]).length = nl at *
        have HNL : Hid ((l ++ [n]).length = nl) := hnl
        clear hnl
        by_cases hc : g s p = 44
        · have HPI2 : Hid (PIx s true (p + 1) (l ++ [n])) := ⟨fun _ => ⟨inp_comma HST.out HRD.out hc, hs0⟩, fun h => by cases h⟩
          go_wp2_with fail
          refine (take_yes w.heap.size s p 44 w4 (by omega) g2 hr4 (by omega) hc).mono ?_
          rintro e w5 ⟨rfl, hr5, hk5, hm5⟩
          have hm5w : Mod (fun _ => False) w w5 := ((hm4.mono (q := fun q => q = w.heap.size) (fun _ _ f => f.elim)).trans hm5).mono (fun q hq h => by omega)
          have hO5 := owns_mod hO4 hm5 (fun g h1 h2 => by omega)
          clear hm4 hm5 hO4 hr4 hc
          go_wp2_with fail
          go_roundw
          case rel => exact ⟨p + 1, l ++ [n], true, rfl, hk5, by rw [HNL.out]; omega, hr5, by rw [HNL.out]; exact hO5, HPI2, hm5w⟩
          case measure => have := HLN.out; have := HNL.out; simp [moreOf, sliceLen]; omega
        · have HPI2 : Hid (PIx s false p (l ++ [n])) := ⟨fun h => (by cases h), fun _ => ⟨fun he => inp_last hs0 HST.out (by rw [← he]; exact HRD.out), fun hne => inp_bad hs0 hf HST.out (fun n' p' h => by
            have := HRD.out
            rw [h] at this
            simp at this
            rw [this.2]; exact ⟨hne, hc⟩)⟩⟩
          go_wp2_with fail
          refine (take_no w.heap.size s p 44 w4 (by omega) g2 hr4 hc).mono ?_
          rintro e w5 ⟨rfl, hr5, hm5⟩
          have hm5w : Mod (fun _ => False) w w5 := ((hm4.mono (q := fun q => q = w.heap.size) (fun _ _ f => f.elim)).trans hm5).mono (fun q hq h => by omega)
          have hO5 := owns_mod hO4 hm5 (fun g h1 h2 => by omega)
          clear hm4 hm5 hO4 hr4 hc
          go_wp2_with fail
          go_roundw
          case rel => exact ⟨p, l ++ [n], false, rfl, g2, by rw [HNL.out]; omega, hr5, by rw [HNL.out]; exact hO5, HPI2, hm5w⟩
          case measure => simp [moreOf, sliceLen]; omega
      · have HI : Hid (inps s = none) := inp_bad hs0 hf HST.out (fun n p h => by rw [hrd] at h; cases h)
        have hm2w : Mod (fun _ => False) w w2 := ((hm.mono (q := fun q => q = w.heap.size) (fun _ _ f => f.elim)).trans hm2).mono (fun q hq h => by omega)
        clear hrd hm2 hm hO hr
        go_wp2_with fail
        go_ret2
        rw [HI.out]
        exact inpEnd_none hm2w
end Go.Proofs.YtmnfndpbblpjiabGreatDoor

/- Right steps are good ones; the range of inputs: plain. -/
namespace Go.Proofs.YtmnfndpbblpjiabGreatDoor
open Go.RowKit Pu

theorem Pu.vfy_right {s : ByteArray} (h : vfy s = (0, 0)) : begunB s = true ∧ ∀ j, j < nst s → rightB (steps s) j (stepAt s j) (g s 2) (g s 3) = true := by
  cases hb : begunB s with
  | false => rw [vfy_bad hb] at h; simp at h
  | true =>
    refine ⟨rfl, fun j hj => ?_⟩
    unfold vfy at h
    rw [hb] at h
    simp only [Bool.true_eq_false, if_false] at h
    split at h
    · simp at h
    · rename_i hf
      have := List.find?_eq_none.1 hf j (by simpa using hj)
      simpa using this
theorem Pu.right_good {l : List Stp} {k : Nat} {t : Stp} {regs ins : Nat} (hs : Small t) (hr : regs ≤ 128) (h : rightB l k t regs ins = true) : Good ins t := by
  unfold rightB at h
  rw [proper_fit] at h
  simp only [Bool.and_eq_true, decide_eq_true_eq, List.all_eq_true] at h
  obtain ⟨⟨ho, hx⟩, hr2⟩ := h
  have h7 : t.op ≤ 7 := by
    refine Nat.le_of_not_lt fun hh => ?_
    simp [opFit, show ¬ t.op = 0 by omega, show ¬ t.op = 1 by omega, show ¬ t.op = 2 by omega, show ¬ t.op = 3 by omega, show ¬ t.op = 4 by omega, show ¬ t.op = 5 by omega, show ¬ t.op = 6 by omega, show ¬ t.op = 7 by omega] at ho
  refine ⟨hs, h7, by omega, fun h => ?_, fun h => ?_, fun h => ?_, fun h => ?_⟩
  · have := (hr2 t.y (by simp [readsOf, h])).1; omega
  · have := (hr2 t.z (by simp [readsOf, h])).1; omega
  · simp [opFit, h] at ho; exact ho.1
  · simp [opFit, h] at ho; exact ho
theorem Pu.inpSt_range {s : ByteArray} : ∀ (k f : Nat) (l : List Int), inpSt s k = some (f, l) → ∀ x ∈ l, -99 ≤ x ∧ x ≤ 99 := by
  intro k
  induction k with
  | zero => intro f l h; simp [inpSt] at h; rw [h.2]; intro x hx; cases hx
  | succ k ih =>
    intro f l h
    simp only [inpSt] at h
    split at h
    · cases h
    · rename_i f' l' hk
      split at h
      · split at h
        · rename_i n hn
          simp at h
          obtain ⟨-, rfl⟩ := h
          intro x hx
          rcases List.mem_append.1 hx with hx | hx
          · exact ih f' l' hk x hx
          · simp at hx; subst hx; exact numer_range hn
        · cases h
      · simp at h
        obtain ⟨-, rfl⟩ := h
        exact ih f' l' hk
theorem Pu.inps_range {s : ByteArray} {l : List Int} (h : inps s = some l) : ∀ x ∈ l, -100 < x ∧ x < 100 := by
  unfold inps at h
  split at h
  · simp at h; subst h; intro x hx; cases hx
  · simp at h
    obtain ⟨f, hf⟩ := h
    intro x hx
    have := inpSt_range _ f l hf x hx
    omega
end Go.Proofs.YtmnfndpbblpjiabGreatDoor

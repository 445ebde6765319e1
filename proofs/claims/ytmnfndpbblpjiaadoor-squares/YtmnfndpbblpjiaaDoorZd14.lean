/- The program's machine does a step. -/
import Derived.Test.YtmnfndpbblpjiaaDoorZd13
import Derived.Test.YtmnfndpbblpjiaaDoorZd07
namespace Go.Proofs.YtmnfndpbblpjiaaDoor
open Go.RowKit Pu

theorem own_other {w : World} {b1 b2 n1 n2 s1 s2 : Nat} {e1 e2 : TypeId} {u v : Value} {xs ys : List Value} (h1 : w.ownsRow b1 e1 s1 u n1 xs) (h2 : w.ownsRow b2 e2 s2 v n2 ys) (he : e1 ≠ e2) {g : Nat} (hu : u.ownBlock = some g) (hv : v.ownBlock = some g) : False := by
  obtain ⟨_, ⟨rfl, _⟩ | ⟨g1, c1, r1, rfl, _, k1, _⟩⟩ := h1
  · simp [Value.ownBlock] at hu
  · obtain ⟨_, ⟨rfl, _⟩ | ⟨g2, c2, r2, rfl, _, k2, _⟩⟩ := h2
    · simp [Value.ownBlock] at hv
    · simp [Value.ownBlock] at hu hv
      subst hu; subst hv
      rw [k1] at k2
      simp at k2
      exact he k2.2
theorem Mc.answer {w w' : World} {mb : Nat} {iv rv v' : Value} {R : List Int} {bs bs' : List UInt8} (h : Mc w mb iv R bs false) (hrv : w.cell? ⟨mb, 513, none⟩ = some rv) (hm : Mod (fun q => rv.ownBlock = some q) w w') (hO : w'.ownsRow (mb + 1) 5 1 v' bs'.length (bvs bs')) : Mc (w'.setCell ⟨mb, 513, none⟩ v') mb iv R bs' false := by
  obtain ⟨C, h1, h2, h3, h4, ⟨rv', h5, h6⟩, h7⟩ := h
  have hrr : rv' = rv := by rw [Mc.cell h1, h5] at hrv; exact Option.some.inj hrv
  subst hrr
  have hb1 : w'.heap[mb]? = some (.cells C 71 (0, 0)) := hm.keep h1 (fun hh => by have := (h6.lt mb hh).1; omega)
  have hset : (w'.setCell ⟨mb, 513, none⟩ v').heap[mb]? = some (.cells (C.setIfInBounds 513 v') 71 (0, 0)) := by simp [World.setCell, Array.getElem?_modify, hb1]
  have hms : Mod (fun q => q = mb) w' (w'.setCell ⟨mb, 513, none⟩ v') := (Mod.refl _ w').setCell ⟨mb, 513, none⟩ v' (fun _ => rfl)
  refine ⟨_, hset, by simpa using h2, ?_, ?_, ⟨v', ?_, owns_mod hO hms (fun g a b => by omega)⟩, fun r hr => ?_⟩
  · rw [Array.getElem?_setIfInBounds, if_neg (by omega)]; exact h3
  · rw [Array.getElem?_setIfInBounds, if_neg (by omega)]; exact h4
  · rw [Array.getElem?_setIfInBounds, if_pos rfl, if_pos (by omega)]
  · obtain ⟨nx, u, a, c0, c1, hN, hx, hl⟩ := h7 r hr
    refine ⟨nx, u, a, ?_, ?_, ⟨hN.1, own_apart (owns_mod' hN.2 hm (fun g p q => own_other hN.2 h6 (by decide) p q)) hms hb1 (by decide)⟩, hx, hl⟩
    · rw [Array.getElem?_setIfInBounds, if_neg (by omega)]; exact c0
    · rw [Array.getElem?_setIfInBounds, if_neg (by omega)]; exact c1

/-- An answer's digit. -/
def ansB (x : Int) : UInt8 := if 0 < x then 49 else 48
set_option maxHeartbeats 1600000 in
set_option maxRecDepth 4000 in
theorem mdo_out (t : Stp) (mb : Nat) (iv : Value) (R : List Int) (bs : List UInt8) (w : World) (hM : Mc w mb iv R bs false) (hs : Small t) (hop : t.op = 6) (hbs : bs.length ≤ 10000) :
    Calls Tryd.prog 32 #[.pointer (some ⟨mb, 0, none⟩), stV t] w fun e w' => e = .returned (.bool true) ∧ Mod (fun q => mb ≤ q) w w' ∧ Mc w' mb iv R (bs ++ [ansB (reg R t.x)]) false := by
  obtain ⟨nx, ao, an, acap, a, cy0, cy1, hU, hxa, la⟩ := hM.regs hs.2.1
  have hmA : Mod (fun _ => False) w (w.alloc (.cells #[.int .u8 t.op, .int .u8 t.x, .int .u8 t.y, .int .u8 t.z] 52)) := (Mod.refl _ w).alloc _
  have hSt := st_new w t
  have hlt := hM.lt
  have hU0 := hU.mod hmA
  have d0 := hmA.cell cy0
  have d1 := hmA.cell cy1
  obtain ⟨e0, e1, e2, e3⟩ := cells4 hSt
  have ix : (t.x : Int) < 256 := by have := hs.2.1; omega
  have hMA := hM.mod hmA
  have HH : Hid _ := And.intro hU0 (And.intro hmA (And.intro d0 (And.intro d1 (And.intro e1 hMA))))
  have o6 : ((t.op : Int) == 6) = true := beq_t (m := 6) hop
  have HSG : Hid (ansB (reg R t.x) = if decide (0 < sgn (num9 nx a)) then 49 else 48) := show _ = _ by
    rw [hxa]; unfold sgn ansB
    by_cases hq : reg R t.x < 0
    · rw [if_pos hq, if_neg (by omega)]; rfl
    · by_cases hz : reg R t.x = 0
      · rw [if_neg hq, if_pos hz, if_neg (by omega)]; rfl
      · rw [if_neg hq, if_neg hz, if_pos (by omega)]; rfl
  clear hU hmA hSt hU0 d0 d1 e0 e1 e2 e3 hM cy0 cy1 hxa hMA hop
  go_enter Tryd.func32, Tryd.ntmps32
  go_wp2_with fail
  generalize w.alloc (.cells #[.int .u8 t.op, .int .u8 t.x, .int .u8 t.y, .int .u8 t.z] 52) = W at *
  obtain ⟨hU0, hmA, d0, d1, e1, hMA⟩ := HH.out
  clear HH
  have hcall := sign9_any nx (.slice ao an acap) a W.drew (hU0.mod (Mod.refl _ W).drew) (by omega)
  generalize sgn (num9 nx a) = sg at *
  have HHH : Hid _ := And.intro hmA hMA
  clear hmA hMA hU0
  go_region_held3 (fun w' => w'.cell? ⟨mb, 1 + t.x * 2, none⟩ = some (.bool nx) ∧ w'.cell? ⟨mb, 1 + t.x * 2 + 1, none⟩ = some (.slice ao an acap) ∧ w'.cell? ⟨w.heap.size, 1, none⟩ = some (.int .u8 t.x))
    (first | go_keep | (exact hkeep))
    ((go_at_call 38; refine hcall.mono ?_; rintro e w2 ⟨rfl, hm2⟩; have hkeep := And.intro (hm2.cell (a := W.drew) d0) (And.intro (hm2.cell (a := W.drew) d1) (hm2.cell (a := W.drew) e1))))
  obtain ⟨hmA, hMA⟩ := HHH.out
  have hM2 := (hMA.mod (Mod.refl _ W).drew).mod hm2
  have hmw := hmA.drew.trans hm2
  obtain ⟨ro, rn, rcap, c513, hrow, hrn⟩ := hM2.rep
  subst hrn
  have hml := hM2.lt
  have hst := answer_any (.slice ro bs.length rcap) bs (decide (0 < sg)) (mb + 1) w2 hrow hbs hml
  have HC : Hid _ := And.intro hM2 (And.intro hmw hrow)
  clear hkeep d0 d1 e1 hcall HHH hmA hMA hM2 hmw hm2
  generalize hbq : decide ((0 : Int) < sg) = bq at *
  go_wp2_with fail
  refine hst.mono ?_
  rintro e w3 ⟨hm3, v3, rfl, hO3⟩
  obtain ⟨hM2, hmw, hrow'⟩ := HC.out
  obtain ⟨vo3, vcap3, rfl, -⟩ := owns_form hO3
  have hM4 := hM2.answer c513 hm3 hO3
  have hb3 : Mod (fun q => mb ≤ q) w (w3.setCell ⟨mb, 513, none⟩ (.slice vo3 (bs ++ [if bq then 49 else 48]).length vcap3)) :=
    ((hmw.mono (q := fun q => mb ≤ q) (fun _ _ f => f.elim)).trans (hm3.mono (fun q _ h => by have := (hrow'.lt q h).1; omega))).setCell ⟨mb, 513, none⟩ _ (fun _ => Nat.le_refl _)
  obtain ⟨C, hC, -⟩ := hM2
  have hC3 := hm3.keep hC (fun hh => by have := (hrow'.lt mb hh).1; omega)
  have k513 := (Mc.cell hC3 513).trans ((Mc.cell hC 513).symm.trans c513)
  have g513 := fz3 hC3 513
  have HE : Hid (Mod (fun q => mb ≤ q) w (w3.setCell ⟨mb, 513, none⟩ (.slice vo3 (bs ++ [if bq then 49 else 48]).length vcap3)) ∧ Mc (w3.setCell ⟨mb, 513, none⟩ (.slice vo3 (bs ++ [if bq then 49 else 48]).length vcap3)) mb iv R (bs ++ [ansB (reg R t.x)]) false) := ⟨hb3, by rw [HSG.out]; exact hM4⟩
  generalize (bs ++ [if bq then (49 : UInt8) else 48]).length = nn at *
  clear hb3 hM4 hC hC3 hrow' hmw hO3 hst HC hrow hm3
  go_wp2_with fail
  go_ret
  exact ⟨rfl, HE.out.1, HE.out.2⟩

set_option maxHeartbeats 800000 in
set_option maxRecDepth 4000 in
theorem mdo_on (t : Stp) (mb : Nat) (iv : Value) (R : List Int) (bs : List UInt8) (w : World) (hM : Mc w mb iv R bs false) (hs : Small t) (hop : t.op = 7) (hz : reg R t.x ≠ 0) :
    Calls Tryd.prog 32 #[.pointer (some ⟨mb, 0, none⟩), stV t] w fun e w' => e = .returned (.bool true) ∧ Mod (fun _ => False) w w' := by
  have hmA : Mod (fun _ => False) w (w.alloc (.cells #[.int .u8 t.op, .int .u8 t.x, .int .u8 t.y, .int .u8 t.z] 52)) := (Mod.refl _ w).alloc _
  have hst := mstop_on t mb iv R bs _ (hM.mod hmA) hs hz
  have o6 : ((t.op : Int) == 6) = false := beq_f (m := 6) (by omega)
  have o7 : ((t.op : Int) == 7) = true := beq_t (m := 7) hop
  have HM : Hid _ := hmA
  clear hM hmA hop hz
  go_enter Tryd.func32, Tryd.ntmps32
  go_wp2_with fail
  refine hst.mono ?_
  rintro e w2 ⟨rfl, hm2⟩
  have hmE := HM.out.trans hm2
  clear hst HM hm2
  go_wp2_with fail
  go_ret
  exact ⟨rfl, hmE⟩
set_option maxHeartbeats 800000 in
set_option maxRecDepth 4000 in
theorem mdo_end (t : Stp) (mb : Nat) (iv : Value) (R : List Int) (bs : List UInt8) (w : World) (hM : Mc w mb iv R bs false) (hs : Small t) (hop : t.op = 7) (hz : reg R t.x = 0) (hy3 : t.y < 3) (hz16 : t.z < 16) (hbs : bs.length ≤ 10000) :
    Calls Tryd.prog 32 #[.pointer (some ⟨mb, 0, none⟩), stV t] w fun e w' => e = .returned (.bool true) ∧ Mod (fun q => mb ≤ q) w w' ∧ Stopped w' mb (bs ++ [spc t.y] ++ (dec (t.z : Int)).data.toList) := by
  have hmA : Mod (fun _ => False) w (w.alloc (.cells #[.int .u8 t.op, .int .u8 t.x, .int .u8 t.y, .int .u8 t.z] 52)) := (Mod.refl _ w).alloc _
  have hst := mstop_end t mb iv R bs _ (hM.mod hmA) hs hz hy3 hz16 hbs
  have o6 : ((t.op : Int) == 6) = false := beq_f (m := 6) (by omega)
  have o7 : ((t.op : Int) == 7) = true := beq_t (m := 7) hop
  have HM : Hid _ := hmA
  clear hM hmA hop hz
  go_enter Tryd.func32, Tryd.ntmps32
  go_wp2_with fail
  refine hst.mono ?_
  rintro e w2 ⟨rfl, hm2, hS⟩
  have hmE := (HM.out.mono (q := fun q => mb ≤ q) (fun _ _ f => f.elim)).trans hm2
  have HS : Hid _ := hS
  clear hst HM hm2 hS
  go_wp2_with fail
  go_ret
  exact ⟨rfl, hmE, HS.out⟩
set_option maxHeartbeats 800000 in
set_option maxRecDepth 4000 in
theorem mdo_set (B nn : Nat) (hB : B = 10 ^ nn) (hnn : nn = 8000) (t : Stp) (mb : Nat) (iv : Value) (R ins : List Int) (base : Nat) (bs : List UInt8) (w : World) (hM : Mc w mb iv R bs false) (hR : R.length = 128) (hg : Good ins.length t) (hop : t.op < 6) (hI : w.ownsRow base 3 1 iv ins.length (zvs ins)) (hn : ins.length ≤ 1000) (hi : ∀ x ∈ ins, -100 < x ∧ x < 100) :
    Calls Tryd.prog 32 #[.pointer (some ⟨mb, 0, none⟩), stV t] w (SetEnd w B mb iv R bs t.x (Pu.valOf t R ins)) := by
  have hmA : Mod (fun _ => False) w (w.alloc (.cells #[.int .u8 t.op, .int .u8 t.x, .int .u8 t.y, .int .u8 t.z] 52)) := (Mod.refl _ w).alloc _
  have hst := mset_any B nn hB hnn t mb iv R ins base bs _ (hM.mod hmA) hR hg hop (owns_mod hI hmA (fun _ _ f => f)) hn hi
  have o6 : ((t.op : Int) == 6) = false := beq_f (m := 6) (by omega)
  have o7 : ((t.op : Int) == 7) = false := beq_f (m := 7) (by omega)
  have HM : Hid _ := hmA
  have s0 := hg.1.1
  generalize Pu.valOf t R ins = val at *
  clear hM hmA hI hi hg hB hnn
  go_enter Tryd.func32, Tryd.ntmps32
  go_wp2_with fail
  refine hst.mono ?_
  rintro e w2 ⟨hm2, hc⟩
  have hmE := (HM.out.mono (q := fun q => q = mb) (fun _ _ f => f.elim)).trans hm2
  clear hst HM hm2
  rcases hc with ⟨hb, rfl⟩ | ⟨hb, rfl, hM2⟩
  · have HE : Hid (SetEnd w B mb iv R bs t.x val (.returned (.bool false)) w2) := ⟨hmE, .inl ⟨hb, rfl⟩⟩
    go_wp2_with fail
    go_ret
    exact HE.out
  · have HE : Hid (SetEnd w B mb iv R bs t.x val (.returned (.bool true)) w2) := ⟨hmE, .inr ⟨hb, rfl, hM2⟩⟩
    clear hM2
    go_wp2_with fail
    go_ret
    exact HE.out
end Go.Proofs.YtmnfndpbblpjiaaDoor

/- The program's machine, as it begins. -/
namespace Go.Proofs.YtmnfndpbblpjiaaDoor
open Go.RowKit Pu

def zc (i : Nat) : Value := if i = 0 then .slice none 0 0 else if i = 513 then .slice none 0 0 else if i = 514 then .bool false else if i % 2 = 1 then .bool false else .slice none 0 0
theorem Tryd.machine0 : Tryd.zeroCells71 = (Array.range 515).map zc := by kernel_rfl
theorem Tryd.infoMc : (Tryd.prog.info? 71).map (·.size) = some 515 := by kernel_rfl
theorem m0_at {i : Nat} (h : i < 515) : Tryd.zeroCells71[i]? = some (zc i) := by rw [Tryd.machine0]; simp [h]
theorem zc_one (i : Nat) : (zc i).oneCell' = true := by
  unfold zc; repeat' split
  all_goals rfl
theorem m0_one (iv : Value) (h : iv.oneCell' = true) : (Tryd.zeroCells71.setIfInBounds 0 iv).all (·.oneCell') = true := by
  rw [Array.all_eq_true_iff_forall_mem]
  intro v hv
  rcases Array.mem_or_eq_of_mem_setIfInBounds hv with h1 | h1
  · rw [Tryd.machine0] at h1
    simp at h1
    obtain ⟨k, -, rfl⟩ := h1
    exact zc_one k
  · rw [h1]; exact h
theorem Mc.start {w : World} {mb : Nat} {iv : Value} (h : w.heap[mb]? = some (.cells (Tryd.zeroCells71.setIfInBounds 0 iv) 71 (0, 0))) : Mc w mb iv (List.replicate 128 0) [] false := by
  have hs : Tryd.zeroCells71.size = 515 := Tryd.zeroCells71_size
  have hf : ∀ i, 0 < i → i < 515 → (Tryd.zeroCells71.setIfInBounds 0 iv)[i]? = some (zc i) := fun i h0 hi => by rw [Array.getElem?_setIfInBounds, if_neg (by omega)]; exact m0_at hi
  refine ⟨_, h, by simp, by rw [Array.getElem?_setIfInBounds, if_pos rfl, if_pos (by omega)], by rw [hf 514 (by omega) (by omega)]; rfl, ⟨.slice none 0 0, by rw [hf 513 (by omega) (by omega)]; rfl, World.ownsRow_nil _ _ _ _⟩, fun r hr => ⟨false, .slice none 0 0, [], ?_, ?_, ⟨C9.nil, World.ownsRow_nil _ _ _ _⟩, ?_, by simp⟩⟩
  · rw [hf _ (by omega) (by omega)]
    unfold zc
    rw [if_neg (by omega), if_neg (by omega), if_neg (by omega), if_pos (by omega)]
  · rw [hf _ (by omega) (by omega)]
    unfold zc
    rw [if_neg (by omega)]
    by_cases e : 1 + r * 2 + 1 = 513
    · rw [if_pos e]
    · rw [if_neg e, if_neg (by omega), if_neg (by omega)]
  · show (num9 false []) = reg (List.replicate 128 0) r
    rw [reg, List.getElem?_replicate]
    split <;> rfl

end Go.Proofs.YtmnfndpbblpjiaaDoor

/- The program's execute. -/
namespace Go.Proofs.YtmnfndpbblpjiaaDoor
open Go.RowKit Pu

set_option maxHeartbeats 800000 in
set_option maxRecDepth 4000 in
theorem execute_any (B nn : Nat) (hB : B = 10 ^ nn) (hnn : nn = 8000) (r i : Nat) (v iv : Value) (l : List Stp) (ins : List Int) (base ibase : Nat) (w : World) (hl : l.length ≤ 3000) (hL : PLst w base v l) (hI : w.ownsRow ibase 3 1 iv ins.length (zvs ins)) (hn : ins.length ≤ 1000) (hi : ∀ x ∈ ins, -100 < x ∧ x < 100) (hg : ∀ t ∈ l, Good ins.length t) :
    Calls Tryd.prog 25 #[.agg #[.int .u8 r, .int .u8 i, v], iv] w fun e w' => e = .returned (.tuple #[.string (play B ins l (List.replicate 128 0) ⟨#[]⟩).1, .int .i64 (play B ins l (List.replicate 128 0) ⟨#[]⟩).2]) ∧ Mod (fun _ => False) w w' := by
  obtain ⟨ao, cap, rfl, -⟩ := owns_form hL
  obtain ⟨io, icap, rfl, -⟩ := owns_form hI
  have HG : Hid (∀ t ∈ l, Good ins.length t) := hg
  have HI : Hid (∀ x ∈ ins, -100 < x ∧ x < 100) := hi
  have HB : Hid (B = 10 ^ nn) := hB
  have HNN : Hid (nn = 8000) := hnn
  have HP : Hid (play B ins (l.drop 0) (List.replicate 128 0) ⟨([] : List UInt8).toArray⟩ = play B ins l (List.replicate 128 0) ⟨#[]⟩) := rfl
  generalize play B ins l (List.replicate 128 0) ⟨#[]⟩ = pr at *
  clear hg hi hB hnn
  obtain ⟨a1, a2⟩ := alloc2_at w (.cells #[.int .u8 r, .int .u8 i, .slice ao l.length cap] 41) (.cells Tryd.zeroCells71 71)
  have hm0 : Mod (fun _ => False) w ((w.alloc (.cells #[.int .u8 r, .int .u8 i, .slice ao l.length cap] 41)).alloc (.cells Tryd.zeroCells71 71)) := ((Mod.refl _ w).alloc _).alloc _
  have HA : Hid _ := a2
  have hms := setRow_new (C := Tryd.zeroCells71.setIfInBounds 0 (.slice io ins.length icap)) hm0 (b := w.heap.size + 1) (by omega)
  have hst := setRow_at (C' := Tryd.zeroCells71.setIfInBounds 0 (.slice io ins.length icap)) a2
  have hpp := (setRow_mod ((w.alloc (.cells #[.int .u8 r, .int .u8 i, .slice ao l.length cap] 41)).alloc (.cells Tryd.zeroCells71 71)) (w.heap.size + 1) (Tryd.zeroCells71.setIfInBounds 0 (.slice io ins.length icap))).keep a1 (by omega)
  obtain ⟨-, -, p2⟩ := cells3 hpp
  have HH : Hid _ := And.intro hms (Mc.start hst)
  clear a1 a2 hm0 hms hst hpp
  go_enter Tryd.func25, Tryd.ntmps25
  go_wp2_with (refine wpList_store_row rfl 71 _ _ rfl _ Tryd.zeroCells71 (Tryd.zeroCells71.setIfInBounds 0 (.slice io ins.length icap)) 71 rfl rfl ?hb1 (by rw [Array.size_setIfInBounds, Tryd.zeroCells71_size]; exact Tryd.infoMc) (by simp) (m0_one _ rfl) ?_; case hb1 => exact HA.out)
  generalize ((w.alloc (.cells #[.int .u8 r, .int .u8 i, .slice ao l.length cap] 41)).alloc (.cells Tryd.zeroCells71 71)).setRow (w.heap.size + 1) (Tryd.zeroCells71.setIfInBounds 0 (.slice io ins.length icap)) = W1 at *
  obtain ⟨hm1, hM1⟩ := HH.out
  clear HH HA p2
  go_loopw [14] (fun kv wr => ∃ (k : Nat) (R : List Int) (bs : List UInt8), k ≤ l.length ∧ kv = .int .i64 k ∧ Hid (R.length = 128) ∧ bs.length ≤ k ∧ Mc wr (w.heap.size + 1) (.slice io ins.length icap) R bs false ∧ Hid (play B ins (l.drop k) R ⟨bs.toArray⟩ = pr) ∧ Mod (fun _ => False) w wr) (fun kv _ => l.length - (intOf kv).toNat)
  case atStart => exact ⟨0, _, [], by omega, rfl, show _ = _ by simp, by simp, hM1, HP, hm1⟩
  case round =>
    clear hM1 hm1 HP
    obtain ⟨k, R, bs, hk, rfl, HR, hbs, hM, HP, hm⟩ := hrel
    by_cases hlt : k < l.length
    · have hLr := hL.mod hm
      obtain ⟨gb, rfl, c0, c1, c2, c3⟩ := hLr.cell hlt
      have HD : Hid (l.drop k = l[k] :: l.drop (k + 1)) := List.drop_eq_getElem_cons hlt
      have HGt : Hid (Good ins.length l[k]) := HG.out _ (List.getElem_mem hlt)
      have hIr := owns_mod hI hm (fun _ _ f => f)
      obtain ⟨hsm, h7, hx, -, -, -, hst⟩ := HGt.out
      have HST : Hid _ := hst
      clear hst hLr
      generalize l[k] = t at *
      have hrl := hM.lt
      have hmA : Mod (fun _ => False) wr (wr.alloc (.cells #[.int .u8 t.op, .int .u8 t.x, .int .u8 t.y, .int .u8 t.z] 52)) := (Mod.refl _ wr).alloc _
      have hMA := hM.mod hmA
      by_cases h6 : t.op < 6
      · have hd := mdo_set B nn HB.out HNN.out t (w.heap.size + 1) (.slice io ins.length icap) R ins ibase bs _ hMA HR.out HGt.out h6 (owns_mod hIr hmA (fun _ _ f => f)) hn HI.out
        have HBIG : Hid (B ≤ (Pu.valOf t R ins).natAbs → pr = (⟨#[]⟩, 10)) := fun h => by rw [← HP.out, HD.out]; exact play_big h6 h
        have HSET : Hid (¬ B ≤ (Pu.valOf t R ins).natAbs → play B ins (l.drop (k + 1)) (R.set t.x (Pu.valOf t R ins)) ⟨bs.toArray⟩ = pr) := fun h => by rw [← HP.out, HD.out]; exact (play_set h6 h).symm
        have hmA2 := hm.trans hmA
        clear hM hMA HP HD HST hIr hmA
        generalize Pu.valOf t R ins = val at *
        go_wp2_with fail
        refine hd.mono ?_
        rintro e w2 ⟨hm2, hc⟩
        have hm3 : Mod (fun _ => False) w w2 := ((hmA2.mono (q := fun q => q = w.heap.size + 1) (fun _ _ f => f.elim)).trans hm2).mono (fun q hq h => by omega)
        rcases hc with ⟨hb, rfl⟩ | ⟨hb, rfl, hM2⟩
        · have HE : Hid (pr = (⟨#[]⟩, 10)) := HBIG.out hb
          clear HBIG HSET hd hm2
          go_wp2_with fail
          go_ret2
          exact ⟨by rw [HE.out]; rfl, hm3⟩
        · have HP2 := HSET.out hb
          have HP2 : Hid _ := HP2
          have c514 := hM2.ended
          have HR2 : Hid ((R.set t.x val).length = 128) := show _ = _ by simpa using HR.out
          have HM2 : Hid _ := hM2
          clear HBIG HSET hd hm2 hM2
          go_wp2_with fail
          go_roundw
          case rel => exact ⟨k + 1, _, bs, by omega, by go_num, HR2, by omega, HM2.out, HP2.out, hm3⟩
          case measure => simp [intOf]; omega
      · by_cases h66 : t.op = 6
        · have hd := mdo_out t (w.heap.size + 1) (.slice io ins.length icap) R bs _ hMA hsm h66 (by omega)
          have HP2 : Hid (play B ins (l.drop (k + 1)) R ⟨(bs ++ [ansB (reg R t.x)]).toArray⟩ = pr) := show _ = _ by
            rw [← HP.out, HD.out, play_out h66]
            congr 1
          have hmA2 := hm.trans hmA
          clear hM hMA HP HD HST hIr hmA h66 h6
          go_wp2_with fail
          refine hd.mono ?_
          rintro e w2 ⟨rfl, hm2, hM2⟩
          have hm3 : Mod (fun _ => False) w w2 := ((hmA2.mono (q := fun q => w.heap.size + 1 ≤ q) (fun _ _ f => f.elim)).trans hm2).mono (fun q hq h => by omega)
          have c514 := hM2.ended
          have HM2 : Hid _ := hM2
          have hbl : (bs ++ [ansB (reg R t.x)]).length ≤ k + 1 := by simp; omega
          clear hd hm2 hM2
          go_wp2_with fail
          go_roundw
          case rel => exact ⟨k + 1, R, _, by omega, by go_num, HR, hbl, HM2.out, HP2, hm3⟩
          case measure => simp [intOf]; omega
        · have h77 : t.op = 7 := by omega
          by_cases hz : reg R t.x = 0
          · obtain ⟨hy3, hz16⟩ := HST.out h77
            have hd := mdo_end t (w.heap.size + 1) (.slice io ins.length icap) R bs _ hMA hsm h77 hz hy3 hz16 (by omega)
            have HE : Hid (pr = (⟨(bs ++ [spc t.y] ++ (dec (t.z : Int)).data.toList).toArray⟩, 0)) := show _ = _ by
              rw [← HP.out, HD.out, play_end (by omega) hz]
              congr 1
            have hmA2 := hm.trans hmA
            clear hM hMA HP HD HST hIr hmA h66 h6 hz h77
            generalize bs ++ [spc t.y] ++ (dec (t.z : Int)).data.toList = bs2 at *
            go_wp2_with fail
            refine hd.mono ?_
            rintro e w2 ⟨rfl, hm2, c514, ro, rn, rcap, c513, hrow, hrn⟩
            subst hrn
            have hm3 : Mod (fun _ => False) w w2 := ((hmA2.mono (q := fun q => w.heap.size + 1 ≤ q) (fun _ _ f => f.elim)).trans hm2).mono (fun q hq h => by omega)
            have hcv := convert_owned (P := Tryd.prog) hrow rfl Tryd.underlying38 Tryd.underlying5 Tryd.underlying9
            clear hd hm2 hmA2
            go_wp2_with fail
            go_ret2
            exact ⟨by rw [HE.out]; rfl, hm3⟩
          · have hd := mdo_on t (w.heap.size + 1) (.slice io ins.length icap) R bs _ hMA hsm h77 hz
            have HP2 : Hid (play B ins (l.drop (k + 1)) R ⟨bs.toArray⟩ = pr) := show _ = _ by
              rw [← HP.out, HD.out, play_on (by omega) hz]
            clear hM HP HD HST hIr h66 h6 hz h77
            have HMA : Hid _ := And.intro hMA (hm.trans hmA)
            clear hMA hmA hm
            go_wp2_with fail
            refine hd.mono ?_
            rintro e w2 ⟨rfl, hm2⟩
            have hM2 := HMA.out.1.mod hm2
            have hm3 := HMA.out.2.trans hm2
            have c514 := hM2.ended
            have HM2 : Hid _ := hM2
            clear hd hm2 hM2 HMA
            go_wp2_with fail
            go_roundw
            case rel => exact ⟨k + 1, R, bs, by omega, by go_num, HR, by omega, HM2.out, HP2, hm3⟩
            case measure => simp [intOf]; omega
    · have hks : l.drop k = [] := List.drop_eq_nil_of_le (by omega)
      have HE : Hid (pr = (⟨bs.toArray⟩, 0)) := show pr = _ by rw [← HP.out, hks]; rfl
      obtain ⟨ro, rn, rcap, c513, hrow, hrn⟩ := hM.rep
      subst hrn
      have hcv := convert_owned (P := Tryd.prog) hrow rfl Tryd.underlying38 Tryd.underlying5 Tryd.underlying9
      clear hks hM
      go_wp2_with fail
      go_ret2
      exact ⟨by rw [HE.out]; rfl, hm⟩
end Go.Proofs.YtmnfndpbblpjiaaDoor

/- What the program's reader reads as a number: plain. -/
namespace Go.Proofs.YtmnfndpbblpjiaaDoor.Pu

/-- The number at f, and where it ends. -/
def rdN (s : ByteArray) (f : Nat) : Option (Int × Nat) :=
  if g s f = 48 then some (0, f + 1)
  else if g s f = 45 then
    (if 49 ≤ g s (f + 1) ∧ g s (f + 1) ≤ 57 then
      (if 48 ≤ g s (f + 2) ∧ g s (f + 2) ≤ 57 then some (-((10 * (g s (f + 1) - 48) + (g s (f + 2) - 48) : Nat) : Int), f + 3) else some (-((g s (f + 1) - 48 : Nat) : Int), f + 2))
      else none)
  else if 49 ≤ g s f ∧ g s f ≤ 57 then
    (if 48 ≤ g s (f + 1) ∧ g s (f + 1) ≤ 57 then some (((10 * (g s f - 48) + (g s (f + 1) - 48) : Nat) : Int), f + 2) else some (((g s f - 48 : Nat) : Int), f + 1))
  else none
theorem dec_list (n : Int) : (dec n).data.toList = (if n < 0 then [45] else []) ++ decN n.natAbs := by simp [dec]
theorem ext_get {s : ByteArray} {f e : Nat} {l : List UInt8} (he : e ≤ s.size) (h : s.extract f e = ⟨l.toArray⟩) (hf : f ≤ e) : e = f + l.length ∧ ∀ j (hj : j < l.length), g s (f + j) = l[j].toNat := by
  have hsz : (s.extract f e).size = l.length := by rw [h]; rfl
  rw [ByteArray.size_extract] at hsz
  refine ⟨by omega, fun j hj => ?_⟩
  have hfj : f + j < s.size := by omega
  rw [g_in hfj]
  have h1 : (s.extract f e)[j]'(by rw [ByteArray.size_extract]; omega) = s[f + j] := by
    rw [ByteArray.getElem_extract]
  have h2 : ∀ hh, (⟨l.toArray⟩ : ByteArray)[j]'hh = l[j] := fun _ => rfl
  rw [← h1]
  congr 1
  simp only [h]
  exact h2 _
theorem ofNat_toNat {n : Nat} (h : n < 256) : (UInt8.ofNat n).toNat = n := UInt8.toNat_ofNat_of_lt' (by simpa using h)
theorem decN_get {n : Nat} (h : n ≤ 99) : (n ≤ 9 ∧ decN n = [UInt8.ofNat (48 + n)]) ∨ (9 < n ∧ decN n = [UInt8.ofNat (48 + n / 10), UInt8.ofNat (48 + n % 10)]) := by
  unfold decN
  by_cases h9 : 9 < n
  · exact .inr ⟨h9, by rw [if_pos h9]⟩
  · refine .inl ⟨by omega, ?_⟩
    rw [if_neg h9, Nat.mod_eq_of_lt (by omega)]
theorem rdN_of {s : ByteArray} {f e : Nat} {n : Int} (hf : f ≤ e) (he : e ≤ s.size) (hb : e = s.size ∨ g s e = 44) (h : s.extract f e = dec n) (h1 : -99 ≤ n) (h2 : n ≤ 99) : rdN s f = some (n, e) := by
  have hend : ¬ (48 ≤ g s e ∧ g s e ≤ 57) := by
    rcases hb with hb | hb
    · rw [g_out (by omega)]; omega
    · omega
  by_cases hn : n < 0
  · obtain ⟨m, rfl⟩ : ∃ m : Nat, n = -(m : Int) := ⟨n.natAbs, by omega⟩
    rw [dec_neg m (by omega)] at h
    obtain ⟨hlen, hget⟩ := ext_get he h hf
    rcases decN_get (show m ≤ 99 by omega) with ⟨hm, hd⟩ | ⟨hm, hd⟩
    · rw [hd] at hlen hget
      have g0 : g s f = 45 := by simpa using hget 0 (by simp)
      have g1 : g s (f + 1) = 48 + m := by have := hget 1 (by simp); rw [this]; exact ofNat_toNat (by omega)
      have hl : e = f + 2 := by simpa using hlen
      subst hl
      unfold rdN
      rw [if_neg (by omega), if_pos g0, if_pos (by omega), if_neg hend, g1]
      congr 3
      omega
    · rw [hd] at hlen hget
      have g0 : g s f = 45 := by simpa using hget 0 (by simp)
      have g1 : g s (f + 1) = 48 + m / 10 := by have := hget 1 (by simp); rw [this]; exact ofNat_toNat (by omega)
      have g2 : g s (f + 2) = 48 + m % 10 := by have := hget 2 (by simp); rw [this]; exact ofNat_toNat (by omega)
      have hl : e = f + 3 := by simpa using hlen
      subst hl
      unfold rdN
      rw [if_neg (by omega), if_pos g0, if_pos (by omega), if_pos (by omega), g1, g2]
      congr 3
      omega
  · obtain ⟨m, rfl⟩ : ∃ m : Nat, n = (m : Int) := ⟨n.toNat, by omega⟩
    rw [dec_nat m] at h
    obtain ⟨hlen, hget⟩ := ext_get he h hf
    rcases decN_get (show m ≤ 99 by omega) with ⟨hm, hd⟩ | ⟨hm, hd⟩
    · rw [hd] at hlen hget
      have g0 : g s f = 48 + m := by have := hget 0 (by simp); rw [Nat.add_zero] at this; rw [this]; exact ofNat_toNat (by omega)
      have hl : e = f + 1 := by simpa using hlen
      subst hl
      unfold rdN
      by_cases hz : m = 0
      · subst hz; rw [if_pos (by omega)]; rfl
      · rw [if_neg (by omega), if_neg (by omega), if_pos (by omega), if_neg hend, g0]
        congr 3
        omega
    · rw [hd] at hlen hget
      have g0 : g s f = 48 + m / 10 := by have := hget 0 (by simp); rw [Nat.add_zero] at this; rw [this]; exact ofNat_toNat (by omega)
      have g1 : g s (f + 1) = 48 + m % 10 := by have := hget 1 (by simp); rw [this]; exact ofNat_toNat (by omega)
      have hl : e = f + 2 := by simpa using hlen
      subst hl
      unfold rdN
      rw [if_neg (by omega), if_neg (by omega), if_pos (by omega), if_pos (by omega), g0, g1]
      congr 3
      omega
end Go.Proofs.YtmnfndpbblpjiaaDoor.Pu

/- What the reader has read; the next comma; texts of inputs. -/
namespace Go.Proofs.YtmnfndpbblpjiaaDoor.Pu

theorem ext_mk {s : ByteArray} {f : Nat} {l : List UInt8} (hl : f + l.length ≤ s.size) (h : ∀ j (hj : j < l.length), g s (f + j) = l[j].toNat) : s.extract f (f + l.length) = ⟨l.toArray⟩ := by
  have hsz : (s.extract f (f + l.length)).size = l.length := by rw [ByteArray.size_extract]; omega
  apply ByteArray.ext
  apply Array.ext
  · show (s.extract f (f + l.length)).size = _
    rw [hsz]; simp
  · intro i h1 h2
    have hi : i < l.length := by simpa using h2
    have h3 := h i hi
    rw [g_in (by omega)] at h3
    have h4 : s[f + i]'(by omega) = l[i] := UInt8.toNat_inj.1 h3
    have h5 : (s.extract f (f + l.length))[i]'(by rw [hsz]; exact hi) = s[f + i]'(by omega) := by rw [ByteArray.getElem_extract]
    show (s.extract f (f + l.length))[i]'(by rw [hsz]; exact hi) = _
    rw [h5, h4]; simp
theorem in_of {s : ByteArray} {i : Nat} (h : g s i ≠ 0) : i < s.size := by
  refine Nat.lt_of_not_le fun hh => h (g_out hh)
theorem rdN_dec {s : ByteArray} {f p : Nat} {n : Int} (h : rdN s f = some (n, p)) : f < p ∧ p ≤ s.size ∧ s.extract f p = dec n ∧ -99 ≤ n ∧ n ≤ 99 ∧ ∀ i, f ≤ i → i < p → g s i ≠ 44 := by
  unfold rdN at h
  split at h
  · rename_i h0
    simp at h
    obtain ⟨rfl, rfl⟩ := h
    have hs := in_of (s := s) (i := f) (by omega)
    refine ⟨by omega, by omega, ?_, by omega, by omega, fun i a b => by rw [show i = f by omega]; omega⟩
    refine ext_mk (l := [48]) (by simp; omega) (fun j hj => ?_)
    have : j = 0 := by simpa using hj
    subst this
    simpa using h0
  · split at h
    · rename_i h45
      split at h
      · rename_i h1
        have hs1 := in_of (s := s) (i := f + 1) (by omega)
        split at h
        · rename_i h2
          have hs2 := in_of (s := s) (i := f + 2) (by omega)
          simp only [Option.some.injEq, Prod.mk.injEq] at h
          obtain ⟨rfl, rfl⟩ := h
          generalize hm : 10 * (g s (f + 1) - 48) + (g s (f + 2) - 48) = m
          refine ⟨by omega, by omega, ?_, by omega, by omega, fun i a b => by
            have : i = f ∨ i = f + 1 ∨ i = f + 2 := by omega
            rcases this with rfl | rfl | rfl <;> omega⟩
          rw [dec_neg m (by omega)]
          have hd : decN m = [UInt8.ofNat (48 + m / 10), UInt8.ofNat (48 + m % 10)] := by unfold decN; rw [if_pos (by omega)]
          rw [hd]
          refine ext_mk (l := [45, UInt8.ofNat (48 + m / 10), UInt8.ofNat (48 + m % 10)]) (by simp; omega) (fun j hj => ?_)
          have : j = 0 ∨ j = 1 ∨ j = 2 := by simp at hj; omega
          rcases this with rfl | rfl | rfl
          · simpa using h45
          · show g s (f + 1) = (UInt8.ofNat (48 + m / 10)).toNat
            rw [ofNat_toNat (by omega)]; omega
          · show g s (f + 2) = (UInt8.ofNat (48 + m % 10)).toNat
            rw [ofNat_toNat (by omega)]; omega
        · simp only [Option.some.injEq, Prod.mk.injEq] at h
          obtain ⟨rfl, rfl⟩ := h
          generalize hm : g s (f + 1) - 48 = m
          refine ⟨by omega, by omega, ?_, by omega, by omega, fun i a b => by
            have : i = f ∨ i = f + 1 := by omega
            rcases this with rfl | rfl <;> omega⟩
          rw [dec_neg m (by omega)]
          have hd : decN m = [UInt8.ofNat (48 + m)] := by unfold decN; rw [if_neg (by omega), Nat.mod_eq_of_lt (by omega)]
          rw [hd]
          refine ext_mk (l := [45, UInt8.ofNat (48 + m)]) (by simp; omega) (fun j hj => ?_)
          have : j = 0 ∨ j = 1 := by simp at hj; omega
          rcases this with rfl | rfl
          · simpa using h45
          · show g s (f + 1) = (UInt8.ofNat (48 + m)).toNat
            rw [ofNat_toNat (by omega)]; omega
      · cases h
    · split at h
      · rename_i h1
        have hs1 := in_of (s := s) (i := f) (by omega)
        split at h
        · rename_i h2
          have hs2 := in_of (s := s) (i := f + 1) (by omega)
          simp only [Option.some.injEq, Prod.mk.injEq] at h
          obtain ⟨rfl, rfl⟩ := h
          generalize hm : 10 * (g s f - 48) + (g s (f + 1) - 48) = m
          refine ⟨by omega, by omega, ?_, by omega, by omega, fun i a b => by
            have : i = f ∨ i = f + 1 := by omega
            rcases this with rfl | rfl <;> omega⟩
          rw [dec_nat m]
          have hd : decN m = [UInt8.ofNat (48 + m / 10), UInt8.ofNat (48 + m % 10)] := by unfold decN; rw [if_pos (by omega)]
          rw [hd]
          refine ext_mk (l := [UInt8.ofNat (48 + m / 10), UInt8.ofNat (48 + m % 10)]) (by simp; omega) (fun j hj => ?_)
          have : j = 0 ∨ j = 1 := by simp at hj; omega
          rcases this with rfl | rfl
          · show g s (f + 0) = (UInt8.ofNat (48 + m / 10)).toNat
            rw [ofNat_toNat (by omega), Nat.add_zero]; omega
          · show g s (f + 1) = (UInt8.ofNat (48 + m % 10)).toNat
            rw [ofNat_toNat (by omega)]; omega
        · simp only [Option.some.injEq, Prod.mk.injEq] at h
          obtain ⟨rfl, rfl⟩ := h
          generalize hm : g s f - 48 = m
          refine ⟨by omega, by omega, ?_, by omega, by omega, fun i a b => by rw [show i = f by omega]; omega⟩
          rw [dec_nat m]
          have hd : decN m = [UInt8.ofNat (48 + m)] := by unfold decN; rw [if_neg (by omega), Nat.mod_eq_of_lt (by omega)]
          rw [hd]
          refine ext_mk (l := [UInt8.ofNat (48 + m)]) (by simp; omega) (fun j hj => ?_)
          have : j = 0 := by simpa using hj
          subst this
          show g s (f + 0) = (UInt8.ofNat (48 + m)).toNat
          rw [ofNat_toNat (by omega), Nat.add_zero]; omega
      · cases h
theorem numer_dec {t : ByteArray} {n : Int} (h : numer t = some n) : t = dec n ∧ -99 ≤ n ∧ n ≤ 99 := by
  have hr := numer_range h
  refine ⟨?_, hr⟩
  unfold numer at h
  obtain ⟨i, hi, rfl⟩ := Option.map_eq_some_iff.1 h
  simpa using List.find?_some hi
/-- Where the number ends at a comma or at the end, it is the piece's. -/
theorem numer_at {s : ByteArray} {f p : Nat} {n : Int} (h : rdN s f = some (n, p)) (hb : p = s.size ∨ g s p = 44) : numer (s.extract f p) = some n := by
  obtain ⟨h1, h2, h3, h4, h5, -⟩ := rdN_dec h
  cases hn : numer (s.extract f p) with
  | none =>
    exfalso
    unfold numer at hn
    rw [Option.map_eq_none_iff, List.find?_eq_none] at hn
    have := hn (n + 99).toNat (by simp; omega)
    simp at this
    exact this (by rw [h3]; congr 1; omega)
  | some m =>
    obtain ⟨k1, k2, k3⟩ := numer_dec hn
    have := rdN_of (by omega) h2 hb k1 k2 k3
    rw [h] at this
    simp at this
    rw [this]
theorem next_comma {s : ByteArray} (f : Nat) (hf : f ≤ s.size) : ∃ e, f ≤ e ∧ e ≤ s.size ∧ (e = s.size ∨ g s e = 44) ∧ ∀ i, f ≤ i → i < e → g s i ≠ 44 := by
  obtain ⟨d, hd⟩ : ∃ d, s.size - f = d := ⟨_, rfl⟩
  induction d generalizing f with
  | zero => exact ⟨f, by omega, hf, .inl (by omega), fun i a b => by omega⟩
  | succ d ih =>
    by_cases h : g s f = 44
    · exact ⟨f, by omega, hf, .inr h, fun i a b => by omega⟩
    · obtain ⟨e, h1, h2, h3, h4⟩ := ih (f + 1) (by omega) (by omega)
      refine ⟨e, by omega, h2, h3, fun i a b => ?_⟩
      by_cases e1 : i = f
      · subst e1; exact h
      · exact h4 i (by omega) b
theorem inpSt_stay {s : ByteArray} {f : Nat} {l : List Int} (h : inpSt s f = some (f, l)) : ∀ e, f ≤ e → e ≤ s.size → (∀ i, f ≤ i → i < e → g s i ≠ 44) → inpSt s e = some (f, l) := by
  intro e
  induction e with
  | zero =>
    intro h1 _ _; have : f = 0 := by omega
    subst this; exact h
  | succ e ih =>
    intro h1 h2 h3
    by_cases e1 : f = e + 1
    · subst e1; exact h
    · exact inpSt_on (ih (by omega) (by omega) (fun i a b => h3 i a (by omega))) (by have := h3 e (by omega) (by omega); omega)
/-- A number and a comma. -/
theorem inp_comma {s : ByteArray} {f p : Nat} {n : Int} {l : List Int} (h : inpSt s f = some (f, l)) (hr : rdN s f = some (n, p)) (hc : g s p = 44) : inpSt s (p + 1) = some (p + 1, l ++ [n]) := by
  obtain ⟨h1, h2, -, -, -, h6⟩ := rdN_dec hr
  exact inpSt_num (inpSt_stay h p (by omega) h2 h6) (.inr hc) (numer_at hr (.inr hc))
/-- A number and the end. -/
theorem inp_last {s : ByteArray} {f : Nat} {n : Int} {l : List Int} (h0 : s.size ≠ 0) (h : inpSt s f = some (f, l)) (hr : rdN s f = some (n, s.size)) : inps s = some (l ++ [n]) := by
  obtain ⟨h1, h2, -, -, -, h6⟩ := rdN_dec hr
  exact inps_good h0 (inpSt_num (inpSt_stay h s.size (by omega) h2 h6) (.inl rfl) (numer_at hr (.inl rfl)))
/-- No number, or something behind it. -/
theorem inp_bad {s : ByteArray} {f : Nat} {l : List Int} (h0 : s.size ≠ 0) (hf : f ≤ s.size) (h : inpSt s f = some (f, l)) (hr : ∀ n p, rdN s f = some (n, p) → p ≠ s.size ∧ g s p ≠ 44) : inps s = none := by
  obtain ⟨e, h1, h2, h3, h4⟩ := next_comma f hf
  refine inps_bad h0 h2 (inpSt_stay h e h1 h2 h4) h3 ?_
  cases hn : numer (s.extract f e) with
  | none => rfl
  | some m =>
    exfalso
    obtain ⟨k1, k2, k3⟩ := numer_dec hn
    have := hr m e (rdN_of h1 h2 h3 k1 k2 k3)
    rcases h3 with h3 | h3
    · exact this.1 h3
    · exact this.2 h3
end Go.Proofs.YtmnfndpbblpjiaaDoor.Pu

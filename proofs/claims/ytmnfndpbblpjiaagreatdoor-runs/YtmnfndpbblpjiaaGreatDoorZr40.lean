/- The program's execute. -/
import Derived.Test.YtmnfndpbblpjiaaGreatDoorZr36
import Derived.Test.YtmnfndpbblpjiaaGreatDoorZr38
import Derived.Test.YtmnfndpbblpjiaaGreatDoorZr39
namespace Go.Proofs.YtmnfndpbblpjiaaGreatDoor
open Go.RowKit Pu
set_option maxHeartbeats 800000 in
set_option maxRecDepth 4000 in
theorem execute_any (B nn : Nat) (hB : B = 10 ^ nn) (hnn : nn = 8000) (r i : Nat) (v iv : Value) (l : List Stp) (ins : List Int) (base ibase : Nat) (w : World) (hl : l.length ≤ 3000) (hL : PLst w base v l) (hI : w.ownsRow ibase 3 1 iv ins.length (zvs ins)) (hn : ins.length ≤ 1000) (hi : ∀ x ∈ ins,-100 < x ∧ x < 100) (hg : ∀ t ∈ l,Good ins.length t) :
  Calls Tryz.prog 64 #[.agg #[.int .u8 r,.int .u8 i,v],iv] w fun e w' => e = .returned (.tuple #[.string (play B ins l (List.replicate 128 0) ⟨#[]⟩).1,.int .i64 (play B ins l (List.replicate 128 0) ⟨#[]⟩).2]) ∧ Mod (fun _ => False) w w' := by
 obtain ⟨ao,cap,rfl,-⟩ := owns_form hL
 obtain ⟨io,icap,rfl,-⟩ := owns_form hI
 have HG : Hid (∀ t ∈ l,Good ins.length t) := hg
 have HI : Hid (∀ x ∈ ins,-100 < x ∧ x < 100) := hi
 have HB : Hid (B = 10 ^ nn) := hB
 have HNN : Hid (nn = 8000) := hnn
 have HP : Hid (play B ins (l.drop 0) (List.replicate 128 0) ⟨([] : List UInt8).toArray⟩ = play B ins l (List.replicate 128 0) ⟨#[]⟩) := rfl
 generalize play B ins l (List.replicate 128 0) ⟨#[]⟩ = pr at *
 clear hg hi hB hnn
 obtain ⟨a1,a2⟩ := alloc2_at w (.cells #[.int .u8 r,.int .u8 i,.slice ao l.length cap] 52) (.cells Tryz.zeroCells162 162)
 have hm0 : Mod (fun _ => False) w ((w.alloc (.cells #[.int .u8 r,.int .u8 i,.slice ao l.length cap] 52)).alloc (.cells Tryz.zeroCells162 162)) := ((Mod.refl _ w).alloc _).alloc _
 have HA : Hid _ := a2
 have hms := setRow_new (C := Tryz.zeroCells162.setIfInBounds 0 (.slice io ins.length icap)) hm0 (b := w.heap.size + 1) (by omega)
 have hst := setRow_at (C' := Tryz.zeroCells162.setIfInBounds 0 (.slice io ins.length icap)) a2
 have hpp := (setRow_mod ((w.alloc (.cells #[.int .u8 r,.int .u8 i,.slice ao l.length cap] 52)).alloc (.cells Tryz.zeroCells162 162)) (w.heap.size + 1) (Tryz.zeroCells162.setIfInBounds 0 (.slice io ins.length icap))).keep a1 (by omega)
 obtain ⟨-,-,p2⟩ := cells3 hpp
 have HH : Hid _ := And.intro hms (Mc.start hst)
 clear a1 a2 hm0 hms hst hpp
 go_enter Tryz.func64,Tryz.ntmps64
 go_wp2_with (refine wpList_store_row rfl 162 _ _ rfl _ Tryz.zeroCells162 (Tryz.zeroCells162.setIfInBounds 0 (.slice io ins.length icap)) 162 rfl rfl ?hb1 (by rw [Array.size_setIfInBounds,Tryz.zeroCells162_size]; exact Tryz.infoMc) (by simp) (m0_one _ rfl) ?_; case hb1 => exact HA.out)
 generalize ((w.alloc (.cells #[.int .u8 r,.int .u8 i,.slice ao l.length cap] 52)).alloc (.cells Tryz.zeroCells162 162)).setRow (w.heap.size + 1) (Tryz.zeroCells162.setIfInBounds 0 (.slice io ins.length icap)) = W1 at *
 obtain ⟨hm1,hM1⟩ := HH.out
 clear HH HA p2
 go_loopw [14] (fun kv wr => ∃ (k : Nat) (R : List Int) (bs : List UInt8),k ≤ l.length ∧ kv = .int .i64 k ∧ Hid (R.length = 128) ∧ bs.length ≤ k ∧ Mc wr (w.heap.size + 1) (.slice io ins.length icap) R bs false ∧ Hid (play B ins (l.drop k) R ⟨bs.toArray⟩ = pr) ∧ Mod (fun _ => False) w wr) (fun kv _ => l.length - (intOf kv).toNat)
 case atStart => exact ⟨0,_,[],by omega,rfl,show _ = _ by simp,by simp,hM1,HP,hm1⟩
 case round =>
  clear hM1 hm1 HP
  obtain ⟨k,R,bs,hk,rfl,HR,hbs,hM,HP,hm⟩ := hrel
  by_cases hlt : k < l.length
  ·have hLr := hL.mod hm
   obtain ⟨gb,rfl,c0,c1,c2,c3⟩ := hLr.cell hlt
   have HD : Hid (l.drop k = l[k] :: l.drop (k + 1)) := List.drop_eq_getElem_cons hlt
   have HGt : Hid (Good ins.length l[k]) := HG.out _ (List.getElem_mem hlt)
   have hIr := owns_mod hI hm (fun _ _ f => f)
   obtain ⟨hsm,h7,hx,-,-,-,hst⟩ := HGt.out
   have HST : Hid _ := hst
   clear hst hLr
   generalize l[k] = t at *
   have hrl := hM.lt
   have hmA : Mod (fun _ => False) wr (wr.alloc (.cells #[.int .u8 t.op,.int .u8 t.x,.int .u8 t.y,.int .u8 t.z] 107)) := (Mod.refl _ wr).alloc _
   have hMA := hM.mod hmA
   by_cases h6 : t.op < 6
   ·have hd := mdo_set B nn HB.out HNN.out t (w.heap.size + 1) (.slice io ins.length icap) R ins ibase bs _ hMA HR.out HGt.out h6 (owns_mod hIr hmA (fun _ _ f => f)) hn HI.out
    have HBIG : Hid (B ≤ (Pu.valOf t R ins).natAbs → pr = (⟨#[]⟩,10)) := fun h => by rw [← HP.out,HD.out]; exact play_big h6 h
    have HSET : Hid (¬ B ≤ (Pu.valOf t R ins).natAbs → play B ins (l.drop (k + 1)) (R.set t.x (Pu.valOf t R ins)) ⟨bs.toArray⟩ = pr) := fun h => by rw [← HP.out,HD.out]; exact (play_set h6 h).symm
    have hmA2 := hm.trans hmA
    clear hM hMA HP HD HST hIr hmA
    generalize Pu.valOf t R ins = val at *
    go_wp2_with fail
    refine hd.mono ?_
    rintro e w2 ⟨hm2,hc⟩
    have hm3 : Mod (fun _ => False) w w2 := ((hmA2.mono (q := fun q => q = w.heap.size + 1) (fun _ _ f => f.elim)).trans hm2).mono (fun q hq h => by omega)
    rcases hc with ⟨hb,rfl⟩ | ⟨hb,rfl,hM2⟩
    ·have HE : Hid (pr = (⟨#[]⟩,10)) := HBIG.out hb
     clear HBIG HSET hd hm2
     go_wp2_with fail
     go_ret2
     exact ⟨by rw [HE.out]; rfl,hm3⟩
    ·have HP2 := HSET.out hb
     have HP2 : Hid _ := HP2
     have c514 := hM2.ended
     have HR2 : Hid ((R.set t.x val).length = 128) := show _ = _ by simpa using HR.out
     have HM2 : Hid _ := hM2
     clear HBIG HSET hd hm2 hM2
     go_wp2_with fail
     go_roundw
     case rel => exact ⟨k + 1,_,bs,by omega,by go_num,HR2,by omega,HM2.out,HP2.out,hm3⟩
     case measure => simp [intOf]; omega
   ·by_cases h66 : t.op = 6
    ·have hd := mdo_out t (w.heap.size + 1) (.slice io ins.length icap) R bs _ hMA hsm h66 (by omega)
     have HP2 : Hid (play B ins (l.drop (k + 1)) R ⟨(bs ++ [ansB (reg R t.x)]).toArray⟩ = pr) := show _ = _ by
      rw [← HP.out,HD.out,play_out h66]
      congr 1
     have hmA2 := hm.trans hmA
     clear hM hMA HP HD HST hIr hmA h66 h6
     go_wp2_with fail
     refine hd.mono ?_
     rintro e w2 ⟨rfl,hm2,hM2⟩
     have hm3 : Mod (fun _ => False) w w2 := ((hmA2.mono (q := fun q => w.heap.size + 1 ≤ q) (fun _ _ f => f.elim)).trans hm2).mono (fun q hq h => by omega)
     have c514 := hM2.ended
     have HM2 : Hid _ := hM2
     have hbl : (bs ++ [ansB (reg R t.x)]).length ≤ k + 1 := by simp; omega
     clear hd hm2 hM2
     go_wp2_with fail
     go_roundw
     case rel => exact ⟨k + 1,R,_,by omega,by go_num,HR,hbl,HM2.out,HP2,hm3⟩
     case measure => simp [intOf]; omega
    ·have h77 : t.op = 7 := by omega
     by_cases hz : reg R t.x = 0
     ·obtain ⟨hy3,hz16⟩ := HST.out h77
      have hd := mdo_end t (w.heap.size + 1) (.slice io ins.length icap) R bs _ hMA hsm h77 hz hy3 hz16 (by omega)
      have HE : Hid (pr = (⟨(bs ++ [spc t.y] ++ (dec (t.z : Int)).data.toList).toArray⟩,0)) := show _ = _ by
       rw [← HP.out,HD.out,play_end (by omega) hz]
       congr 1
      have hmA2 := hm.trans hmA
      clear hM hMA HP HD HST hIr hmA h66 h6 hz h77
      generalize bs ++ [spc t.y] ++ (dec (t.z : Int)).data.toList = bs2 at *
      go_wp2_with fail
      refine hd.mono ?_
      rintro e w2 ⟨rfl,hm2,c514,ro,rn,rcap,c513,hrow,hrn⟩
      subst hrn
      have hm3 : Mod (fun _ => False) w w2 := ((hmA2.mono (q := fun q => w.heap.size + 1 ≤ q) (fun _ _ f => f.elim)).trans hm2).mono (fun q hq h => by omega)
      have hcv := convert_owned (P := Tryz.prog) hrow rfl Tryz.underlying75 Tryz.underlying5 Tryz.underlying9
      clear hd hm2 hmA2
      go_wp2_with fail
      go_ret2
      exact ⟨by rw [HE.out]; rfl,hm3⟩
     ·have hd := mdo_on t (w.heap.size + 1) (.slice io ins.length icap) R bs _ hMA hsm h77 hz
      have HP2 : Hid (play B ins (l.drop (k + 1)) R ⟨bs.toArray⟩ = pr) := show _ = _ by
       rw [← HP.out,HD.out,play_on (by omega) hz]
      clear hM HP HD HST hIr h66 h6 hz h77
      have HMA : Hid _ := And.intro hMA (hm.trans hmA)
      clear hMA hmA hm
      go_wp2_with fail
      refine hd.mono ?_
      rintro e w2 ⟨rfl,hm2⟩
      have hM2 := HMA.out.1.mod hm2
      have hm3 := HMA.out.2.trans hm2
      have c514 := hM2.ended
      have HM2 : Hid _ := hM2
      clear hd hm2 hM2 HMA
      go_wp2_with fail
      go_roundw
      case rel => exact ⟨k + 1,R,bs,by omega,by go_num,HR,by omega,HM2.out,HP2,hm3⟩
      case measure => simp [intOf]; omega
  ·have hks : l.drop k = [] := List.drop_eq_nil_of_le (by omega)
   have HE : Hid (pr = (⟨bs.toArray⟩,0)) := show pr = _ by rw [← HP.out,hks]; rfl
   obtain ⟨ro,rn,rcap,c513,hrow,hrn⟩ := hM.rep
   subst hrn
   have hcv := convert_owned (P := Tryz.prog) hrow rfl Tryz.underlying75 Tryz.underlying5 Tryz.underlying9
   clear hks hM
   go_wp2_with fail
   go_ret2
   exact ⟨by rw [HE.out]; rfl,hm⟩
def NumRd (w : World) (rb : Nat) (s : ByteArray) (k : Nat) (e : Ending) (w' : World) : Prop := Mod (fun q => q = rb) w w' ∧
 ((∃ n p,rdN s k = some (n,p) ∧ e = .returned (.tuple #[.int .i64 n,.bool true]) ∧ Rd w' rb s p) ∨ (rdN s k = none ∧ e = .returned (.tuple #[.int .i64 0,.bool false])))
def tailN (s : ByteArray) (k : Nat) (neg : Bool) : Option (Int × Nat) :=
 if 49 ≤ g s k ∧ g s k ≤ 57 then
  (if 48 ≤ g s (k + 1) ∧ g s (k + 1) ≤ 57 then some ((if neg then -((10 * (g s k - 48) + (g s (k + 1) - 48) : Nat) : Int) else ((10 * (g s k - 48) + (g s (k + 1) - 48) : Nat) : Int)),k + 2) else some ((if neg then -((g s k - 48 : Nat) : Int) else ((g s k - 48 : Nat) : Int)),k + 1))
 else none
theorem rdN_zero {s : ByteArray} {k : Nat} (h : g s k = 48) : rdN s k = some (0,k + 1) := by unfold rdN; rw [if_pos h]
theorem rdN_neg {s : ByteArray} {k : Nat} (h : g s k = 45) : rdN s k = tailN s (k + 1) true := by unfold rdN tailN; rw [if_neg (by omega),if_pos h]; simp
theorem rdN_pos {s : ByteArray} {k : Nat} (h : g s k ≠ 48) (h2 : g s k ≠ 45) : rdN s k = tailN s k false := by unfold rdN tailN; rw [if_neg h,if_neg h2]; simp
set_option maxHeartbeats 800000 in
set_option maxRecDepth 4000 in
theorem readnum_any (rb : Nat) (s : ByteArray) (k : Nat) (w : World) (hs : s.size ≤ 300) (hk : k ≤ s.size) (hr : Rd w rb s k) :
  Calls Tryz.prog 108 #[.pointer (some ⟨rb,0,none⟩)] w (NumRd w rb s k) := by
 by_cases h48 : g s k = 48
 ·have HR : Hid _ := rdN_zero h48
  go_enter Tryz.func108,Tryz.ntmps108
  go_wp2_with fail
  refine (take_yes rb s k 48 w hs hk hr (by omega) h48).mono ?_
  rintro e w1 ⟨rfl,hr1,hk1,hm1⟩
  go_wp2_with fail
  go_ret2
  exact ⟨hm1,.inl ⟨0,k + 1,HR.out,rfl,hr1⟩⟩
 ·by_cases h45 : g s k = 45
  ·have HR : Hid (rdN s k = tailN s (k + 1) true) := rdN_neg h45
   go_enter Tryz.func108,Tryz.ntmps108
   go_wp2_with fail
   refine (take_no rb s k 48 w hs hk hr h48).mono ?_
   rintro e w1 ⟨rfl,hr1,hm1⟩
   go_wp2_with fail
   refine (take_yes rb s k 45 w1 hs hk hr1 (by omega) h45).mono ?_
   rintro e w2 ⟨rfl,hr2,hkk,hm2'⟩
   have hm2 := hm1.trans hm2'
   clear hm1 hm2' hr1 h48 h45
   generalize k + 1 = kk at *
   have hpk := fun (w : World) (j : Nat) (hj : j ≤ s.size) (h : Rd w rb s j) => peek_any rb s j w hs hj h
   go_wp2_with fail
   refine (hpk w2 kk hkk hr2).mono ?_
   rintro e w3 ⟨rfl,n3,rfl⟩
   have hm3 : Mod (fun q => q = rb) w (w2.drewN n3) := hm2.drewN n3
   have hr3 := hr2.drewN n3
   have gl := g_lt s kk
   have gl2 := g_lt s (kk + 1)
   clear hm2 hr2
   generalize w2.drewN n3 = w3 at *
   by_cases ha : 49 ≤ g s kk ∧ g s kk ≤ 57
   ·have hkl : kk < s.size := in_of (by omega)
    have q1 : ¬ (g s kk : Int) < 49 := by omega
    have q2 : ¬ (57 : Int) < (g s kk : Int) := by omega
    have t1 := hr3.c1
    have f1 := hr3.f1
    have hr4 := hr3.set (kk + 1)
    have hm4 : Mod (fun q => q = rb) w (w3.setCell ⟨rb,1,none⟩ (.int .i64 ((kk + 1 : Nat) : Int))) := hm3.setCell ⟨rb,1,none⟩ _ (fun _ => rfl)
    have e4 : ((kk + 1 : Nat) : Int) = (kk : Int) + 1 := by omega
    rw [e4] at hr4 hm4
    have HX : Hid _ := And.intro hr4 hm4
    have w5 : IntKind.u8.wrap ((g s kk : Int) - 48) = (g s kk : Int) - 48 := by simp [IntKind.wrap,IntKind.signed,IntKind.bits]; omega
    have w6 : IntKind.i64.wrap ((g s kk : Int) - 48) = (g s kk : Int) - 48 := by simp [IntKind.wrap,IntKind.signed,IntKind.bits]; omega
    clear hr4 hm4 e4
    go_wp2_with fail
    obtain ⟨hr4,hm4⟩ := HX.out
    refine (hpk _ (kk + 1) (by omega) hr4).mono ?_
    rintro e w5' ⟨rfl,n5,rfl⟩
    have hm5 := hm4.drewN n5
    have hr5 := hr4.drewN n5
    clear hr4 hm4 HX t1 f1 hr3 hm3
    generalize (w3.setCell ⟨rb,1,none⟩ (.int .i64 ((kk : Int) + 1))).drewN n5 = w6' at *
    by_cases hb : 48 ≤ g s (kk + 1) ∧ g s (kk + 1) ≤ 57
    ·have q3 : (48 : Int) ≤ (g s (kk + 1) : Int) := by omega
     have q4 : (g s (kk + 1) : Int) ≤ 57 := by omega
     have hkl2 : kk + 1 < s.size := in_of (by omega)
     have t1 := hr5.c1
     have f1 := hr5.f1
     have hr7 := hr5.set (kk + 2)
     have hm7 : Mod (fun q => q = rb) w (w6'.setCell ⟨rb,1,none⟩ (.int .i64 ((kk + 2 : Nat) : Int))) := hm5.setCell ⟨rb,1,none⟩ _ (fun _ => rfl)
     have e4 : ((kk + 2 : Nat) : Int) = (kk : Int) + 1 + 1 := by omega
     rw [e4] at hr7 hm7
     have HX : Hid _ := And.intro hr7 hm7
     have w7 : IntKind.u8.wrap ((g s (kk + 1) : Int) - 48) = (g s (kk + 1) : Int) - 48 := by simp [IntKind.wrap,IntKind.signed,IntKind.bits]; omega
     have w8 : IntKind.i64.wrap ((g s (kk + 1) : Int) - 48) = (g s (kk + 1) : Int) - 48 := by simp [IntKind.wrap,IntKind.signed,IntKind.bits]; omega
     have HT : Hid (tailN s kk true = some (-((10 : Int) * ((g s kk : Int) - 48) + ((g s (kk + 1) : Int) - 48)),kk + 2)) := show _ = _ by
      unfold tailN; rw [if_pos ha,if_pos hb]; simp; omega
     clear hr7 hm7 hm5 hr5 e4
     go_wp2_with fail
     go_ret2
     exact ⟨HX.out.2,.inl ⟨_,kk + 2,HR.out.trans HT.out,rfl,HX.out.1⟩⟩
    ·have HT : Hid (tailN s kk true = some (-((g s kk : Int) - 48),kk + 1)) := show _ = _ by
      unfold tailN; rw [if_pos ha,if_neg hb]; simp; omega
     by_cases hb1 : 48 ≤ g s (kk + 1)
     ·have q3 : (48 : Int) ≤ (g s (kk + 1) : Int) := by omega
      have q4 : ¬ (g s (kk + 1) : Int) ≤ 57 := by omega
      go_wp2_with fail
      go_ret2
      exact ⟨hm5,.inl ⟨_,kk + 1,HR.out.trans HT.out,rfl,hr5⟩⟩
     ·have q3 : ¬ (48 : Int) ≤ (g s (kk + 1) : Int) := by omega
      go_wp2_with fail
      go_ret2
      exact ⟨hm5,.inl ⟨_,kk + 1,HR.out.trans HT.out,rfl,hr5⟩⟩
   ·have HT : Hid (tailN s kk true = none) := show _ = _ by unfold tailN; rw [if_neg ha]
    by_cases ha1 : g s kk < 49
    ·have q1 : (g s kk : Int) < 49 := by omega
     go_wp2_with fail
     go_ret2
     exact ⟨hm3,.inr ⟨HR.out.trans HT.out,rfl⟩⟩
    ·have q1 : ¬ (g s kk : Int) < 49 := by omega
     have q2 : (57 : Int) < (g s kk : Int) := by omega
     go_wp2_with fail
     go_ret2
     exact ⟨hm3,.inr ⟨HR.out.trans HT.out,rfl⟩⟩
  ·have HR : Hid (rdN s k = tailN s k false) := rdN_pos h48 h45
   go_enter Tryz.func108,Tryz.ntmps108
   go_wp2_with fail
   refine (take_no rb s k 48 w hs hk hr h48).mono ?_
   rintro e w1 ⟨rfl,hr1,hm1⟩
   go_wp2_with fail
   refine (take_no rb s k 45 w1 hs hk hr1 h45).mono ?_
   rintro e w2 ⟨rfl,hr2,hm2'⟩
   have hm2 := hm1.trans hm2'
   clear hm1 hm2' hr1 h48 h45
   have hpk := fun (w : World) (j : Nat) (hj : j ≤ s.size) (h : Rd w rb s j) => peek_any rb s j w hs hj h
   go_wp2_with fail
   refine (hpk w2 k hk hr2).mono ?_
   rintro e w3 ⟨rfl,n3,rfl⟩
   have hm3 : Mod (fun q => q = rb) w (w2.drewN n3) := hm2.drewN n3
   have hr3 := hr2.drewN n3
   have gl := g_lt s k
   have gl2 := g_lt s (k + 1)
   clear hm2 hr2
   generalize w2.drewN n3 = w3 at *
   by_cases ha : 49 ≤ g s k ∧ g s k ≤ 57
   ·have hkl : k < s.size := in_of (by omega)
    have q1 : ¬ (g s k : Int) < 49 := by omega
    have q2 : ¬ (57 : Int) < (g s k : Int) := by omega
    have t1 := hr3.c1
    have f1 := hr3.f1
    have hr4 := hr3.set (k + 1)
    have hm4 : Mod (fun q => q = rb) w (w3.setCell ⟨rb,1,none⟩ (.int .i64 ((k + 1 : Nat) : Int))) := hm3.setCell ⟨rb,1,none⟩ _ (fun _ => rfl)
    have e4 : ((k + 1 : Nat) : Int) = (k : Int) + 1 := by omega
    rw [e4] at hr4 hm4
    have HX : Hid _ := And.intro hr4 hm4
    have w5 : IntKind.u8.wrap ((g s k : Int) - 48) = (g s k : Int) - 48 := by simp [IntKind.wrap,IntKind.signed,IntKind.bits]; omega
    have w6 : IntKind.i64.wrap ((g s k : Int) - 48) = (g s k : Int) - 48 := by simp [IntKind.wrap,IntKind.signed,IntKind.bits]; omega
    clear hr4 hm4 e4
    go_wp2_with fail
    obtain ⟨hr4,hm4⟩ := HX.out
    refine (hpk _ (k + 1) (by omega) hr4).mono ?_
    rintro e w5' ⟨rfl,n5,rfl⟩
    have hm5 := hm4.drewN n5
    have hr5 := hr4.drewN n5
    clear hr4 hm4 HX t1 f1 hr3 hm3
    generalize (w3.setCell ⟨rb,1,none⟩ (.int .i64 ((k : Int) + 1))).drewN n5 = w6' at *
    by_cases hb : 48 ≤ g s (k + 1) ∧ g s (k + 1) ≤ 57
    ·have q3 : (48 : Int) ≤ (g s (k + 1) : Int) := by omega
     have q4 : (g s (k + 1) : Int) ≤ 57 := by omega
     have hkl2 : k + 1 < s.size := in_of (by omega)
     have t1 := hr5.c1
     have f1 := hr5.f1
     have hr7 := hr5.set (k + 2)
     have hm7 : Mod (fun q => q = rb) w (w6'.setCell ⟨rb,1,none⟩ (.int .i64 ((k + 2 : Nat) : Int))) := hm5.setCell ⟨rb,1,none⟩ _ (fun _ => rfl)
     have e4 : ((k + 2 : Nat) : Int) = (k : Int) + 1 + 1 := by omega
     rw [e4] at hr7 hm7
     have HX : Hid _ := And.intro hr7 hm7
     have w7 : IntKind.u8.wrap ((g s (k + 1) : Int) - 48) = (g s (k + 1) : Int) - 48 := by simp [IntKind.wrap,IntKind.signed,IntKind.bits]; omega
     have w8 : IntKind.i64.wrap ((g s (k + 1) : Int) - 48) = (g s (k + 1) : Int) - 48 := by simp [IntKind.wrap,IntKind.signed,IntKind.bits]; omega
     have HT : Hid (tailN s k false = some ((10 : Int) * ((g s k : Int) - 48) + ((g s (k + 1) : Int) - 48),k + 2)) := show _ = _ by
      unfold tailN; rw [if_pos ha,if_pos hb]; simp; omega
     clear hr7 hm7 hm5 hr5 e4
     go_wp2_with fail
     go_ret2
     exact ⟨HX.out.2,.inl ⟨_,k + 2,HR.out.trans HT.out,rfl,HX.out.1⟩⟩
    ·have HT : Hid (tailN s k false = some ((g s k : Int) - 48,k + 1)) := show _ = _ by
      unfold tailN; rw [if_pos ha,if_neg hb]; simp; omega
     by_cases hb1 : 48 ≤ g s (k + 1)
     ·have q3 : (48 : Int) ≤ (g s (k + 1) : Int) := by omega
      have q4 : ¬ (g s (k + 1) : Int) ≤ 57 := by omega
      go_wp2_with fail
      go_ret2
      exact ⟨hm5,.inl ⟨_,k + 1,HR.out.trans HT.out,rfl,hr5⟩⟩
     ·have q3 : ¬ (48 : Int) ≤ (g s (k + 1) : Int) := by omega
      go_wp2_with fail
      go_ret2
      exact ⟨hm5,.inl ⟨_,k + 1,HR.out.trans HT.out,rfl,hr5⟩⟩
   ·have HT : Hid (tailN s k false = none) := show _ = _ by unfold tailN; rw [if_neg ha]
    by_cases ha1 : g s k < 49
    ·have q1 : (g s k : Int) < 49 := by omega
     go_wp2_with fail
     go_ret2
     exact ⟨hm3,.inr ⟨HR.out.trans HT.out,rfl⟩⟩
    ·have q1 : ¬ (g s k : Int) < 49 := by omega
     have q2 : (57 : Int) < (g s k : Int) := by omega
     go_wp2_with fail
     go_ret2
     exact ⟨hm3,.inr ⟨HR.out.trans HT.out,rfl⟩⟩
def PIx (s : ByteArray) (more : Bool) (f : Nat) (l : List Int) : Prop :=
 (more = true → inpSt s f = some (f,l) ∧ s.size ≠ 0) ∧ (more = false → (f = s.size → inps s = some l) ∧ (f ≠ s.size → inps s = none))
def moreOf : Value → Nat
 | .bool true => 1
 | _ => 0
set_option maxHeartbeats 800000 in
set_option maxRecDepth 4000 in
theorem pinputs_any (s : ByteArray) (w : World) (hs : s.size ≤ 140) : Calls Tryz.prog 63 #[.string s] w (InpEnd w (inps s)) := by
 obtain ⟨i0,hii,hz0,hz1,hz2⟩ := info_parts Tryz.info3
 have hR0 : Rd (w.alloc (.cells #[.string s,.int .i64 0] 138)) w.heap.size s 0 := by unfold Rd; show (w.heap.push _)[w.heap.size]? = _; simp
 have hm0 : Mod (fun _ => False) w (w.alloc (.cells #[.string s,.int .i64 0] 138)) := (Mod.refl _ w).alloc _
 have HH : Hid _ := And.intro hR0 hm0
 clear hR0 hm0
 obtain ⟨mb,hmb,HPI⟩ : ∃ mb : Bool,(!s.toList.isEmpty) = mb ∧ Hid (PIx s mb 0 []) := by
  refine ⟨_,rfl,?_⟩
  by_cases h0 : s.size = 0
  ·have : s.toList = [] := by
    have e : s = ⟨#[]⟩ := by apply ByteArray.ext; exact Array.eq_empty_of_size_eq_zero h0
    rw [e,show (⟨#[]⟩ : ByteArray) = ⟨([] : List UInt8).toArray⟩ from rfl,ByteArray.toList_mk]
   rw [this]
   exact ⟨fun h => by simp at h,fun _ => ⟨fun _ => by simp [inps,h0],fun h => absurd h0.symm h⟩⟩
  ·have : (!s.toList.isEmpty) = true := by
    simp
    intro h
    obtain ⟨l,rfl⟩ : ∃ l : List UInt8,s = ⟨l.toArray⟩ := ⟨s.data.toList,by simp⟩
    rw [ByteArray.toList_mk] at h
    exact h0 (by rw [h]; rfl)
   rw [this]
   exact ⟨fun _ => ⟨rfl,h0⟩,fun h => by cases h⟩
 go_enter Tryz.func63,Tryz.ntmps63
 go_wp2_with fail
 generalize w.alloc (.cells #[.string s,.int .i64 0] 138) = W at *
 obtain ⟨hR0,hm0⟩ := HH.out
 clear HH
 have hW := hm0.size
 have hWl := hR0.lt
 go_loopw [5,6] (fun lv mv wr => ∃ (f : Nat) (l : List Int) (more : Bool),mv = .bool more ∧ f ≤ s.size ∧ l.length ≤ f ∧ Rd wr w.heap.size s f ∧ wr.ownsRow (w.heap.size + 1) 3 1 lv l.length (zvs l) ∧ Hid (PIx s more f l) ∧ Mod (fun _ => False) w wr) (fun lv mv _ => moreOf mv * (1000 - sliceLen lv))
 case atStart => exact ⟨0,[],mb,rfl,by omega,by simp,hR0,World.ownsRow_nil _ _ _ _,HPI,hm0⟩
 case round =>
  clear hR0 hm0 HPI hmb
  obtain ⟨f,l,more,rfl,hf,hlf,hr,hO,HP,hm⟩ := hrel
  obtain ⟨lo,lcap,rfl,-⟩ := owns_form hO
  have hrl := hr.lt
  cases more with
  | false =>
   obtain ⟨p1,p2⟩ := HP.out.2 rfl
   have c1 := hr.c1
   by_cases he : f = s.size
   ·have HI : Hid _ := p1 he
    have q1 : ((f : Int) != (s.size : Int)) = false := by rw [he]; simp
    have hE := owns_base (base' := w.heap.size) hO (by omega)
    clear he p1 p2
    go_wp2_with fail
    go_ret2
    rw [HI.out]
    exact inpEnd_some hm hE
   ·have HI : Hid _ := p2 he
    have q1 : ((f : Int) != (s.size : Int)) = true := by simp; omega
    clear he p1 p2
    go_wp2_with fail
    go_ret2
    rw [HI.out]
    exact inpEnd_none hm
  | true =>
   obtain ⟨hst,hs0⟩ := HP.out.1 rfl
   have HST : Hid _ := hst
   clear hst
   go_wp2_with fail
   refine (readnum_any w.heap.size s f wr (by omega) hf hr).mono ?_
   rintro e w2 ⟨hm2,⟨n,p,hrd,rfl,hr2⟩ | ⟨hrd,rfl⟩⟩
   ·obtain ⟨g1,g2,-,g4,g5,-⟩ := rdN_dec hrd
    have hm2w : Mod (fun _ => False) w w2 := ((hm.mono (q := fun q => q = w.heap.size) (fun _ _ f => f.elim)).trans hm2).mono (fun q hq h => by omega)
    have hO2 := owns_mod hO hm2 (fun g h1 h2 => by omega)
    have hrl2 := hr2.lt
    have HRD : Hid _ := hrd
    clear hrd hm hO hm2 hr
    go_wp2_with (at_builtin; refine wpList_append_own _ rfl _ _ 39 rfl (w.heap.size + 1) 3 i0 _ 1 8 Tryz.underlying39 hii hz0 hz1 hz2 rfl (by decide) _ _ _ rfl (hO2.alloc _) ⟨w2.heap.size,0,none⟩ 1 1 [.int .i64 n] rfl rfl ?c1 ?c2 ?c3 ?c4 ?c5 ?_)
    case c1 => exact World.news_of_block (cs := #[.int .i64 n]) (t := 3) (fr := (0,0)) (heap_alloc_new w2 _)
    case c2 => simp [Value.oneCell']
    case c3 => unfold maxLen; omega
    case c4 => omega
    case c5 => simp; omega
    intro v' w4 hown4 hgrow _
    have hgm : Mod (fun i => w.heap.size + 1 ≤ i) w2 w4 := ((Mod.refl _ w2).alloc _).grown hgrow (fun i hi _ => (hO2.lt i hi).1)
    have hr4 : Rd w4 w.heap.size s p := hr2.keep hgm (by omega)
    have hm4 : Mod (fun _ => False) w w4 := ⟨hgm.os.trans hm2w.os,hgm.tape.trans hm2w.tape,hgm.output.trans hm2w.output,Nat.le_trans hm2w.size hgm.size,fun i hi _ => (hgm.block i (by omega) (by omega)).trans (hm2w.block i hi (fun f => f))⟩
    have hO4 : w4.ownsRow (w.heap.size + 1) 3 1 v' (l ++ [n]).length (zvs (l ++ [n])) := by
     have : zvs (l ++ [n]) = zvs l ++ [.int .i64 n] := by simp [zvs]
     rw [this]; simpa using hown4
    obtain ⟨lo4,lcap4,rfl,-⟩ := owns_form hO4
    have hln : (l ++ [n]).length = l.length + 1 := by simp
    have HLN : Hid _ := hln
    have hl4 : (l ++ [n]).length ≤ p := by omega
    clear hown4 hgrow hgm hO2 hm2w hr2 hln
    generalize hnl : (l ++ [n]).length = nl at *
    have HNL : Hid ((l ++ [n]).length = nl) := hnl
    clear hnl
    by_cases hc : g s p = 44
    ·have HPI2 : Hid (PIx s true (p + 1) (l ++ [n])) := ⟨fun _ => ⟨inp_comma HST.out HRD.out hc,hs0⟩,fun h => by cases h⟩
     go_wp2_with fail
     refine (take_yes w.heap.size s p 44 w4 (by omega) g2 hr4 (by omega) hc).mono ?_
     rintro e w5 ⟨rfl,hr5,hk5,hm5⟩
     have hm5w : Mod (fun _ => False) w w5 := ((hm4.mono (q := fun q => q = w.heap.size) (fun _ _ f => f.elim)).trans hm5).mono (fun q hq h => by omega)
     have hO5 := owns_mod hO4 hm5 (fun g h1 h2 => by omega)
     clear hm4 hm5 hO4 hr4 hc
     go_wp2_with fail
     go_roundw
     case rel => exact ⟨p + 1,l ++ [n],true,rfl,hk5,by rw [HNL.out]; omega,hr5,by rw [HNL.out]; exact hO5,HPI2,hm5w⟩
     case measure => have := HLN.out; have := HNL.out; simp [moreOf,sliceLen]; omega
    ·have HPI2 : Hid (PIx s false p (l ++ [n])) := ⟨fun h => (by cases h),fun _ => ⟨fun he => inp_last hs0 HST.out (by rw [← he]; exact HRD.out),fun hne => inp_bad hs0 hf HST.out (fun n' p' h => by
      have := HRD.out
      rw [h] at this
      simp at this
      rw [this.2]; exact ⟨hne,hc⟩)⟩⟩
     go_wp2_with fail
     refine (take_no w.heap.size s p 44 w4 (by omega) g2 hr4 hc).mono ?_
     rintro e w5 ⟨rfl,hr5,hm5⟩
     have hm5w : Mod (fun _ => False) w w5 := ((hm4.mono (q := fun q => q = w.heap.size) (fun _ _ f => f.elim)).trans hm5).mono (fun q hq h => by omega)
     have hO5 := owns_mod hO4 hm5 (fun g h1 h2 => by omega)
     clear hm4 hm5 hO4 hr4 hc
     go_wp2_with fail
     go_roundw
     case rel => exact ⟨p,l ++ [n],false,rfl,g2,by rw [HNL.out]; omega,hr5,by rw [HNL.out]; exact hO5,HPI2,hm5w⟩
     case measure => simp [moreOf,sliceLen]; omega
   ·have HI : Hid (inps s = none) := inp_bad hs0 hf HST.out (fun n p h => by rw [hrd] at h; cases h)
    have hm2w : Mod (fun _ => False) w w2 := ((hm.mono (q := fun q => q = w.heap.size) (fun _ _ f => f.elim)).trans hm2).mono (fun q hq h => by omega)
    clear hrd hm2 hm hO hr
    go_wp2_with fail
    go_ret2
    rw [HI.out]
    exact inpEnd_none hm2w
def stt (B n : Nat) (l : List Stp) (inp : ByteArray) : ByteArray × Nat :=
 match inps inp with
 | none => (⟨#[]⟩,9)
 | some ins => if ins.length ≠ n then (⟨#[]⟩,9) else play B ins l (List.replicate 128 0) ⟨#[]⟩
theorem stt_none {B n : Nat} {l : List Stp} {inp : ByteArray} (h : inps inp = none) : stt B n l inp = (⟨#[]⟩,9) := by unfold stt; rw [h]
theorem stt_count {B n : Nat} {l : List Stp} {inp : ByteArray} {ins : List Int} (h : inps inp = some ins) (k : ¬ ins.length = n) : stt B n l inp = (⟨#[]⟩,9) := by unfold stt; rw [h]; simp [k]
theorem stt_play {B n : Nat} {l : List Stp} {inp : ByteArray} {ins : List Int} (h : inps inp = some ins) (k : ins.length = n) : stt B n l inp = play B ins l (List.replicate 128 0) ⟨#[]⟩ := by unfold stt; rw [h]; simp [k]
set_option maxHeartbeats 800000 in
set_option maxRecDepth 4000 in
theorem start_any (B nn : Nat) (hB : B = 10 ^ nn) (hnn : nn = 8000) (r i : Nat) (v : Value) (l : List Stp) (base : Nat) (inp : ByteArray) (w : World) (hl : l.length ≤ 3000) (hL : PLst w base v l) (hi : inp.size ≤ 140) (h256 : i < 256) (hg : ∀ t ∈ l,Good i t) :
  Calls Tryz.prog 34 #[.agg #[.int .u8 r,.int .u8 i,v],.string inp] w fun e w' => e = .returned (.tuple #[.string (stt B i l inp).1,.int .i64 (stt B i l inp).2]) ∧ Mod (fun _ => False) w w' := by
 obtain ⟨ao,cap,rfl,-⟩ := owns_form hL
 have HB : Hid (B = 10 ^ nn) := hB
 have HNN : Hid (nn = 8000) := hnn
 have HG : Hid (∀ t ∈ l,Good i t) := hg
 have HLen : Hid (l.length ≤ 3000) := hl
 clear hB hnn hg
 have w3 : IntKind.i64.wrap (i : Int) = (i : Int) := by simp [IntKind.wrap,IntKind.signed,IntKind.bits]; omega
 have hpa := heap_alloc_new w (.cells #[.int .u8 r,.int .u8 i,.slice ao l.length cap] 52)
 have hma := (Mod.refl (fun _ => False) w).alloc (.cells #[.int .u8 r,.int .u8 i,.slice ao l.length cap] 52)
 have hLa := PLst.mod hL ((Mod.refl (fun _ => False) w).alloc (.cells #[.int .u8 r,.int .u8 i,.slice ao l.length cap] 52))
 have HH : Hid _ := And.intro hpa (And.intro hma hLa)
 clear hpa hma hLa hL hl
 go_enter Tryz.func34,Tryz.ntmps34
 go_wp2_with fail
 generalize w.alloc (.cells #[.int .u8 r,.int .u8 i,.slice ao l.length cap] 52) = w2 at *
 obtain ⟨hpa,hma,hLa⟩ := HH.out
 clear HH
 refine (pinputs_any inp w2 hi).mono ?_
 rintro e w3 ⟨hm3,he⟩
 have hp3 := hm3.keep hpa (fun f => f)
 have hm3w := hma.trans hm3
 have hL3 := hLa.mod hm3
 obtain ⟨c0,c1,c2⟩ := cells3 hp3
 clear hpa hma hLa hp3
 cases hin : inps inp with
 | none =>
  rw [hin] at he
  simp only at he
  subst he
  have HE : Hid (stt B i l inp = (⟨#[]⟩,9)) := stt_none hin
  clear hm3 hL3 hin
  go_wp2_with fail
  go_ret2
  exact ⟨by rw [HE.out]; rfl,hm3w⟩
 | some ins =>
  rw [hin] at he
  simp only at he
  obtain ⟨v,rfl,hown⟩ := he
  obtain ⟨vo,vcap,rfl,-⟩ := owns_form hown
  have HR : Hid (∀ x ∈ ins,-100 < x ∧ x < 100) := inps_range hin
  by_cases hl : ins.length = i
  ·have HE : Hid (stt B i l inp = play B ins l (List.replicate 128 0) ⟨#[]⟩) := stt_play hin hl
   have hbq : ((ins.length : Int) != (i : Int)) = false := bne_f hl
   have hx := execute_any B nn HB.out HNN.out r i (.slice ao l.length cap) (.slice vo ins.length vcap) l ins _ _ w3 HLen.out hL3 hown (by omega) HR.out (fun t ht => by rw [hl]; exact HG.out t ht)
   clear hl hin hm3 hL3 hown
   go_wp2_with fail
   refine hx.mono ?_
   rintro e w4 ⟨rfl,hm4⟩
   have hmE := hm3w.trans hm4
   clear hx hm4 hm3w
   go_wp2_with fail
   go_ret2
   exact ⟨by rw [HE.out]; rfl,hmE⟩
  ·have HE : Hid (stt B i l inp = (⟨#[]⟩,9)) := stt_count hin hl
   have hbq : ((ins.length : Int) != (i : Int)) = true := bne_t hl
   clear hl hin hm3 hL3 hown
   go_wp2_with fail
   go_ret2
   exact ⟨by rw [HE.out]; rfl,hm3w⟩
def rnS (l : List St) (inp : ByteArray) : ByteArray × Nat :=
 match inps inp with
 | none => (⟨#[]⟩,9)
 | some ins => if ins.length ≠ cntI (cmds l) then (⟨#[]⟩,9) else (semC ins (cmds l) 0 0 [] ⟨#[]⟩,0)
theorem okG_good {p : List (St × Nat)} (h : Ok p) (hl : p.length ≤ 16) : ∀ t ∈ cmdsL (cmds (sts p)) 0 0,Good (cntI (cmds (sts p))) t := by
 have hm := Pu.made_any h hl
 have hr := (okL_iff _ _ _).2 (okG_okL _ _ hm.ok)
 intro t ht
 obtain ⟨j,hj,rfl⟩ := List.getElem_of_mem ht
 exact right_good (okG_small _ _ hm.ok _ (List.getElem_mem hj)) (Nat.le_refl _) (hr j hj)
theorem stt_rn {B nn : Nat} (hB : B = 10 ^ nn) (hn : nn = 8000) {p : List (St × Nat)} (h : Ok p) (hl : p.length ≤ 16) (inp : ByteArray) : stt B (cntI (cmds (sts p))) (cmdsL (cmds (sts p)) 0 0) inp = rnS (sts p) inp := by
 unfold stt rnS
 cases hin : inps inp with
 | none => rfl
 | some ins =>
  simp only
  by_cases hc : ins.length = cntI (cmds (sts p))
  ·have hr := inps_range hin
   rw [if_neg (fun e => e hc),if_neg (fun e => e hc)]
   exact play_report hB hn ins (fun x hx => by have := hr x hx; omega) _ (wf_cmds h) (by rw [cmds_len]; exact hl) hc.symm
  ·rw [if_pos hc,if_pos hc]
def RunA (s inp : ByteArray) (r : ByteArray × Nat) : Prop := ∃ a b,Ans s a b ∧ ((a ≠ 0 ∧ r = (⟨#[]⟩,a)) ∨ (a = 0 ∧ r = rnS (gaA s s.size).l inp))
theorem RunA.unique {s inp : ByteArray} {r t : ByteArray × Nat} (h : RunA s inp r) (k : RunA s inp t) : r = t := by
 obtain ⟨a,b,hA,h⟩ := h
 obtain ⟨c,d,kA,k⟩ := k
 obtain ⟨rfl,rfl⟩ := hA.unique kA
 rcases h with ⟨h0,rfl⟩ | ⟨h0,rfl⟩ <;> rcases k with ⟨k0,rfl⟩ | ⟨k0,rfl⟩
 ·rfl
 ·exact absurd k0 h0
 ·exact absurd h0 k0
 ·rfl
set_option maxHeartbeats 400000 in
theorem run_long (s inp : ByteArray) (w : World) (hs : 300 < s.size ∨ 140 < inp.size) (hm : s.size ≤ maxLen) (hm2 : inp.size ≤ maxLen) : Calls Tryz.prog 20 #[.string s,.string inp] w fun e w' => e = .returned (.tuple #[.string ⟨#[]⟩,.int .i64 1]) ∧ w = w' := by
 unfold maxLen at hm hm2
 by_cases h1 : 300 < s.size
 ·have i1 : (300 : Int) < (s.size : Int) := by omega
  clear hs
  go_enter Tryz.func20,Tryz.ntmps20
  go_wp2_with fail
  go_ret2
  exact ⟨rfl,rfl⟩
 ·have i1 : ¬ (300 : Int) < (s.size : Int) := by omega
  have i2 : (140 : Int) < (inp.size : Int) := by omega
  clear hs
  go_enter Tryz.func20,Tryz.ntmps20
  go_wp2_with fail
  go_ret2
  exact ⟨rfl,rfl⟩
set_option maxHeartbeats 1600000 in
set_option maxRecDepth 4000 in
theorem run_any (s inp : ByteArray) (w : World) (hs : s.size ≤ 300) (hi : inp.size ≤ 140) : Calls Tryz.prog 20 #[.string s,.string inp] w fun e w' => Mod (fun _ => False) w w' ∧ ∃ r,RunA s inp r ∧ e = .returned (.tuple #[.string r.1,.int .i64 (r.2 : Nat)]) := by
 have i1 : ¬ (300 : Int) < (s.size : Int) := by omega
 have i2 : ¬ (140 : Int) < (inp.size : Int) := by omega
 obtain ⟨nn,hnn⟩ : ∃ nn : Nat,nn = 8000 := ⟨8000,rfl⟩
 obtain ⟨B,hB⟩ : ∃ B : Nat,B = 10 ^ nn := ⟨_,rfl⟩
 have HB : Hid (B = 10 ^ nn) := hB
 have HNN : Hid (nn = 8000) := hnn
 clear hB hnn
 go_enter Tryz.func20,Tryz.ntmps20
 go_wp2_with fail
 refine (und_any s w hs).mono ?_
 rintro e w1 ⟨hm1,hu⟩
 rcases hu with ⟨k,hst,rfl⟩ | ⟨hW,p,k,hk,hok,hp,he,rfl⟩ | ⟨hW,v,q,hok,hqx,hL,hq16,rfl⟩
 ·have HA : Hid (RunA s inp (⟨#[]⟩,2)) := ⟨2,k,.inl ⟨hst,rfl⟩,.inl ⟨by decide,rfl⟩⟩
  clear hst
  go_wp2_with fail
  go_ret2
  exact ⟨hm1,_,HA.out,rfl⟩
 ·have HA : Hid (RunA s inp (⟨#[]⟩,err p (gaA s s.size).l[k])) := ⟨_,k,.inr (.inl ⟨hW,p,hk,hok,hp,he,rfl⟩),.inl ⟨he,rfl⟩⟩
  have hb : ((err p (gaA s s.size).l[k] : Int) != 0) = true := by rw [bne_iff_ne]; omega
  generalize err p (gaA s s.size).l[k] = er at *
  clear he hok hp hW
  go_wp2_with fail
  go_ret2
  exact ⟨hm1,_,HA.out,rfl⟩
 ·have hql : (pq q).length ≤ 16 := by simpa [pq] using hq16
  have HG : Hid _ := okG_good hok hql
  have HR : Hid _ := stt_rn HB.out HNN.out hok hql inp
  have hM := Pu.made_any hok hql
  have h256 : cntI (cmds (sts (pq q))) < 256 := by have := hM.n32; omega
  have hln : (cmdsL (cmds (sts (pq q))) 0 0).length ≤ 3000 := by have := hM.len; omega
  have HA : Hid (RunA s inp (rnS (sts (pq q)) inp)) := ⟨0,0,.inr (.inr ⟨hW,rfl,rfl,pq q,hok,by rw [sts_pq]; exact hqx⟩),.inr ⟨rfl,by rw [sts_pq,hqx]⟩⟩
  have ht := trans_any v q _ w1 hq16 hL hok
  rw [sts_pq] at HG HR h256 hln HA
  clear hM hqx hok hW hq16 hql hL
  go_wp2_with fail
  refine ht.mono ?_
  clear ht
  rintro e w2 ⟨hm2,ao,n,cap,rfl,hP⟩
  generalize cntI (cmds (q.map It.x)) = NN at *
  generalize cmdsL (cmds (q.map It.x)) 0 0 = SS at *
  have hmB := (hm1.trans hm2).alloc (.cells #[.int .u8 128,.int .u8 (NN : Nat),.slice ao n cap] 52)
  have hPB := PLst.mod hP ((Mod.refl (fun _ => False) w2).alloc (.cells #[.int .u8 128,.int .u8 (NN : Nat),.slice ao n cap] 52))
  have f_p := heap_alloc_new w2 (.cells #[.int .u8 128,.int .u8 (NN : Nat),.slice ao n cap] 52)
  obtain ⟨c0,c1,c2⟩ := cells3 f_p
  have HH : Hid _ := And.intro hmB hPB
  clear hmB hPB f_p hm2 hP hm1
  go_wp2_with fail
  generalize w2.alloc (.cells #[.int .u8 128,.int .u8 (NN : Nat),.slice ao n cap] 52) = w3 at *
  clear c0 c1 c2
  obtain ⟨hmB,hPB⟩ := HH.out
  clear HH
  refine (start_any B nn HB.out HNN.out 128 NN (.slice ao n cap) SS _ inp w3 hln hPB hi h256 HG.out).mono ?_
  rintro e w4 ⟨rfl,hm4⟩
  rw [HR.out]
  have hmE := hmB.trans hm4
  generalize rnS (q.map It.x) inp = rr at *
  clear hmB hPB hm4
  go_wp2_with fail
  go_ret2
  exact ⟨hmE,_,HA.out,rfl⟩
end Go.Proofs.YtmnfndpbblpjiaaGreatDoor

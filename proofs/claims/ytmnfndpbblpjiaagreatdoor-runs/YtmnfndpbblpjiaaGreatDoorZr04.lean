/- The document's numbers: Plus at all numbers, Minus. -/
import Derived.BigRegion
import Derived.Test.YtmnfndpbblpjiaaGreatDoorZr03
namespace Go.Proofs.YtmnfndpbblpjiaaGreatDoor
open Go.RowKit Pu
set_option maxHeartbeats 1600000 in
set_option maxRecDepth 100000 in
theorem swap_tf (u v:Value) (a b:List Nat) (w:World) (hU:Nm w true u a) (hV:Nm w false v b) (la:a.length≤1000000000) (lb:b.length≤1000000000) (hlt:val a < val b) :
  Calls Tryz.prog 118 #[nm2 true u,nm2 false v] w (NumEnd w (num true a+num false b) (max a.length b.length+4)):=by
 have ha:=hU.1.1
 have hb:=hV.1.1
 have hta:=hU.1.2.1
 have htb:=hV.1.2.1
 obtain ⟨ao,acap,rfl,-⟩:=owns_form hU.2
 obtain ⟨bo,bcap,rfl,-⟩:=owns_form hV.2
 have hX:=nmb_new w true (.slice ao a.length acap)
 have hY:=nmb_new (w.alloc (.cells #[.bool true,.slice ao a.length acap] 116)) false (.slice bo b.length bcap)
 have hR:=nmb_new ((w.alloc (.cells #[.bool true,.slice ao a.length acap] 116)).alloc (.cells #[.bool false,.slice bo b.length bcap] 116)) false (.slice none 0 0)
 have m1:Mod (fun _=>False) w (w.alloc (.cells #[.bool true,.slice ao a.length acap] 116)):=(Mod.refl _ w).alloc _
 have m2:Mod (fun _=>False) (w.alloc (.cells #[.bool true,.slice ao a.length acap] 116)) ((w.alloc (.cells #[.bool true,.slice ao a.length acap] 116)).alloc (.cells #[.bool false,.slice bo b.length bcap] 116)):=(Mod.refl _ _).alloc _
 have m3:Mod (fun _=>False) ((w.alloc (.cells #[.bool true,.slice ao a.length acap] 116)).alloc (.cells #[.bool false,.slice bo b.length bcap] 116)) (((w.alloc (.cells #[.bool true,.slice ao a.length acap] 116)).alloc (.cells #[.bool false,.slice bo b.length bcap] 116)).alloc (.cells #[.bool false,.slice none 0 0] 116)):=(Mod.refl _ _).alloc _
 have hX3:=(hX.keep m2 (fun f=>f)).keep m3 (fun f=>f)
 have hY3:=hY.keep m3 (fun f=>f)
 have hmW:=m1.trans (m2.trans m3)
 have hU3:=hU.mod hmW
 have hV3:=hV.mod hmW
 simp only [World.size_alloc] at hY3 hR
 clear hX hY m1 m2 m3 hU hV
 go_enter Tryz.func118,Tryz.ntmps118
 go_wp2_with fail
 refine (order_any _ _ a b _ hU3.2 hV3.2 ha hb hta htb (by omega) (by omega)).mono ?_
 rintro e W ⟨rfl,hm2⟩
 have hsgb:decide (sgI ((val a:Int) - (val b:Int)) < 0)=true:=by
  unfold sgI;rw [if_pos (by omega)];rfl
 have hX4:=hX3.keep hm2 (fun f=>f)
 have hY4:=hY3.keep hm2 (fun f=>f)
 have hR4:=hR.keep hm2 (fun f=>f)
 have hmW4:=hmW.trans hm2
 have hU4:=hU3.mod hm2
 have hV4:=hV3.mod hm2
 clear hX3 hY3 hR hmW hU3 hV3 hm2
 have x0:=hX4.c0
 have x1:=hX4.c1
 have y0:=hY4.c0
 have y1:=hY4.c1
 go_wp2_with fail
 refine (plus_ft _ _ b a _ hV4 hU4 lb la (by omega)).mono ?_
 rintro e w3 ⟨hm3,nb,v4,l4,rfl,hN4,hx4,hl4⟩
 have hR5:=hR4.keep hm3 (fun f=>f)
 obtain ⟨vo4,vcap4,rfl,-⟩:=owns_form hN4.2
 have r0:=hR5.c0
 have r1:=hR5.c1
 have f0:=hR5.fz 0
 have f1:=hR5.fz 1
 have hR6:=hR5.set nb (.slice vo4 l4.length vcap4)
 have q0:=hR6.c0
 have q1:=hR6.c1
 have hmE:=hmW4.trans hm3
 have hmF:Mod (fun _=>False) w ((w3.setCell ⟨w.heap.size+1+1,0,none⟩ (.bool nb)).setCell ⟨w.heap.size+1+1,1,none⟩ (.slice vo4 l4.length vcap4)):=((hmE.mono (q:=fun i=>i=w.heap.size+1+1) (fun _ _ f=>f.elim)).trans (mod_set2 _ _ _ _)).mono (fun i hi h=>by omega)
 have HNE:Hid (NumEnd w (num true a+num false b) (max a.length b.length+4) (.returned (nm2 nb (.slice vo4 l4.length vcap4))) ((w3.setCell ⟨w.heap.size+1+1,0,none⟩ (.bool nb)).setCell ⟨w.heap.size+1+1,1,none⟩ (.slice vo4 l4.length vcap4))) :=
  numEnd (l:=l4) hmF ⟨hN4.1,owns_set2 hN4.2 hR5 _ _⟩ (by rw [hx4,Int.add_comm]) (by omega)
 clear hN4 hx4 hmE hm3 hsgb x0 x1 y0 y1
 go_wp2_with fail
 exact bodyPost_ret (by simp [results,Tryz.results118,go_sem,q0,q1]) rfl HNE.out
set_option maxHeartbeats 1600000 in
set_option maxRecDepth 100000 in
theorem swap_ft (u v:Value) (a b:List Nat) (w:World) (hU:Nm w false u a) (hV:Nm w true v b) (la:a.length≤1000000000) (lb:b.length≤1000000000) (hlt:val a < val b) :
  Calls Tryz.prog 118 #[nm2 false u,nm2 true v] w (NumEnd w (num false a+num true b) (max a.length b.length+4)):=by
 have ha:=hU.1.1
 have hb:=hV.1.1
 have hta:=hU.1.2.1
 have htb:=hV.1.2.1
 obtain ⟨ao,acap,rfl,-⟩:=owns_form hU.2
 obtain ⟨bo,bcap,rfl,-⟩:=owns_form hV.2
 have hX:=nmb_new w false (.slice ao a.length acap)
 have hY:=nmb_new (w.alloc (.cells #[.bool false,.slice ao a.length acap] 116)) true (.slice bo b.length bcap)
 have hR:=nmb_new ((w.alloc (.cells #[.bool false,.slice ao a.length acap] 116)).alloc (.cells #[.bool true,.slice bo b.length bcap] 116)) false (.slice none 0 0)
 have m1:Mod (fun _=>False) w (w.alloc (.cells #[.bool false,.slice ao a.length acap] 116)):=(Mod.refl _ w).alloc _
 have m2:Mod (fun _=>False) (w.alloc (.cells #[.bool false,.slice ao a.length acap] 116)) ((w.alloc (.cells #[.bool false,.slice ao a.length acap] 116)).alloc (.cells #[.bool true,.slice bo b.length bcap] 116)):=(Mod.refl _ _).alloc _
 have m3:Mod (fun _=>False) ((w.alloc (.cells #[.bool false,.slice ao a.length acap] 116)).alloc (.cells #[.bool true,.slice bo b.length bcap] 116)) (((w.alloc (.cells #[.bool false,.slice ao a.length acap] 116)).alloc (.cells #[.bool true,.slice bo b.length bcap] 116)).alloc (.cells #[.bool false,.slice none 0 0] 116)):=(Mod.refl _ _).alloc _
 have hX3:=(hX.keep m2 (fun f=>f)).keep m3 (fun f=>f)
 have hY3:=hY.keep m3 (fun f=>f)
 have hmW:=m1.trans (m2.trans m3)
 have hU3:=hU.mod hmW
 have hV3:=hV.mod hmW
 simp only [World.size_alloc] at hY3 hR
 clear hX hY m1 m2 m3 hU hV
 go_enter Tryz.func118,Tryz.ntmps118
 go_wp2_with fail
 refine (order_any _ _ a b _ hU3.2 hV3.2 ha hb hta htb (by omega) (by omega)).mono ?_
 rintro e W ⟨rfl,hm2⟩
 have hsgb:decide (sgI ((val a:Int) - (val b:Int)) < 0)=true:=by
  unfold sgI;rw [if_pos (by omega)];rfl
 have hX4:=hX3.keep hm2 (fun f=>f)
 have hY4:=hY3.keep hm2 (fun f=>f)
 have hR4:=hR.keep hm2 (fun f=>f)
 have hmW4:=hmW.trans hm2
 have hU4:=hU3.mod hm2
 have hV4:=hV3.mod hm2
 clear hX3 hY3 hR hmW hU3 hV3 hm2
 have x0:=hX4.c0
 have x1:=hX4.c1
 have y0:=hY4.c0
 have y1:=hY4.c1
 go_wp2_with fail
 refine (plus_tf _ _ b a _ hV4 hU4 lb la (by omega)).mono ?_
 rintro e w3 ⟨hm3,nb,v4,l4,rfl,hN4,hx4,hl4⟩
 have hR5:=hR4.keep hm3 (fun f=>f)
 obtain ⟨vo4,vcap4,rfl,-⟩:=owns_form hN4.2
 have r0:=hR5.c0
 have r1:=hR5.c1
 have f0:=hR5.fz 0
 have f1:=hR5.fz 1
 have hR6:=hR5.set nb (.slice vo4 l4.length vcap4)
 have q0:=hR6.c0
 have q1:=hR6.c1
 have hmE:=hmW4.trans hm3
 have hmF:Mod (fun _=>False) w ((w3.setCell ⟨w.heap.size+1+1,0,none⟩ (.bool nb)).setCell ⟨w.heap.size+1+1,1,none⟩ (.slice vo4 l4.length vcap4)):=((hmE.mono (q:=fun i=>i=w.heap.size+1+1) (fun _ _ f=>f.elim)).trans (mod_set2 _ _ _ _)).mono (fun i hi h=>by omega)
 have HNE:Hid (NumEnd w (num false a+num true b) (max a.length b.length+4) (.returned (nm2 nb (.slice vo4 l4.length vcap4))) ((w3.setCell ⟨w.heap.size+1+1,0,none⟩ (.bool nb)).setCell ⟨w.heap.size+1+1,1,none⟩ (.slice vo4 l4.length vcap4))) :=
  numEnd (l:=l4) hmF ⟨hN4.1,owns_set2 hN4.2 hR5 _ _⟩ (by rw [hx4,Int.add_comm]) (by omega)
 clear hN4 hx4 hmE hm3 hsgb x0 x1 y0 y1
 go_wp2_with fail
 exact bodyPost_ret (by simp [results,Tryz.results118,go_sem,q0,q1]) rfl HNE.out
theorem plus_any (nx ny:Bool) (u v:Value) (a b:List Nat) (w:World) (hU:Nm w nx u a) (hV:Nm w ny v b) (la:a.length≤1000000000) (lb:b.length≤1000000000) :
  Calls Tryz.prog 118 #[nm2 nx u,nm2 ny v] w (NumEnd w (num nx a+num ny b) (max a.length b.length+4)):=by
 cases nx <;> cases ny
 ·exact plus_same false u v a b w hU hV la lb
 ·by_cases h:val b≤val a
  ·exact plus_ft u v a b w hU hV la lb h
  ·exact swap_ft u v a b w hU hV la lb (by omega)
 ·by_cases h:val b≤val a
  ·exact plus_tf u v a b w hU hV la lb h
  ·exact swap_tf u v a b w hU hV la lb (by omega)
 ·exact plus_same true u v a b w hU hV la lb
set_option maxHeartbeats 800000 in
set_option maxRecDepth 100000 in
theorem minus_any (nx ny:Bool) (u v:Value) (a b:List Nat) (w:World) (hU:Nm w nx u a) (hV:Nm w ny v b) (la:a.length≤1000000000) (lb:b.length≤1000000000) :
  Calls Tryz.prog 119 #[nm2 nx u,nm2 ny v] w (NumEnd w (num nx a - num ny b) (max a.length b.length+4)):=by
 obtain ⟨ao,acap,rfl,-⟩:=owns_form hU.2
 obtain ⟨bo,bcap,rfl,-⟩:=owns_form hV.2
 have hX:=nmb_new w nx (.slice ao a.length acap)
 have hY:=nmb_new (w.alloc (.cells #[.bool nx,.slice ao a.length acap] 116)) ny (.slice bo b.length bcap)
 have hR:=nmb_new ((w.alloc (.cells #[.bool nx,.slice ao a.length acap] 116)).alloc (.cells #[.bool ny,.slice bo b.length bcap] 116)) false (.slice none 0 0)
 have m1:Mod (fun _=>False) w (w.alloc (.cells #[.bool nx,.slice ao a.length acap] 116)):=(Mod.refl _ w).alloc _
 have m2:Mod (fun _=>False) (w.alloc (.cells #[.bool nx,.slice ao a.length acap] 116)) ((w.alloc (.cells #[.bool nx,.slice ao a.length acap] 116)).alloc (.cells #[.bool ny,.slice bo b.length bcap] 116)):=(Mod.refl _ _).alloc _
 have m3:Mod (fun _=>False) ((w.alloc (.cells #[.bool nx,.slice ao a.length acap] 116)).alloc (.cells #[.bool ny,.slice bo b.length bcap] 116)) (((w.alloc (.cells #[.bool nx,.slice ao a.length acap] 116)).alloc (.cells #[.bool ny,.slice bo b.length bcap] 116)).alloc (.cells #[.bool false,.slice none 0 0] 116)):=(Mod.refl _ _).alloc _
 have hX3:=(hX.keep m2 (fun f=>f)).keep m3 (fun f=>f)
 have hY3:=hY.keep m3 (fun f=>f)
 have hmW:=m1.trans (m2.trans m3)
 have hU3:=hU.mod hmW
 have hV3:=hV.mod hmW
 simp only [World.size_alloc] at hY3 hR
 clear hX hY m1 m2 m3 hU hV
 go_enter Tryz.func119,Tryz.ntmps119
 go_wp2_with fail
 generalize ((w.alloc (.cells #[.bool nx,.slice ao a.length acap] 116)).alloc (.cells #[.bool ny,.slice bo b.length bcap] 116)).alloc (.cells #[.bool false,.slice none 0 0] 116)=W at *
 have x0:=hX3.c0
 have x1:=hX3.c1
 have y0:=hY3.c0
 have y1:=hY3.c1
 have hRd:Nmb W.drew (w.heap.size+1+1) false (.slice none 0 0):=hR
 have hmWd:Mod (fun _=>False) W W.drew:=(Mod.refl _ W).drew
 have hUd:=hU3.mod hmWd
 have hVd:=hV3.mod hmWd
 have HC:Hid (Canon (lessB ny b) b∧num (lessB ny b) b=-num ny b):=less_canon hV3.1
 have HU:Hid (Nm W.drew nx (.slice ao a.length acap) a):=hUd
 have HV:Hid (Nm W.drew ny (.slice bo b.length bcap) b):=hVd
 clear hU3 hV3 hUd hVd
 go_region_held3 (fun w'=>w'.cell? ⟨w.heap.size,0,none⟩=some (.bool nx)∧w'.cell? ⟨w.heap.size,1,none⟩=some (.slice ao a.length acap)∧w'.cell? ⟨w.heap.size+1,0,none⟩=some (.bool ny)∧w'.cell? ⟨w.heap.size+1,1,none⟩=some (.slice bo b.length bcap))
  (first | go_keep | (exact hkeep) | (exact hkeep2))
  (first
   | (go_at_call 135;refine (less_any ny (.slice bo b.length bcap) b W.drew HV.out (by omega)).mono ?_;rintro e w3 ⟨rfl,hm3⟩;have hkeep:=And.intro (hm3.cell (a:=W.drew) x0) (And.intro (hm3.cell (a:=W.drew) x1) (And.intro (hm3.cell (a:=W.drew) y0) (hm3.cell (a:=W.drew) y1))))
   | (go_at_call 118;refine (plus_any nx (lessB ny b) (.slice ao a.length acap) (.slice bo b.length bcap) a b w3 (HU.out.mod hm3) ⟨HC.out.1,(HV.out.mod hm3).2⟩ la lb).mono ?_;rintro e w4 ⟨hm4,nb,v4,l4,rfl,hN4,hx4,hl4⟩;have hkeep:=And.intro (hm4.cell (hm3.cell (a:=W.drew) x0)) (And.intro (hm4.cell (hm3.cell (a:=W.drew) x1)) (And.intro (hm4.cell (hm3.cell (a:=W.drew) y0)) (hm4.cell (hm3.cell (a:=W.drew) y1))));have hR4:=(hRd.keep hm3 (fun f=>f)).keep hm4 (fun f=>f);have r0:=hR4.c0;have r1:=hR4.c1;have f0:=hR4.fz 0;have f1:=hR4.fz 1;obtain ⟨vo4,vcap4,rfl,-⟩:=owns_form hN4.2;have hkeep2:=And.intro ((set2_cell (w.heap.size+1+1) w4 (.bool nb) (.slice vo4 l4.length vcap4) w.heap.size 0 (by omega)).trans hkeep.1) (And.intro ((set2_cell (w.heap.size+1+1) w4 (.bool nb) (.slice vo4 l4.length vcap4) w.heap.size 1 (by omega)).trans hkeep.2.1) (And.intro ((set2_cell (w.heap.size+1+1) w4 (.bool nb) (.slice vo4 l4.length vcap4) (w.heap.size+1) 0 (by omega)).trans hkeep.2.2.1) ((set2_cell (w.heap.size+1+1) w4 (.bool nb) (.slice vo4 l4.length vcap4) (w.heap.size+1) 1 (by omega)).trans hkeep.2.2.2)))))
 have hR5:=hR4.set nb (.slice vo4 l4.length vcap4)
 have q0:=hR5.c0
 have q1:=hR5.c1
 have hmE:=(hmW.drew.trans hm3).trans hm4
 have hmF:Mod (fun _=>False) w ((w4.setCell ⟨w.heap.size+1+1,0,none⟩ (.bool nb)).setCell ⟨w.heap.size+1+1,1,none⟩ (.slice vo4 l4.length vcap4)):=((hmE.mono (q:=fun i=>i=w.heap.size+1+1) (fun _ _ f=>f.elim)).trans (mod_set2 _ _ _ _)).mono (fun i hi h=>by omega)
 have HNE:Hid (NumEnd w (num nx a - num ny b) (max a.length b.length+4) (.returned (nm2 nb (.slice vo4 l4.length vcap4))) ((w4.setCell ⟨w.heap.size+1+1,0,none⟩ (.bool nb)).setCell ⟨w.heap.size+1+1,1,none⟩ (.slice vo4 l4.length vcap4))) :=
  numEnd (l:=l4) hmF ⟨hN4.1,owns_set2 hN4.2 hR4 _ _⟩ (by rw [hx4,HC.out.2];omega) (by omega)
 clear hN4 hx4 hmE hm3 hm4
 go_wp2_with fail
 exact bodyPost_ret (by simp [results,Tryz.results119,go_sem,q0,q1]) rfl HNE.out
theorem zvs_set (d:List Int) (k:Nat) (x:Int):(zvs d).set k (.int .i64 x)=zvs (d.set k x):=by simp [zvs,List.map_set]
theorem made_zero (n:Nat):(madeCells #[Value.int .i64 0] (n*1)).toList=zvs (List.replicate n 0):=by rw [toList_madeCells_one];simp [zvs]
set_option maxHeartbeats 3200000 in
set_option maxRecDepth 100000 in
theorem times_any (nx ny:Bool) (u v:Value) (a b:List Nat) (w:World) (hU:Nm w nx u a) (hV:Nm w ny v b) (la:a.length≤1000000000) (lb:b.length≤1000000000) :
  Calls Tryz.prog 120 #[nm2 nx u,nm2 ny v] w (NumEnd w (num nx a*num ny b) (a.length+b.length+4)):=by
 obtain ⟨i0,hi,hz0,hz1,hz2⟩:=info_parts Tryz.info3
 have ha:=hU.1.1
 have hb:=hV.1.1
 obtain ⟨ao,acap,rfl,-⟩:=owns_form hU.2
 obtain ⟨bo,bcap,rfl,-⟩:=owns_form hV.2
 have hX:=nmb_new w nx (.slice ao a.length acap)
 have hY:=nmb_new (w.alloc (.cells #[.bool nx,.slice ao a.length acap] 116)) ny (.slice bo b.length bcap)
 have hR:=nmb_new ((w.alloc (.cells #[.bool nx,.slice ao a.length acap] 116)).alloc (.cells #[.bool ny,.slice bo b.length bcap] 116)) false (.slice none 0 0)
 have m1:Mod (fun _=>False) w (w.alloc (.cells #[.bool nx,.slice ao a.length acap] 116)):=(Mod.refl _ w).alloc _
 have m2:Mod (fun _=>False) (w.alloc (.cells #[.bool nx,.slice ao a.length acap] 116)) ((w.alloc (.cells #[.bool nx,.slice ao a.length acap] 116)).alloc (.cells #[.bool ny,.slice bo b.length bcap] 116)):=(Mod.refl _ _).alloc _
 have m3:Mod (fun _=>False) ((w.alloc (.cells #[.bool nx,.slice ao a.length acap] 116)).alloc (.cells #[.bool ny,.slice bo b.length bcap] 116)) (((w.alloc (.cells #[.bool nx,.slice ao a.length acap] 116)).alloc (.cells #[.bool ny,.slice bo b.length bcap] 116)).alloc (.cells #[.bool false,.slice none 0 0] 116)):=(Mod.refl _ _).alloc _
 have hX3:=(hX.keep m2 (fun f=>f)).keep m3 (fun f=>f)
 have hY3:=hY.keep m3 (fun f=>f)
 have hmW:=m1.trans (m2.trans m3)
 have hU0:=hU.2
 have hV0:=hV.2
 simp only [World.size_alloc] at hY3 hR
 clear hX hY m1 m2 m3 hU hV
 go_enter Tryz.func120,Tryz.ntmps120
 go_wp2_with (at_make;refine wpList_make_full _ rfl _ _ 39 rfl (w.heap.size+1+1+1) 3 i0 (.int .i64 0) 1 Tryz.underlying39 hi hz0 hz1 _ _ _ _ (a.length+b.length) rfl rfl (by omega) (by omega) (by rw [hz2];omega) (by unfold maxLen;omega) (by simp) ?_)
 intro W hown0 hgrow0
 have hm0:=(Mod.refl (fun _=>False) (((w.alloc (.cells #[.bool nx,.slice ao a.length acap] 116)).alloc (.cells #[.bool ny,.slice bo b.length bcap] 116)).alloc (.cells #[.bool false,.slice none 0 0] 116))).grown hgrow0 (fun k hk _=>by cases hk)
 have hX4:=hX3.keep hm0 (fun f=>f)
 have hY4:=hY3.keep hm0 (fun f=>f)
 have hR4:=hR.keep hm0 (fun f=>f)
 have hmW4:=hmW.trans hm0
 have hown1:W.ownsRow (w.heap.size+1+1+1) 3 1 (.slice (some ⟨w.heap.size+1+1+1,0,none⟩) (a.length+b.length) (a.length+b.length)) (a.length+b.length) (zvs (List.replicate (a.length+b.length) 0)):=by
  rw [← made_zero];simpa using hown0
 clear hX3 hY3 hR hmW hm0 hgrow0 hown0
 go_wp2_with fail
 go_loopw [6,7] (fun iv _ wr=>∃ (i:Nat) (d:List Int),i≤a.length∧iv=.int .i64 i∧wr.ownsRow (w.heap.size+1+1+1) 3 1 (.slice (some ⟨w.heap.size+1+1+1,0,none⟩) (a.length+b.length) (a.length+b.length)) (a.length+b.length) (zvs d)∧Hid (MInv a b d i 0)∧Mod (fun q=>w.heap.size+1+1+1≤q) W wr) (fun iv _ _=>a.length - (intOf iv).toNat)
 case atStart=>exact ⟨0,_,by omega,rfl,hown1,MInv.start a b,Mod.refl _ _⟩
 case round =>
  clear hown1
  obtain ⟨i,d,hil,rfl,hown,HM,hm⟩:=hrel
  have x1:=(hX4.keep hm (by omega)).c1
  have y1:=(hY4.keep hm (by omega)).c1
  by_cases hia:i < a.length
  ·go_wp2_with fail
   go_loopw [7] (fun jv wr=>∃ (j:Nat) (d:List Int),j≤b.length∧jv=.int .i64 j∧wr.ownsRow (w.heap.size+1+1+1) 3 1 (.slice (some ⟨w.heap.size+1+1+1,0,none⟩) (a.length+b.length) (a.length+b.length)) (a.length+b.length) (zvs d)∧Hid (MInv a b d i j)∧Mod (fun q=>w.heap.size+1+1+1≤q) W wr) (fun jv _=>b.length - (intOf jv).toNat)
   case atStart=>exact ⟨0,d,by omega,rfl,hown,HM,hm⟩
   case round =>
    clear x1 y1 hown HM hm
    obtain ⟨j,d,hjl,rfl,hown,HM,hm⟩:=hrel
    have x1:=(hX4.keep hm (by omega)).c1
    have y1:=(hY4.keep hm (by omega)).c1
    by_cases hjb:j < b.length
    ·have HDL:Hid (d.length=a.length+b.length):=HM.out.1
     have hk:i+j < d.length:=by have:=HDL.out;omega
     obtain ⟨gd,hgd,cd⟩:=zvs_cell hown HDL.out.symm hk
     injection hgd with hgd
     injection hgd with hgd
     subst hgd
     have hmw:Mod (fun _=>False) w wr:=((hmW4.mono (q:=fun q=>w.heap.size+1+1+1≤q) (fun _ _ f=>f.elim)).trans hm).mono (fun q hq h=>by omega)
     have fd:=hown.frozenAt (i+j)
     have hdb:=HM.out.2.2.1 (i+j) hk
     have hd0:=hdb.1
     have hd1:=hdb.2
     clear hdb
     obtain ⟨ga,rfl,ca⟩:=ivs_cell (owns_mod hU0 hmw (fun _ _ f=>f)) rfl hia
     obtain ⟨gb,rfl,cb⟩:=ivs_cell (owns_mod hV0 hmw (fun _ _ f=>f)) rfl hjb
     have hda:=ha _ (List.getElem_mem hia)
     have hdb:=hb _ (List.getElem_mem hjb)
     have hp0:0≤(a[i]:Int)*(b[j]:Int):=Int.mul_nonneg (by omega) (by omega)
     have hp1:(a[i]:Int)*(b[j]:Int)≤100000000:=by
      have:a[i]*b[j]≤9999*9999:=Nat.mul_le_mul (by omega) (by omega)
      have e:((a[i]*b[j]:Nat):Int)=(a[i]:Int)*(b[j]:Int):=by simp
      omega
     have i1:(0:Int)≤(i:Int)+(j:Int):=by omega
     have i2:(i:Int)+(j:Int) < ((a.length+b.length:Nat):Int):=by omega
     have i3:(0:Int)≤(i:Int):=by omega
     have i4:(i:Int) < (a.length:Int):=by omega
     have i5:(0:Int)≤(j:Int):=by omega
     have i6:(j:Int) < (b.length:Int):=by omega
     have hd2:d[i+j]≤200000000000000000:=by omega
     generalize hdk:d[i+j]=dk at *
     have HDK:Hid (d[i+j]=dk):=hdk
     clear hdk hd1
     go_wp2_with fail
     go_region
     have HM2:Hid (MInv a b (d.set (i+j) (dk+(a[i]:Int)*(b[j]:Int))) i (j+1)):=show MInv a b (d.set (i+j) (dk+(a[i]:Int)*(b[j]:Int))) i (j+1) by
      rw [← HDK.out];exact HM.out.step ha hb hia hjb hk
     have hst:=hown.stored (i+j) (.int .i64 (dk+(a[i]:Int)*(b[j]:Int)))
     have hown2:(wr.setCell ⟨w.heap.size+1+1+1,i+j,none⟩ (.int .i64 (dk+(a[i]:Int)*(b[j]:Int)))).drew.ownsRow (w.heap.size+1+1+1) 3 1 (.slice (some ⟨w.heap.size+1+1+1,0,none⟩) (a.length+b.length) (a.length+b.length)) (a.length+b.length) (zvs (d.set (i+j) (dk+(a[i]:Int)*(b[j]:Int)))):=by
      rw [← zvs_set];exact hst.1
     have hm2:Mod (fun q=>w.heap.size+1+1+1≤q) W (wr.setCell ⟨w.heap.size+1+1+1,i+j,none⟩ (.int .i64 (dk+(a[i]:Int)*(b[j]:Int)))).drew:=(hm.setCell _ _ (fun _=>Nat.le_refl _)).drew
     clear hst hown hm x1 y1 cd fd ca cb
     go_wp2_with fail
     go_roundw
     case rel=>exact ⟨j+1,_,by omega,by go_num,hown2,HM2,hm2⟩
     case measure=>simp [intOf];omega
    ·have hjb':j=b.length:=by omega
     have HM2:Hid (MInv a b d (i+1) 0):=show MInv a b d (i+1) 0 by have:=HM.out;rw [hjb'] at this;exact this.row hia
     clear hjb'
     go_wp2_with fail
     go_roundw
     case rel=>exact ⟨i+1,d,by omega,by go_num,hown,HM2,hm⟩
     case measure=>simp [intOf];omega
  ·have hil':i=a.length:=by omega
   have HDL:Hid (d.length=a.length+b.length):=HM.out.1
   have HVL:Hid (valI d=(val a:Int)*(val b:Int)):=HM.out.done (by omega)
   have HBD:Hid (∀ x∈d,-200000000000000000≤x∧x≤200000000000000000):=HM.out.bound (by omega)
   have H0:Hid (0≤valI d):=show 0≤valI d by rw [HVL.out];exact Int.mul_nonneg (Int.natCast_nonneg _) (Int.natCast_nonneg _)
   have HTOT:Hid (∀ os,(val os:Int)=valI d→num (nx != ny) os=num nx a*num ny b):=fun os h=>num_mul nx ny a b os (by rw [h,HVL.out])
   have HO6:Hid (wr.ownsRow 0 3 1 (.slice (some ⟨w.heap.size+1+1+1,0,none⟩) (a.length+b.length) (a.length+b.length)) d.length (zvs d)):=show wr.ownsRow 0 3 1 (.slice (some ⟨w.heap.size+1+1+1,0,none⟩) (a.length+b.length) (a.length+b.length)) d.length (zvs d) by
    rw [HDL.out];exact owns_base hown (Nat.zero_le _)
   have hx0:=(hX4.keep hm (by omega)).c0
   have hy0:=(hY4.keep hm (by omega)).c0
   have hRw:Nmb wr (w.heap.size+1+1) false (.slice none 0 0):=hR4.keep hm (by omega)
   have hRd:Nmb wr.drew (w.heap.size+1+1) false (.slice none 0 0):=hRw
   have hmw:Mod (fun _=>False) w wr:=((hmW4.mono (q:=fun q=>w.heap.size+1+1+1≤q) (fun _ _ f=>f.elim)).trans hm).mono (fun q hq h=>by omega)
   have HLE:Hid (d.length≤2000000000):=show d.length≤2000000000 by rw [HDL.out];omega
   clear hown hil' HM hX4 hY4 hR4 hU0 hV0 hmW4 hm
   go_wp2_with fail
   clear x1 y1
   generalize num nx a*num ny b=tot at *
   cases nx
   ·cases ny
    ·go_region_held3 (fun w'=>w'.cell? ⟨w.heap.size,0,none⟩=some (.bool false)∧w'.cell? ⟨w.heap.size+1,0,none⟩=some (.bool false))
      (first | go_keep | (exact hkeep) | (exact hkeep2))
      (first
       | (go_at_call 172;refine (carried_any (.slice (some ⟨w.heap.size+1+1+1,0,none⟩) (a.length+b.length) (a.length+b.length)) d wr.drew HO6.out HBD.out H0.out HLE.out).mono ?_;rintro e w3 ⟨hm3,v3,os,rfl,hown3,hdig,hval,hlen3⟩;have hkeep:=And.intro (hm3.cell (a:=wr.drew) hx0) (hm3.cell (a:=wr.drew) hy0))
       | (go_at_call 171;refine (made_any false v3 os w3 (owns_base hown3 (Nat.zero_le _)) hdig (by have:=HLE.out;omega)).mono ?_;rintro e w4 ⟨hm4,nb,v4,l4,rfl,hN4,hx4,hl4⟩;have hkeep:=And.intro (hm4.cell (hm3.cell (a:=wr.drew) hx0)) (hm4.cell (hm3.cell (a:=wr.drew) hy0));have hR4:=(hRd.keep hm3 (fun f=>f)).keep hm4 (fun f=>f);have r0:=hR4.c0;have r1:=hR4.c1;have f0:=hR4.fz 0;have f1:=hR4.fz 1;obtain ⟨vo4,vcap4,rfl,-⟩:=owns_form hN4.2;have hkeep2:=And.intro ((set2_cell (w.heap.size+1+1) w4 (.bool nb) (.slice vo4 l4.length vcap4) w.heap.size 0 (by omega)).trans hkeep.1) ((set2_cell (w.heap.size+1+1) w4 (.bool nb) (.slice vo4 l4.length vcap4) (w.heap.size+1) 0 (by omega)).trans hkeep.2)))
     have hR5:=hR4.set nb (.slice vo4 l4.length vcap4)
     have q0:=hR5.c0
     have q1:=hR5.c1
     have hmE:=(hmw.drew.trans hm3).trans hm4
     have hmF:Mod (fun _=>False) w ((w4.setCell ⟨w.heap.size+1+1,0,none⟩ (.bool nb)).setCell ⟨w.heap.size+1+1,1,none⟩ (.slice vo4 l4.length vcap4)):=((hmE.mono (q:=fun i=>i=w.heap.size+1+1) (fun _ _ f=>f.elim)).trans (mod_set2 _ _ _ _)).mono (fun i hi h=>by omega)
     have HNE:Hid (NumEnd w tot (a.length+b.length+4) (.returned (nm2 nb (.slice vo4 l4.length vcap4))) ((w4.setCell ⟨w.heap.size+1+1,0,none⟩ (.bool nb)).setCell ⟨w.heap.size+1+1,1,none⟩ (.slice vo4 l4.length vcap4))) :=
      numEnd (l:=l4) hmF ⟨hN4.1,owns_set2 hN4.2 hR4 _ _⟩ (by rw [hx4];exact HTOT.out os hval) (by have:=HDL.out;omega)
     clear hN4 hown3 hval hx4 hmE hm3 hm4 hmw
     go_wp2_with fail
     exact bodyPost_ret (by simp [results,Tryz.results120,go_sem,q0,q1]) rfl HNE.out
    ·go_region_held3 (fun w'=>w'.cell? ⟨w.heap.size,0,none⟩=some (.bool false)∧w'.cell? ⟨w.heap.size+1,0,none⟩=some (.bool true))
      (first | go_keep | (exact hkeep) | (exact hkeep2))
      (first
       | (go_at_call 172;refine (carried_any (.slice (some ⟨w.heap.size+1+1+1,0,none⟩) (a.length+b.length) (a.length+b.length)) d wr.drew HO6.out HBD.out H0.out HLE.out).mono ?_;rintro e w3 ⟨hm3,v3,os,rfl,hown3,hdig,hval,hlen3⟩;have hkeep:=And.intro (hm3.cell (a:=wr.drew) hx0) (hm3.cell (a:=wr.drew) hy0))
       | (go_at_call 171;refine (made_any true v3 os w3 (owns_base hown3 (Nat.zero_le _)) hdig (by have:=HLE.out;omega)).mono ?_;rintro e w4 ⟨hm4,nb,v4,l4,rfl,hN4,hx4,hl4⟩;have hkeep:=And.intro (hm4.cell (hm3.cell (a:=wr.drew) hx0)) (hm4.cell (hm3.cell (a:=wr.drew) hy0));have hR4:=(hRd.keep hm3 (fun f=>f)).keep hm4 (fun f=>f);have r0:=hR4.c0;have r1:=hR4.c1;have f0:=hR4.fz 0;have f1:=hR4.fz 1;obtain ⟨vo4,vcap4,rfl,-⟩:=owns_form hN4.2;have hkeep2:=And.intro ((set2_cell (w.heap.size+1+1) w4 (.bool nb) (.slice vo4 l4.length vcap4) w.heap.size 0 (by omega)).trans hkeep.1) ((set2_cell (w.heap.size+1+1) w4 (.bool nb) (.slice vo4 l4.length vcap4) (w.heap.size+1) 0 (by omega)).trans hkeep.2)))
     have hR5:=hR4.set nb (.slice vo4 l4.length vcap4)
     have q0:=hR5.c0
     have q1:=hR5.c1
     have hmE:=(hmw.drew.trans hm3).trans hm4
     have hmF:Mod (fun _=>False) w ((w4.setCell ⟨w.heap.size+1+1,0,none⟩ (.bool nb)).setCell ⟨w.heap.size+1+1,1,none⟩ (.slice vo4 l4.length vcap4)):=((hmE.mono (q:=fun i=>i=w.heap.size+1+1) (fun _ _ f=>f.elim)).trans (mod_set2 _ _ _ _)).mono (fun i hi h=>by omega)
     have HNE:Hid (NumEnd w tot (a.length+b.length+4) (.returned (nm2 nb (.slice vo4 l4.length vcap4))) ((w4.setCell ⟨w.heap.size+1+1,0,none⟩ (.bool nb)).setCell ⟨w.heap.size+1+1,1,none⟩ (.slice vo4 l4.length vcap4))) :=
      numEnd (l:=l4) hmF ⟨hN4.1,owns_set2 hN4.2 hR4 _ _⟩ (by rw [hx4];exact HTOT.out os hval) (by have:=HDL.out;omega)
     clear hN4 hown3 hval hx4 hmE hm3 hm4 hmw
     go_wp2_with fail
     exact bodyPost_ret (by simp [results,Tryz.results120,go_sem,q0,q1]) rfl HNE.out
   ·cases ny
    ·go_region_held3 (fun w'=>w'.cell? ⟨w.heap.size,0,none⟩=some (.bool true)∧w'.cell? ⟨w.heap.size+1,0,none⟩=some (.bool false))
      (first | go_keep | (exact hkeep) | (exact hkeep2))
      (first
       | (go_at_call 172;refine (carried_any (.slice (some ⟨w.heap.size+1+1+1,0,none⟩) (a.length+b.length) (a.length+b.length)) d wr.drew HO6.out HBD.out H0.out HLE.out).mono ?_;rintro e w3 ⟨hm3,v3,os,rfl,hown3,hdig,hval,hlen3⟩;have hkeep:=And.intro (hm3.cell (a:=wr.drew) hx0) (hm3.cell (a:=wr.drew) hy0))
       | (go_at_call 171;refine (made_any true v3 os w3 (owns_base hown3 (Nat.zero_le _)) hdig (by have:=HLE.out;omega)).mono ?_;rintro e w4 ⟨hm4,nb,v4,l4,rfl,hN4,hx4,hl4⟩;have hkeep:=And.intro (hm4.cell (hm3.cell (a:=wr.drew) hx0)) (hm4.cell (hm3.cell (a:=wr.drew) hy0));have hR4:=(hRd.keep hm3 (fun f=>f)).keep hm4 (fun f=>f);have r0:=hR4.c0;have r1:=hR4.c1;have f0:=hR4.fz 0;have f1:=hR4.fz 1;obtain ⟨vo4,vcap4,rfl,-⟩:=owns_form hN4.2;have hkeep2:=And.intro ((set2_cell (w.heap.size+1+1) w4 (.bool nb) (.slice vo4 l4.length vcap4) w.heap.size 0 (by omega)).trans hkeep.1) ((set2_cell (w.heap.size+1+1) w4 (.bool nb) (.slice vo4 l4.length vcap4) (w.heap.size+1) 0 (by omega)).trans hkeep.2)))
     have hR5:=hR4.set nb (.slice vo4 l4.length vcap4)
     have q0:=hR5.c0
     have q1:=hR5.c1
     have hmE:=(hmw.drew.trans hm3).trans hm4
     have hmF:Mod (fun _=>False) w ((w4.setCell ⟨w.heap.size+1+1,0,none⟩ (.bool nb)).setCell ⟨w.heap.size+1+1,1,none⟩ (.slice vo4 l4.length vcap4)):=((hmE.mono (q:=fun i=>i=w.heap.size+1+1) (fun _ _ f=>f.elim)).trans (mod_set2 _ _ _ _)).mono (fun i hi h=>by omega)
     have HNE:Hid (NumEnd w tot (a.length+b.length+4) (.returned (nm2 nb (.slice vo4 l4.length vcap4))) ((w4.setCell ⟨w.heap.size+1+1,0,none⟩ (.bool nb)).setCell ⟨w.heap.size+1+1,1,none⟩ (.slice vo4 l4.length vcap4))) :=
      numEnd (l:=l4) hmF ⟨hN4.1,owns_set2 hN4.2 hR4 _ _⟩ (by rw [hx4];exact HTOT.out os hval) (by have:=HDL.out;omega)
     clear hN4 hown3 hval hx4 hmE hm3 hm4 hmw
     go_wp2_with fail
     exact bodyPost_ret (by simp [results,Tryz.results120,go_sem,q0,q1]) rfl HNE.out
    ·go_region_held3 (fun w'=>w'.cell? ⟨w.heap.size,0,none⟩=some (.bool true)∧w'.cell? ⟨w.heap.size+1,0,none⟩=some (.bool true))
      (first | go_keep | (exact hkeep) | (exact hkeep2))
      (first
       | (go_at_call 172;refine (carried_any (.slice (some ⟨w.heap.size+1+1+1,0,none⟩) (a.length+b.length) (a.length+b.length)) d wr.drew HO6.out HBD.out H0.out HLE.out).mono ?_;rintro e w3 ⟨hm3,v3,os,rfl,hown3,hdig,hval,hlen3⟩;have hkeep:=And.intro (hm3.cell (a:=wr.drew) hx0) (hm3.cell (a:=wr.drew) hy0))
       | (go_at_call 171;refine (made_any false v3 os w3 (owns_base hown3 (Nat.zero_le _)) hdig (by have:=HLE.out;omega)).mono ?_;rintro e w4 ⟨hm4,nb,v4,l4,rfl,hN4,hx4,hl4⟩;have hkeep:=And.intro (hm4.cell (hm3.cell (a:=wr.drew) hx0)) (hm4.cell (hm3.cell (a:=wr.drew) hy0));have hR4:=(hRd.keep hm3 (fun f=>f)).keep hm4 (fun f=>f);have r0:=hR4.c0;have r1:=hR4.c1;have f0:=hR4.fz 0;have f1:=hR4.fz 1;obtain ⟨vo4,vcap4,rfl,-⟩:=owns_form hN4.2;have hkeep2:=And.intro ((set2_cell (w.heap.size+1+1) w4 (.bool nb) (.slice vo4 l4.length vcap4) w.heap.size 0 (by omega)).trans hkeep.1) ((set2_cell (w.heap.size+1+1) w4 (.bool nb) (.slice vo4 l4.length vcap4) (w.heap.size+1) 0 (by omega)).trans hkeep.2)))
     have hR5:=hR4.set nb (.slice vo4 l4.length vcap4)
     have q0:=hR5.c0
     have q1:=hR5.c1
     have hmE:=(hmw.drew.trans hm3).trans hm4
     have hmF:Mod (fun _=>False) w ((w4.setCell ⟨w.heap.size+1+1,0,none⟩ (.bool nb)).setCell ⟨w.heap.size+1+1,1,none⟩ (.slice vo4 l4.length vcap4)):=((hmE.mono (q:=fun i=>i=w.heap.size+1+1) (fun _ _ f=>f.elim)).trans (mod_set2 _ _ _ _)).mono (fun i hi h=>by omega)
     have HNE:Hid (NumEnd w tot (a.length+b.length+4) (.returned (nm2 nb (.slice vo4 l4.length vcap4))) ((w4.setCell ⟨w.heap.size+1+1,0,none⟩ (.bool nb)).setCell ⟨w.heap.size+1+1,1,none⟩ (.slice vo4 l4.length vcap4))) :=
      numEnd (l:=l4) hmF ⟨hN4.1,owns_set2 hN4.2 hR4 _ _⟩ (by rw [hx4];exact HTOT.out os hval) (by have:=HDL.out;omega)
     clear hN4 hown3 hval hx4 hmE hm3 hm4 hmw
     go_wp2_with fail
     exact bodyPost_ret (by simp [results,Tryz.results120,go_sem,q0,q1]) rfl HNE.out
theorem Nmb.set1 {w:World} {b:Nat} {nb:Bool} {v:Value} (h:Nmb w b nb v) (u:Value):Nmb (w.setCell ⟨b,1,none⟩ u) b nb u:=by unfold Nmb at *;simp [World.setCell,Array.getElem?_modify,h]
set_option maxHeartbeats 1600000 in
set_option maxRecDepth 100000 in
theorem of_neg (n:Int) (w:World) (h1:-10000 < n) (h2:n < 10000) (hs:n < 0):Calls Tryz.prog 85 #[.int .i64 n] w (NumEnd w n 1):=by
 obtain ⟨i0,hi,hz0,hz1,hz2⟩:=info_parts Tryz.info3
 have hR:=nmb_new w false (.slice none 0 0)
 have hX:=nmb_new (w.alloc (.cells #[.bool false,.slice none 0 0] 116)) true (.slice none 0 0)
 have m1:Mod (fun _=>False) w (w.alloc (.cells #[.bool false,.slice none 0 0] 116)):=(Mod.refl _ w).alloc _
 have m2:Mod (fun _=>False) (w.alloc (.cells #[.bool false,.slice none 0 0] 116)) ((w.alloc (.cells #[.bool false,.slice none 0 0] 116)).alloc (.cells #[.bool true,.slice none 0 0] 116)):=(Mod.refl _ _).alloc _
 have hR2:=hR.keep m2 (fun f=>f)
 have hmW:=m1.trans m2
 simp only [World.size_alloc] at hX
 clear hR m1 m2
 have hsb:decide (n < 0)=true:=by simp;omega
 go_enter Tryz.func85,Tryz.ntmps85
 go_wp2_with fail
 clear hsb
 generalize (w.alloc (.cells #[.bool false,.slice none 0 0] 116)).alloc (.cells #[.bool true,.slice none 0 0] 116)=W at *
 have hWz:=hX.lt
 go_loopw [0] (fun nv wr=>∃ (m:Int) (ds:List Nat) (dv:Value),nv=.int .i64 m∧0≤m∧m < 10000∧ds.length≤1∧Nmb wr (w.heap.size+1) true dv∧wr.ownsRow W.heap.size 3 1 dv ds.length (ivs ds)∧Nmb wr w.heap.size false (.slice none 0 0)∧Mod (fun q=>q=w.heap.size+1) W wr∧Hid ((m=-n∧ds=[])∨(m=0∧ds=[(-n).toNat]∧0 < -n))) (fun nv _=>(intOf nv).toNat)
 case atStart=>exact ⟨-n,[],.slice none 0 0,rfl,by omega,by omega,by simp,hX,World.ownsRow_nil _ _ _ _,hR2,Mod.refl _ _,.inl ⟨rfl,rfl⟩⟩
 case round =>
  clear hX hR2
  obtain ⟨m,ds,dv,rfl,hm0,hm1,hdl,hX,hown,hR,hm,HC⟩:=hrel
  have hsz:=hm.size
  have hXl:=hX.lt
  have x0:=hX.c0
  have x1:=hX.c1
  have f0:=hX.fz 0
  have f1:=hX.fz 1
  obtain ⟨oo,ocap,rfl,-⟩:=owns_form hown
  by_cases hpos:0 < m
  ·have hc:m=-n∧ds=[]:=by
    rcases HC.out with h | h
    ·exact h
    ·omega
   obtain ⟨hmM,rfl⟩:=hc
   have HMM:Hid (m=-n):=hmM
   have HQ:Hid (m % 10000=((m.toNat:Nat):Int)):=show m % 10000=((m.toNat:Nat):Int) by omega
   have HQ2:Hid (m / 10000=0):=show m / 10000=0 by omega
   clear hmM
   go_wp2_with (at_builtin;refine wpList_append_own _ rfl _ _ 39 rfl W.heap.size 3 i0 (.int .i64 0) 1 8 Tryz.underlying39 hi hz0 hz1 hz2 rfl (by decide) _ _ _ rfl (hown.alloc _) ⟨wr.heap.size,0,none⟩ 1 1 [_] rfl rfl (cell_one_new _ _ _) ?c2 ?c3 ?c4 ?c5 ?_)
   case c2=>first | rfl | (intro u hu;simp at hu;subst hu;rfl)
   case c3=>unfold maxLen;simp
   case c5=>first | omega | (simp;omega)
   intro v4 w4 hown4 hgrow _
   have hgm:Mod (fun q=>W.heap.size≤q) wr w4:=((Mod.refl _ wr).alloc _).grown hgrow (fun q hq _=>(hown.lt q hq).1)
   have hX4:Nmb w4 (w.heap.size+1) true (.slice oo 0 ocap):=hX.keep hgm (by omega)
   have hR4:=hR.keep hgm (by omega)
   have hown5:w4.ownsRow W.heap.size 3 1 v4 [m.toNat].length (ivs [m.toNat]):=by
    have e:ivs [m.toNat]=[.int .i64 (m % 10000)]:=by simp [ivs,HQ.out]
    rw [e];exact hown4
   have hm5:Mod (fun q=>q=w.heap.size+1) W w4:=⟨hgm.os.trans hm.os,hgm.tape.trans hm.tape,hgm.output.trans hm.output,Nat.le_trans hm.size hgm.size,fun k hk hp=>(hgm.block k (by omega) (by omega)).trans (hm.block k hk hp)⟩
   obtain ⟨oo4,ocap4,rfl,-⟩:=owns_form hown4
   clear x0 x1 f0 f1
   have x1:=hX4.c1
   have f1:=hX4.fz 1
   have hX6:=hX4.set1 (.slice oo4 (0+1) ocap4)
   have hmS:Mod (fun q=>q=w.heap.size+1) w4 (w4.setCell ⟨w.heap.size+1,1,none⟩ (.slice oo4 (0+1) ocap4)):=(Mod.refl (fun q=>q=w.heap.size+1) w4).setCell _ _ (fun _=>rfl)
   have hR6:=hR4.keep hmS (by omega)
   have hown6:=owns_mod hown5 hmS (fun q hq he=>by omega)
   have hm6:=hm5.trans hmS
   clear hgrow hgm hown4 hown5 hX4 hR4 hmS hm5 hown hX hR hm
   go_wp2_with fail
   go_roundw
   case rel=>exact ⟨m / 10000,[m.toNat],_,rfl,by omega,by omega,by simp,hX6,hown6,hR6,hm6,.inr ⟨HQ2.out,by rw [HMM.out],by have:=HMM.out;omega⟩⟩
   case measure=>rw [HQ2.out];simp [intOf];omega
  ·have HM0:Hid (m=0):=show m=0 by omega
   have hmF0:Mod (fun _=>False) w wr:=((hmW.mono (q:=fun q=>q=w.heap.size+1) (fun _ _ f=>f.elim)).trans hm).mono (fun q hq h=>by omega)
   have r0:=hR.c0
   have r1:=hR.c1
   have g0:=hR.fz 0
   have g1:=hR.fz 1
   have hR5:=hR.set true (.slice oo ds.length ocap)
   have q0:=hR5.c0
   have q1:=hR5.c1
   have hmF:Mod (fun _=>False) w ((wr.setCell ⟨w.heap.size,0,none⟩ (.bool true)).setCell ⟨w.heap.size,1,none⟩ (.slice oo ds.length ocap)):=((hmF0.mono (q:=fun q=>q=w.heap.size) (fun _ _ f=>f.elim)).trans (mod_set2 _ _ _ _)).mono (fun i hi h=>by omega)
   have HNE:Hid (NumEnd w n 1 (.returned (nm2 true (.slice oo ds.length ocap))) ((wr.setCell ⟨w.heap.size,0,none⟩ (.bool true)).setCell ⟨w.heap.size,1,none⟩ (.slice oo ds.length ocap))):=by
    refine numEnd (l:=ds) hmF ⟨?_,owns_set2 (owns_base hown (Nat.zero_le _)) hR _ _⟩ ?_ hdl
    ·rcases HC.out with ⟨h,rfl⟩ | ⟨_,rfl,hp⟩
     ·have:=HM0.out;omega
     ·exact ⟨fun d hd=>by simp at hd;omega,fun d hd=>by simp at hd;omega,fun e=>by cases e⟩
    ·rcases HC.out with ⟨h,rfl⟩ | ⟨_,rfl,hp⟩
     ·have:=HM0.out;omega
     ·simp [num,val];omega
   clear hown hm hX hmF0
   go_wp2_with fail
   exact bodyPost_ret (by simp [results,Tryz.results85,go_sem,q0,q1]) rfl HNE.out
set_option maxHeartbeats 1600000 in
set_option maxRecDepth 100000 in
theorem of_pos (n:Int) (w:World) (h1:-10000 < n) (h2:n < 10000) (hs:0≤n):Calls Tryz.prog 85 #[.int .i64 n] w (NumEnd w n 1):=by
 obtain ⟨i0,hi,hz0,hz1,hz2⟩:=info_parts Tryz.info3
 have hR:=nmb_new w false (.slice none 0 0)
 have hX:=nmb_new (w.alloc (.cells #[.bool false,.slice none 0 0] 116)) false (.slice none 0 0)
 have m1:Mod (fun _=>False) w (w.alloc (.cells #[.bool false,.slice none 0 0] 116)):=(Mod.refl _ w).alloc _
 have m2:Mod (fun _=>False) (w.alloc (.cells #[.bool false,.slice none 0 0] 116)) ((w.alloc (.cells #[.bool false,.slice none 0 0] 116)).alloc (.cells #[.bool false,.slice none 0 0] 116)):=(Mod.refl _ _).alloc _
 have hR2:=hR.keep m2 (fun f=>f)
 have hmW:=m1.trans m2
 simp only [World.size_alloc] at hX
 clear hR m1 m2
 have hsb:decide (n < 0)=false:=by simp;omega
 go_enter Tryz.func85,Tryz.ntmps85
 go_wp2_with fail
 clear hsb
 generalize (w.alloc (.cells #[.bool false,.slice none 0 0] 116)).alloc (.cells #[.bool false,.slice none 0 0] 116)=W at *
 have hWz:=hX.lt
 go_loopw [0] (fun nv wr=>∃ (m:Int) (ds:List Nat) (dv:Value),nv=.int .i64 m∧0≤m∧m < 10000∧ds.length≤1∧Nmb wr (w.heap.size+1) false dv∧wr.ownsRow W.heap.size 3 1 dv ds.length (ivs ds)∧Nmb wr w.heap.size false (.slice none 0 0)∧Mod (fun q=>q=w.heap.size+1) W wr∧Hid ((m=n∧ds=[])∨(m=0∧ds=[(n).toNat]∧0 < n))) (fun nv _=>(intOf nv).toNat)
 case atStart=>exact ⟨n,[],.slice none 0 0,rfl,by omega,by omega,by simp,hX,World.ownsRow_nil _ _ _ _,hR2,Mod.refl _ _,.inl ⟨rfl,rfl⟩⟩
 case round =>
  clear hX hR2
  obtain ⟨m,ds,dv,rfl,hm0,hm1,hdl,hX,hown,hR,hm,HC⟩:=hrel
  have hsz:=hm.size
  have hXl:=hX.lt
  have x0:=hX.c0
  have x1:=hX.c1
  have f0:=hX.fz 0
  have f1:=hX.fz 1
  obtain ⟨oo,ocap,rfl,-⟩:=owns_form hown
  by_cases hpos:0 < m
  ·have hc:m=n∧ds=[]:=by
    rcases HC.out with h | h
    ·exact h
    ·omega
   obtain ⟨hmM,rfl⟩:=hc
   have HMM:Hid (m=n):=hmM
   have HQ:Hid (m % 10000=((m.toNat:Nat):Int)):=show m % 10000=((m.toNat:Nat):Int) by omega
   have HQ2:Hid (m / 10000=0):=show m / 10000=0 by omega
   clear hmM
   go_wp2_with (at_builtin;refine wpList_append_own _ rfl _ _ 39 rfl W.heap.size 3 i0 (.int .i64 0) 1 8 Tryz.underlying39 hi hz0 hz1 hz2 rfl (by decide) _ _ _ rfl (hown.alloc _) ⟨wr.heap.size,0,none⟩ 1 1 [_] rfl rfl (cell_one_new _ _ _) ?c2 ?c3 ?c4 ?c5 ?_)
   case c2=>first | rfl | (intro u hu;simp at hu;subst hu;rfl)
   case c3=>unfold maxLen;simp
   case c5=>first | omega | (simp;omega)
   intro v4 w4 hown4 hgrow _
   have hgm:Mod (fun q=>W.heap.size≤q) wr w4:=((Mod.refl _ wr).alloc _).grown hgrow (fun q hq _=>(hown.lt q hq).1)
   have hX4:Nmb w4 (w.heap.size+1) false (.slice oo 0 ocap):=hX.keep hgm (by omega)
   have hR4:=hR.keep hgm (by omega)
   have hown5:w4.ownsRow W.heap.size 3 1 v4 [m.toNat].length (ivs [m.toNat]):=by
    have e:ivs [m.toNat]=[.int .i64 (m % 10000)]:=by simp [ivs,HQ.out]
    rw [e];exact hown4
   have hm5:Mod (fun q=>q=w.heap.size+1) W w4:=⟨hgm.os.trans hm.os,hgm.tape.trans hm.tape,hgm.output.trans hm.output,Nat.le_trans hm.size hgm.size,fun k hk hp=>(hgm.block k (by omega) (by omega)).trans (hm.block k hk hp)⟩
   obtain ⟨oo4,ocap4,rfl,-⟩:=owns_form hown4
   clear x0 x1 f0 f1
   have x1:=hX4.c1
   have f1:=hX4.fz 1
   have hX6:=hX4.set1 (.slice oo4 (0+1) ocap4)
   have hmS:Mod (fun q=>q=w.heap.size+1) w4 (w4.setCell ⟨w.heap.size+1,1,none⟩ (.slice oo4 (0+1) ocap4)):=(Mod.refl (fun q=>q=w.heap.size+1) w4).setCell _ _ (fun _=>rfl)
   have hR6:=hR4.keep hmS (by omega)
   have hown6:=owns_mod hown5 hmS (fun q hq he=>by omega)
   have hm6:=hm5.trans hmS
   clear hgrow hgm hown4 hown5 hX4 hR4 hmS hm5 hown hX hR hm
   go_wp2_with fail
   go_roundw
   case rel=>exact ⟨m / 10000,[m.toNat],_,rfl,by omega,by omega,by simp,hX6,hown6,hR6,hm6,.inr ⟨HQ2.out,by rw [HMM.out],by have:=HMM.out;omega⟩⟩
   case measure=>rw [HQ2.out];simp [intOf];omega
  ·have HM0:Hid (m=0):=show m=0 by omega
   have hmF0:Mod (fun _=>False) w wr:=((hmW.mono (q:=fun q=>q=w.heap.size+1) (fun _ _ f=>f.elim)).trans hm).mono (fun q hq h=>by omega)
   have r0:=hR.c0
   have r1:=hR.c1
   have g0:=hR.fz 0
   have g1:=hR.fz 1
   have hR5:=hR.set false (.slice oo ds.length ocap)
   have q0:=hR5.c0
   have q1:=hR5.c1
   have hmF:Mod (fun _=>False) w ((wr.setCell ⟨w.heap.size,0,none⟩ (.bool false)).setCell ⟨w.heap.size,1,none⟩ (.slice oo ds.length ocap)):=((hmF0.mono (q:=fun q=>q=w.heap.size) (fun _ _ f=>f.elim)).trans (mod_set2 _ _ _ _)).mono (fun i hi h=>by omega)
   have HNE:Hid (NumEnd w n 1 (.returned (nm2 false (.slice oo ds.length ocap))) ((wr.setCell ⟨w.heap.size,0,none⟩ (.bool false)).setCell ⟨w.heap.size,1,none⟩ (.slice oo ds.length ocap))):=by
    refine numEnd (l:=ds) hmF ⟨?_,owns_set2 (owns_base hown (Nat.zero_le _)) hR _ _⟩ ?_ hdl
    ·rcases HC.out with ⟨h,rfl⟩ | ⟨_,rfl,hp⟩
     ·exact ⟨fun d hd=>by simp at hd,fun d hd=>by simp at hd,fun _=>rfl⟩
     ·exact ⟨fun d hd=>by simp at hd;omega,fun d hd=>by simp at hd;omega,fun e=>by cases e⟩
    ·rcases HC.out with ⟨h,rfl⟩ | ⟨_,rfl,hp⟩
     ·have:=HM0.out;simp [num,val];omega
     ·simp [num,val];omega
   clear hown hm hX hmF0
   go_wp2_with fail
   exact bodyPost_ret (by simp [results,Tryz.results85,go_sem,q0,q1]) rfl HNE.out
theorem of_any (n:Int) (w:World) (h1:-10000 < n) (h2:n < 10000):Calls Tryz.prog 85 #[.int .i64 n] w (NumEnd w n 1):=by
 by_cases h:n < 0
 ·exact of_neg n w h1 h2 h
 ·exact of_pos n w h1 h2 (by omega)
theorem one_byte (w:World) (n:Nat) (hn:n < 256) :
  (convert 75 9 (.slice (some ⟨w.heap.size,0,none⟩) 1 1)).run Tryz.prog (w.alloc (.cells #[.int .u8 (n:Int)] 5))
   = .ok (.string ⟨#[UInt8.ofNat n]⟩) (w.alloc (.cells #[.int .u8 (n:Int)] 5)):=by
 refine run_convert_bytes_back (P:=Tryz.prog) _ 75 9 5 ⟨w.heap.size,0,none⟩ 1 [UInt8.ofNat n] Tryz.underlying75 Tryz.underlying5 Tryz.underlying9 ?_
 intro j hj
 have hj2:j=0:=by simpa using hj
 subst hj2
 have hc:(w.alloc (.cells #[.int .u8 (n:Int)] 5)).cell? ⟨w.heap.size,0,none⟩=#[Value.int .u8 (n:Int)][0]?:=World.cell?_alloc_mark w _ _ _ 0
 have ha:(⟨w.heap.size,0,none⟩:Addr).add 0=⟨w.heap.size,0,none⟩:=by simp [Addr.add]
 rw [ha,hc]
 simp
 omega
set_option maxHeartbeats 800000 in
set_option maxRecDepth 100000 in
theorem decimal_nat (n:Nat) (w:World) (hn:n≤99):Calls Tryz.prog 78 #[.int .i64 (n:Int)] w fun e w'=>e=.returned (.string (dec (n:Int)))∧Mod (fun _=>False) w w':=by
 have HD:Hid (dec (n:Int)=⟨(decN n).toArray⟩):=dec_nat n
 have hq:(48:Int)+(n:Int) / 10=((48+n / 10:Nat):Int):=by omega
 have hr:(48:Int)+(n:Int) % 10=((48+n % 10:Nat):Int):=by omega
 generalize dec (n:Int)=ans at *
 by_cases h9:9 < n
 ·have HE:Hid (ans=⟨#[UInt8.ofNat (48+n / 10),UInt8.ofNat (48+n % 10)]⟩):=show _=_ by rw [HD.out];unfold decN;rw [if_pos h9]
  have k1:=one_byte w (48+n / 10) (by omega)
  have k2:=one_byte (w.alloc (.cells #[.int .u8 ((48+n / 10:Nat):Int)] 5)) (48+n % 10) (by omega)
  have hm:Mod (fun _=>False) w ((w.alloc (.cells #[.int .u8 ((48+n / 10:Nat):Int)] 5)).alloc (.cells #[.int .u8 ((48+n % 10:Nat):Int)] 5)):=((Mod.refl _ w).alloc _).alloc _
  simp only [World.size_alloc] at k2
  rw [← hq] at k1 k2 hm
  rw [← hr] at k2 hm
  generalize UInt8.ofNat (48+n / 10)=b1 at *
  generalize UInt8.ofNat (48+n % 10)=b2 at *
  clear hq hr HD
  go_enter Tryz.func78,Tryz.ntmps78
  go_wp2_with fail
  go_ret
  exact ⟨by rw [HE.out];rfl,hm⟩
 ·have HE:Hid (ans=⟨#[UInt8.ofNat (48+n % 10)]⟩):=show _=_ by rw [HD.out];unfold decN;rw [if_neg h9]
  have k2:=one_byte w (48+n % 10) (by omega)
  have hm:Mod (fun _=>False) w (w.alloc (.cells #[.int .u8 ((48+n % 10:Nat):Int)] 5)):=(Mod.refl _ w).alloc _
  rw [← hr] at k2 hm
  generalize UInt8.ofNat (48+n % 10)=b2 at *
  clear hq hr HD
  go_enter Tryz.func78,Tryz.ntmps78
  go_wp2_with fail
  go_ret
  exact ⟨by rw [HE.out];rfl,hm⟩
set_option maxHeartbeats 800000 in
set_option maxRecDepth 100000 in
theorem decimal_neg (n:Nat) (w:World) (h0:0 < n) (hn:n≤99):Calls Tryz.prog 78 #[.int .i64 (-(n:Int))] w fun e w'=>e=.returned (.string (dec (-(n:Int))))∧Mod (fun _=>False) w w':=by
 have HD:Hid (dec (-(n:Int))=⟨(45 :: decN n).toArray⟩):=dec_neg n h0
 have hq:(48:Int)+(n:Int) / 10=((48+n / 10:Nat):Int):=by omega
 have hr:(48:Int)+(n:Int) % 10=((48+n % 10:Nat):Int):=by omega
 generalize dec (-(n:Int))=ans at *
 by_cases h9:9 < n
 ·have HE:Hid (ans=⟨#[45,UInt8.ofNat (48+n / 10),UInt8.ofNat (48+n % 10)]⟩):=show _=_ by rw [HD.out];unfold decN;rw [if_pos h9]
  have k1:=one_byte w (48+n / 10) (by omega)
  have k2:=one_byte (w.alloc (.cells #[.int .u8 ((48+n / 10:Nat):Int)] 5)) (48+n % 10) (by omega)
  have hm:Mod (fun _=>False) w ((w.alloc (.cells #[.int .u8 ((48+n / 10:Nat):Int)] 5)).alloc (.cells #[.int .u8 ((48+n % 10:Nat):Int)] 5)):=((Mod.refl _ w).alloc _).alloc _
  simp only [World.size_alloc] at k2
  rw [← hq] at k1 k2 hm
  rw [← hr] at k2 hm
  generalize UInt8.ofNat (48+n / 10)=b1 at *
  generalize UInt8.ofNat (48+n % 10)=b2 at *
  clear hq hr HD
  go_enter Tryz.func78,Tryz.ntmps78
  go_wp2_with fail
  go_ret
  exact ⟨by rw [HE.out];rfl,hm⟩
 ·have HE:Hid (ans=⟨#[45,UInt8.ofNat (48+n % 10)]⟩):=show _=_ by rw [HD.out];unfold decN;rw [if_neg h9]
  have k2:=one_byte w (48+n % 10) (by omega)
  have hm:Mod (fun _=>False) w (w.alloc (.cells #[.int .u8 ((48+n % 10:Nat):Int)] 5)):=(Mod.refl _ w).alloc _
  rw [← hr] at k2 hm
  generalize UInt8.ofNat (48+n % 10)=b2 at *
  clear hq hr HD
  go_enter Tryz.func78,Tryz.ntmps78
  go_wp2_with fail
  go_ret
  exact ⟨by rw [HE.out];rfl,hm⟩
theorem decimal_any (n:Int) (w:World) (h1:-99≤n) (h2:n≤99):Calls Tryz.prog 78 #[.int .i64 n] w fun e w'=>e=.returned (.string (dec n))∧Mod (fun _=>False) w w':=by
 by_cases h:n < 0
 ·have:=decimal_neg n.natAbs w (by omega) (by omega)
  rwa [show -((n.natAbs:Nat):Int)=n by omega] at this
 ·have:=decimal_nat n.natAbs w (by omega)
  rwa [show ((n.natAbs:Nat):Int)=n by omega] at this
theorem bytes_inj {a b:ByteArray} (h:a.toList=b.toList):a=b:=by
 obtain ⟨⟨a⟩⟩:=a
 obtain ⟨⟨b⟩⟩:=b
 rw [ByteArray.toList_mk,ByteArray.toList_mk] at h
 rw [h]
def numAns (o:Option Int):Value:=match o with
 | some n=>.tuple #[.int .i64 n,.bool true]
 | none=>.tuple #[.int .i64 0,.bool false]
set_option maxHeartbeats 800000 in
set_option maxRecDepth 100000 in
theorem numeral_any (t:ByteArray) (w:World):Calls Tryz.prog 74 #[.string t] w fun e w'=>e=.returned (numAns (numer t))∧Mod (fun _=>False) w w':=by
 go_enter Tryz.func74,Tryz.ntmps74
 go_wp2_with fail
 go_loopw [4] (fun nv wr=>∃ j:Nat,j≤199∧nv=.int .i64 ((j:Int) - 99)∧Mod (fun _=>False) w wr∧Hid (∀ i:Nat,i < j→t≠dec ((i:Int) - 99))) (fun nv _=>(100 - intOf nv).toNat)
 case atStart=>exact ⟨0,by omega,rfl,Mod.refl _ _,fun i hi=>by omega⟩
 case round =>
  obtain ⟨j,hj,rfl,hm,HN⟩:=hrel
  by_cases hlt:j < 199
  ·go_wp2_with fail
   refine (decimal_any ((j:Int) - 99) _ (by omega) (by omega)).mono ?_
   rintro e w2 ⟨rfl,hm2⟩
   have hm3:=hm.trans hm2
   clear hm hm2
   by_cases heq:t=dec ((j:Int) - 99)
   ·have HV:Hid (numer t=some ((j:Int) - 99)):=numer_some hlt heq HN.out
    have hb:(t.toList == (dec ((j:Int) - 99)).toList)=true:=by rw [← heq];exact beq_self_eq_true _
    clear heq HN
    go_wp2_with fail
    go_ret2
    exact ⟨by rw [HV.out];rfl,hm3⟩
   ·have HN2:Hid (∀ i:Nat,i < j+1→t≠dec ((i:Int) - 99)):=fun i hi=>by
     by_cases e:i=j
     ·subst e;exact heq
     ·exact HN.out i (by omega)
    have hb:(t.toList == (dec ((j:Int) - 99)).toList)=false:=by rw [beq_eq_false_iff_ne];exact fun e=>heq (bytes_inj e)
    clear heq HN
    go_wp2_with fail
    go_roundw
    case rel=>exact ⟨j+1,by omega,by go_num,hm3,HN2⟩
    case measure=>simp [intOf];omega
  ·have HV:Hid (numer t=none):=numer_none (fun i hi=>HN.out i (by omega))
   go_wp2_with fail
   go_ret2
   exact ⟨by rw [HV.out];rfl,hm⟩
def InpEnd (w:World) (o:Option (List Int)) (e:Ending) (w':World):Prop:=Mod (fun _=>False) w w'∧match o with
 | none=>e=.returned (.tuple #[.slice none 0 0,.bool false])
 | some l=>∃ v,e=.returned (.tuple #[v,.bool true])∧w'.ownsRow w.heap.size 3 1 v l.length (zvs l)
theorem inpEnd_none {w w':World} (hm:Mod (fun _=>False) w w'):InpEnd w none (.returned (.tuple #[.slice none 0 0,.bool false])) w':=⟨hm,rfl⟩
theorem inpEnd_some {w w':World} {l:List Int} {v:Value} (hm:Mod (fun _=>False) w w') (h:w'.ownsRow w.heap.size 3 1 v l.length (zvs l)):InpEnd w (some l) (.returned (.tuple #[v,.bool true])) w':=⟨hm,v,rfl,h⟩
set_option maxHeartbeats 800000 in
set_option maxRecDepth 100000 in
theorem inputs_any (s:ByteArray) (w:World) (hs:s.size≤2000000):Calls Tryz.prog 45 #[.string s] w (InpEnd w (inps s)):=by
 obtain ⟨i0,hi,hz0,hz1,hz2⟩:=info_parts Tryz.info3
 by_cases h0:s.size=0
 ·have hse:s=⟨#[]⟩:=by
   apply ByteArray.ext
   exact Array.eq_empty_of_size_eq_zero h0
  have HV:Hid (inps s=some []):=show _=_ by simp [inps,h0]
  have hb:(s.toList == ([]:List UInt8))=true:=by rw [hse,ByteArray.toList_mk []];rfl
  clear hse h0
  generalize inps s=ans at *
  go_enter Tryz.func45,Tryz.ntmps45
  go_wp2_with fail
  go_ret2
  rw [HV.out]
  exact inpEnd_some (Mod.refl _ _) (World.ownsRow_nil _ _ _ _)
 ·have hb:(s.toList == ([]:List UInt8))=false:=by
   rw [beq_eq_false_iff_ne]
   intro e
   have:s=⟨#[]⟩:=bytes_inj (by rw [e];exact (ByteArray.toList_mk []).symm)
   rw [this] at h0
   exact h0 rfl
  have H0:Hid (s.size≠0):=h0
  clear h0
  go_enter Tryz.func45,Tryz.ntmps45
  go_wp2_with fail
  go_loopw [4,5,6,7,8] (fun lv fv iv _ _ wr=>∃ (i f:Nat) (l:List Int),i≤s.size+1∧iv=.int .i64 i∧fv=.int .i64 f∧f≤i∧l.length≤i∧wr.ownsRow w.heap.size 3 1 lv l.length (zvs l)∧Mod (fun _=>False) w wr∧Hid (inpSt s i=some (f,l))) (fun _ _ iv _ _ _=>s.size+1 - (intOf iv).toNat)
  case atStart=>exact ⟨0,0,[],by omega,rfl,rfl,by omega,by simp,World.ownsRow_nil _ _ _ _,Mod.refl _ _,rfl⟩
  case round =>
   obtain ⟨i,f,l,hil,rfl,rfl,hfi,hll,hown,hm,HI⟩:=hrel
   obtain ⟨lo,lcap,rfl,-⟩:=owns_form hown
   by_cases hlt:i≤s.size
   ·by_cases hc:i=s.size∨g s i=44
    ·have HBAD:Hid (numer (s.extract f i)=none→inps s=none):=fun h=>inps_bad H0.out hlt HI.out hc h
     have HNUM:Hid (∀ n,numer (s.extract f i)=some n→inpSt s (i+1)=some (i+1,l++[n])):=fun n h=>inpSt_num HI.out hc h
     by_cases hie:i=s.size
     ·have b1:((i:Int) == (s.size:Int))=true:=beq_t hie
      clear hie
      clear hc
      go_wp2_with fail
      refine (numeral_any (s.extract f i) _).mono ?_
      rintro e w2 ⟨he,hm2⟩
      have hm3:=hm.trans hm2
      have hown3:=owns_mod hown hm2 (fun _ _ f=>f)
      clear hm hm2 hown
      cases hnu:numer (s.extract f i) with
      | none =>
       have HV:Hid (inps s=none):=HBAD.out hnu
       rw [hnu] at he
       simp only [numAns] at he
       subst he
       go_wp2_with fail
       go_ret2
       rw [HV.out]
       exact inpEnd_none hm3
      | some n =>
       have hr:=numer_range hnu
       have hsz:=hm3.size
       have HI2:Hid (inpSt s (i+1)=some (i+1,l++[n])):=HNUM.out n hnu
       rw [hnu] at he
       simp only [numAns] at he
       subst he
       clear hnu HBAD HNUM HI
       go_wp2_with (at_builtin;refine wpList_append_own _ rfl _ _ 39 rfl w.heap.size 3 i0 (.int .i64 0) 1 8 Tryz.underlying39 hi hz0 hz1 hz2 rfl (by decide) _ _ _ rfl (hown3.alloc _) ⟨w2.heap.size,0,none⟩ 1 1 [.int .i64 n] rfl rfl ?p1 ?p2 ?p3 ?p4 ?p5 ?_)
       case p1=>exact cell_one_new _ _ _
       case p2=>first | rfl | (intro u hu;simp at hu;subst hu;rfl)
       case p3=>unfold maxLen;omega
       case p4=>omega
       case p5=>first | omega | (simp;omega)
       intro v4 w4 hown4 hgrow _
       have hm4:Mod (fun _=>False) w w4:=(hm3.alloc _).grown hgrow (fun q hq hlt=>by have:=(hown3.lt q hq).1;omega)
       have hown5:w4.ownsRow w.heap.size 3 1 v4 (l++[n]).length (zvs (l++[n])):=by
        have e1:zvs (l++[n])=zvs l++[.int .i64 n]:=by simp [zvs]
        rw [e1,List.length_append];exact hown4
       obtain ⟨oo4,ocap4,rfl,-⟩:=owns_form hown4
       clear hown4 hgrow hown3 hm3
       go_wp2_with fail
       go_roundw
       case rel=>exact ⟨i+1,i+1,l++[n],by omega,by go_num,by go_num,by omega,by simp;omega,hown5,hm4,HI2⟩
       case measure=>simp [intOf];omega
     ·have b1:((i:Int) == (s.size:Int))=false:=beq_f hie
      have hlt2:i < s.size:=by omega
      have hlt3:(i:Int) < (s.size:Int):=by omega
      have b2:(((s[i]'hlt2).toNat:Int) == 44)=true:=beq_t (m:=44) (by rw [← g_in hlt2];omega)
      clear hc
      go_wp2_with fail
      refine (numeral_any (s.extract f i) _).mono ?_
      rintro e w2 ⟨he,hm2⟩
      have hm3:=hm.trans hm2
      have hown3:=owns_mod hown hm2 (fun _ _ f=>f)
      clear hm hm2 hown
      cases hnu:numer (s.extract f i) with
      | none =>
       have HV:Hid (inps s=none):=HBAD.out hnu
       rw [hnu] at he
       simp only [numAns] at he
       subst he
       go_wp2_with fail
       go_ret2
       rw [HV.out]
       exact inpEnd_none hm3
      | some n =>
       have hr:=numer_range hnu
       have hsz:=hm3.size
       have HI2:Hid (inpSt s (i+1)=some (i+1,l++[n])):=HNUM.out n hnu
       rw [hnu] at he
       simp only [numAns] at he
       subst he
       clear hnu HBAD HNUM HI
       go_wp2_with (at_builtin;refine wpList_append_own _ rfl _ _ 39 rfl w.heap.size 3 i0 (.int .i64 0) 1 8 Tryz.underlying39 hi hz0 hz1 hz2 rfl (by decide) _ _ _ rfl (hown3.alloc _) ⟨w2.heap.size,0,none⟩ 1 1 [.int .i64 n] rfl rfl ?p1 ?p2 ?p3 ?p4 ?p5 ?_)
       case p1=>exact cell_one_new _ _ _
       case p2=>first | rfl | (intro u hu;simp at hu;subst hu;rfl)
       case p3=>unfold maxLen;omega
       case p4=>omega
       case p5=>first | omega | (simp;omega)
       intro v4 w4 hown4 hgrow _
       have hm4:Mod (fun _=>False) w w4:=(hm3.alloc _).grown hgrow (fun q hq hlt=>by have:=(hown3.lt q hq).1;omega)
       have hown5:w4.ownsRow w.heap.size 3 1 v4 (l++[n]).length (zvs (l++[n])):=by
        have e1:zvs (l++[n])=zvs l++[.int .i64 n]:=by simp [zvs]
        rw [e1,List.length_append];exact hown4
       obtain ⟨oo4,ocap4,rfl,-⟩:=owns_form hown4
       clear hown4 hgrow hown3 hm3
       go_wp2_with fail
       go_roundw
       case rel=>exact ⟨i+1,i+1,l++[n],by omega,by go_num,by go_num,by omega,by simp;omega,hown5,hm4,HI2⟩
       case measure=>simp [intOf];omega
    ·have HI2:Hid (inpSt s (i+1)=some (f,l)):=inpSt_on HI.out hc
     have hlt2:i < s.size:=by omega
     have hlt3:(i:Int) < (s.size:Int):=by omega
     have b1:((i:Int) == (s.size:Int))=false:=beq_f (by omega)
     have b2:(((s[i]'hlt2).toNat:Int) == 44)=false:=beq_f (m:=44) (by rw [← g_in hlt2];omega)
     clear HI hc
     go_wp2_with fail
     go_roundw
     case rel=>exact ⟨i+1,f,l,by omega,by go_num,rfl,by omega,by omega,hown,hm,HI2⟩
     case measure=>simp [intOf];omega
   ·have hi':i=s.size+1:=by omega
    have HV:Hid (inps s=some l):=inps_good H0.out (by rw [← hi'];exact HI.out)
    generalize inps s=ans at *
    clear hi' HI
    go_wp2_with fail
    go_ret2
    rw [HV.out]
    exact inpEnd_some hm hown
end Go.Proofs.YtmnfndpbblpjiaaGreatDoor

/- The document's value: the sums, differences and products of registers. -/
import Derived.Test.YtmnfndpbblpjiabGreatDoorZx14
set_option maxHeartbeats 1600000
set_option maxRecDepth 100000
namespace Go.Proofs.YtmnfndpbblpjiabGreatDoor
open Go.RowKit Pu
theorem Oz (t:Stp) (gr rn lN:Nat) (iv:Value) (nx ny:Bool) (u v:Value) (a b:List Nat) (w:World) (hs:Small t) (hop:t.op=2) (hy:t.y < rn) (hz:t.z < rn) (_hrn:rn<=128) (hgr:gr < w.heap.size)
  (uL:w.cell? ⟨gr,t.y*2,none⟩=some (.bool nx)) (uM:w.cell? ⟨gr,t.y*2+1,none⟩=some u) (Fx:w.cell? ⟨gr,t.z*2,none⟩=some (.bool ny)) (Fy:w.cell? ⟨gr,t.z*2+1,none⟩=some v)
  (hU:Nm w nx u a) (hV:Nm w ny v b) (la:a.length<=50000) (lb:b.length<=50000) :
  Calls Tryz.prog 105 #[V4 t,.slice (some ⟨gr,0,none⟩) rn lN,iv] w (NumEnd w (num nx a+num ny b) (max a.length b.length+4)):=by
 obtain⟨ao,aK,rfl,-⟩:=aj hU.2
 obtain⟨bo,cK,rfl,-⟩:=aj hV.2
 obtain⟨s0,s1,s2,s3⟩:=hs
 have hS:=nC w t
 have hR:=bO (w.alloc (.cells #[.int .i64 t.op,.int .i64 t.x,.int .i64 t.y,.int .i64 t.z] 152)) false (.slice none 0 0)
 have m1:Mod (fun _=>False) w (w.alloc (.cells #[.int .i64 t.op,.int .i64 t.x,.int .i64 t.y,.int .i64 t.z] 152)):=(Mod.refl _ w).alloc _
 have m2:Mod (fun _=>False) (w.alloc (.cells #[.int .i64 t.op,.int .i64 t.x,.int .i64 t.y,.int .i64 t.z] 152)) ((w.alloc (.cells #[.int .i64 t.op,.int .i64 t.x,.int .i64 t.y,.int .i64 t.z] 152)).alloc (.cells #[.bool false,.slice none 0 0] 154)):=(Mod.refl _ _).alloc _
 have hS2:xJ ((w.alloc (.cells #[.int .i64 t.op,.int .i64 t.x,.int .i64 t.y,.int .i64 t.z] 152)).alloc (.cells #[.bool false,.slice none 0 0] 154)) w.heap.size t:=m2.keep hS (fun f=>f)
 have fK:=m1.trans m2
 have Ci:=hU.mod fK
 have CW:=hV.mod fK
 have d0:=fK.cell uL
 have d1:=fK.cell uM
 have d2:=fK.cell Fx
 have d3:=fK.cell Fy
 simp only[World.size_alloc]at hR
 have o0:((t.op:Int) == 0)=false:=aF (m:=0) (by omega)
 have o1:((t.op:Int) == 1)=false:=aF (m:=1) (by omega)
 have o2:((t.op:Int) == 2)=true:=bN (m:=2) (by omega)
 have o3:((t.op:Int) == 3)=false:=aF (m:=3) (by omega)
 have o4:((t.op:Int) == 4)=false:=aF (m:=4) (by omega)
 have e0:=hS2.c0
 have e2:=hS2.c2
 have e3:=hS2.c3
 have i1:(0:Int)<=(t.y:Int):=by omega
 have i2:(t.y:Int) < (rn:Int):=by omega
 have i3:(0:Int)<=(t.z:Int):=by omega
 have i4:(t.z:Int) < (rn:Int):=by omega
 clear hS m1 m2 hU hV uL uM Fx Fy hop
 go_in
 go_wp2_with fail
 generalize (w.alloc (.cells #[.int .i64 t.op,.int .i64 t.x,.int .i64 t.y,.int .i64 t.z] 152)).alloc (.cells #[.bool false,.slice none 0 0] 154)=W at *
 have Iz:pV W.drew (w.heap.size+1) false (.slice none 0 0):=hR
 have Ag:Mod (fun _=>False) W W.drew:=(Mod.refl _ W).drew
 have HU:Hid (Nm W.drew nx (.slice ao a.length aK) a):=Ci.mod Ag
 have HV:Hid (Nm W.drew ny (.slice bo b.length cK) b):=CW.mod Ag
 clear Ci CW
 go_region_held3 (fun w'=>w'.cell? ⟨w.heap.size,2,none⟩=some (.int .i64 t.y)/\w'.cell? ⟨w.heap.size,3,none⟩=some (.int .i64 t.z)/\w'.cell? ⟨gr,t.y*2,none⟩=some (.bool nx)/\w'.cell? ⟨gr,t.y*2+1,none⟩=some (.slice ao a.length aK)/\w'.cell? ⟨gr,t.z*2,none⟩=some (.bool ny)/\w'.cell? ⟨gr,t.z*2+1,none⟩=some (.slice bo b.length cK))
  (first | go_keep | (exact hkeep) | (exact dG))
  ((go_at_call 151;refine (A9 nx ny (.slice ao a.length aK) (.slice bo b.length cK) a b W.drew HU.out HV.out (by omega) (by omega)).mono ?_;rintro e w4 ⟨aO,nb,v4,l4,rfl,iV,hx4,hl4⟩;have eB:=Iz.keep aO (fun f=>f);have r0:=eB.c0;have r1:=eB.c1;have f0:=eB.fz 0;have f1:=eB.fz 1;obtain⟨eG,aJ,rfl,-⟩:=aj iV.2;have hkeep:=zI (aO.cell (a:=W.drew) e2) (zI (aO.cell (a:=W.drew) e3) (zI (aO.cell (a:=W.drew) d0) (zI (aO.cell (a:=W.drew) d1) (zI (aO.cell (a:=W.drew) d2) (aO.cell (a:=W.drew) d3)))));have dG:=zI ((ay (w.heap.size+1) w4 (.bool nb) (.slice eG l4.length aJ) w.heap.size 2 (by omega)).trans hkeep.1) (zI ((ay (w.heap.size+1) w4 (.bool nb) (.slice eG l4.length aJ) w.heap.size 3 (by omega)).trans hkeep.2.1) (zI ((ay (w.heap.size+1) w4 (.bool nb) (.slice eG l4.length aJ) gr (t.y*2) (by omega)).trans hkeep.2.2.1) (zI ((ay (w.heap.size+1) w4 (.bool nb) (.slice eG l4.length aJ) gr (t.y*2+1) (by omega)).trans hkeep.2.2.2.1) (zI ((ay (w.heap.size+1) w4 (.bool nb) (.slice eG l4.length aJ) gr (t.z*2) (by omega)).trans hkeep.2.2.2.2.1) ((ay (w.heap.size+1) w4 (.bool nb) (.slice eG l4.length aJ) gr (t.z*2+1) (by omega)).trans hkeep.2.2.2.2.2)))))))
 have kR:=eB.set nb (.slice eG l4.length aJ)
 have q0:=kR.c0
 have q1:=kR.c1
 have gy:=fK.drew.trans aO
 have fT:Mod (fun _=>False) w ((w4.setCell ⟨w.heap.size+1,0,none⟩ (.bool nb)).setCell ⟨w.heap.size+1,1,none⟩ (.slice eG l4.length aJ)):=((gy.mono (q:=fun i=>i=w.heap.size+1) (fun _ _ f=>f.elim)).trans (dK _ _ _ _)).mono (fun i hi h=>by omega)
 have fP:Hid (NumEnd w (num nx a+num ny b) (max a.length b.length+4) (.returned (oz nb (.slice eG l4.length aJ))) ((w4.setCell ⟨w.heap.size+1,0,none⟩ (.bool nb)).setCell ⟨w.heap.size+1,1,none⟩ (.slice eG l4.length aJ))) :=
  iq (l:=l4) fT ⟨iV.1,dL iV.2 eB _ _⟩ hx4 (by omega)
 clear iV hx4 gy aO
 go_wp2
 exact bodyPost_ret (by simp[results,Tryz.results105,go_sem,q0,q1]) rfl fP.out
theorem OE (t:Stp) (gr rn lN:Nat) (iv:Value) (nx ny:Bool) (u v:Value) (a b:List Nat) (w:World) (hs:Small t) (hop:t.op=3) (hy:t.y < rn) (hz:t.z < rn) (_hrn:rn<=128) (hgr:gr < w.heap.size)
  (uL:w.cell? ⟨gr,t.y*2,none⟩=some (.bool nx)) (uM:w.cell? ⟨gr,t.y*2+1,none⟩=some u) (Fx:w.cell? ⟨gr,t.z*2,none⟩=some (.bool ny)) (Fy:w.cell? ⟨gr,t.z*2+1,none⟩=some v)
  (hU:Nm w nx u a) (hV:Nm w ny v b) (la:a.length<=50000) (lb:b.length<=50000) :
  Calls Tryz.prog 105 #[V4 t,.slice (some ⟨gr,0,none⟩) rn lN,iv] w (NumEnd w (num nx a - num ny b) (max a.length b.length+4)):=by
 obtain⟨ao,aK,rfl,-⟩:=aj hU.2
 obtain⟨bo,cK,rfl,-⟩:=aj hV.2
 obtain⟨s0,s1,s2,s3⟩:=hs
 have hS:=nC w t
 have hR:=bO (w.alloc (.cells #[.int .i64 t.op,.int .i64 t.x,.int .i64 t.y,.int .i64 t.z] 152)) false (.slice none 0 0)
 have m1:Mod (fun _=>False) w (w.alloc (.cells #[.int .i64 t.op,.int .i64 t.x,.int .i64 t.y,.int .i64 t.z] 152)):=(Mod.refl _ w).alloc _
 have m2:Mod (fun _=>False) (w.alloc (.cells #[.int .i64 t.op,.int .i64 t.x,.int .i64 t.y,.int .i64 t.z] 152)) ((w.alloc (.cells #[.int .i64 t.op,.int .i64 t.x,.int .i64 t.y,.int .i64 t.z] 152)).alloc (.cells #[.bool false,.slice none 0 0] 154)):=(Mod.refl _ _).alloc _
 have hS2:xJ ((w.alloc (.cells #[.int .i64 t.op,.int .i64 t.x,.int .i64 t.y,.int .i64 t.z] 152)).alloc (.cells #[.bool false,.slice none 0 0] 154)) w.heap.size t:=m2.keep hS (fun f=>f)
 have fK:=m1.trans m2
 have Ci:=hU.mod fK
 have CW:=hV.mod fK
 have d0:=fK.cell uL
 have d1:=fK.cell uM
 have d2:=fK.cell Fx
 have d3:=fK.cell Fy
 simp only[World.size_alloc]at hR
 have o0:((t.op:Int) == 0)=false:=aF (m:=0) (by omega)
 have o1:((t.op:Int) == 1)=false:=aF (m:=1) (by omega)
 have o2:((t.op:Int) == 2)=false:=aF (m:=2) (by omega)
 have o3:((t.op:Int) == 3)=true:=bN (m:=3) (by omega)
 have o4:((t.op:Int) == 4)=false:=aF (m:=4) (by omega)
 have e0:=hS2.c0
 have e2:=hS2.c2
 have e3:=hS2.c3
 have i1:(0:Int)<=(t.y:Int):=by omega
 have i2:(t.y:Int) < (rn:Int):=by omega
 have i3:(0:Int)<=(t.z:Int):=by omega
 have i4:(t.z:Int) < (rn:Int):=by omega
 clear hS m1 m2 hU hV uL uM Fx Fy hop
 go_in
 go_wp2_with fail
 generalize (w.alloc (.cells #[.int .i64 t.op,.int .i64 t.x,.int .i64 t.y,.int .i64 t.z] 152)).alloc (.cells #[.bool false,.slice none 0 0] 154)=W at *
 have Iz:pV W.drew (w.heap.size+1) false (.slice none 0 0):=hR
 have Ag:Mod (fun _=>False) W W.drew:=(Mod.refl _ W).drew
 have HU:Hid (Nm W.drew nx (.slice ao a.length aK) a):=Ci.mod Ag
 have HV:Hid (Nm W.drew ny (.slice bo b.length cK) b):=CW.mod Ag
 clear Ci CW
 go_region_held3 (fun w'=>w'.cell? ⟨w.heap.size,2,none⟩=some (.int .i64 t.y)/\w'.cell? ⟨w.heap.size,3,none⟩=some (.int .i64 t.z)/\w'.cell? ⟨gr,t.y*2,none⟩=some (.bool nx)/\w'.cell? ⟨gr,t.y*2+1,none⟩=some (.slice ao a.length aK)/\w'.cell? ⟨gr,t.z*2,none⟩=some (.bool ny)/\w'.cell? ⟨gr,t.z*2+1,none⟩=some (.slice bo b.length cK))
  (first | go_keep | (exact hkeep) | (exact dG))
  ((go_at_call 152;refine (Dc nx ny (.slice ao a.length aK) (.slice bo b.length cK) a b W.drew HU.out HV.out (by omega) (by omega)).mono ?_;rintro e w4 ⟨aO,nb,v4,l4,rfl,iV,hx4,hl4⟩;have eB:=Iz.keep aO (fun f=>f);have r0:=eB.c0;have r1:=eB.c1;have f0:=eB.fz 0;have f1:=eB.fz 1;obtain⟨eG,aJ,rfl,-⟩:=aj iV.2;have hkeep:=zI (aO.cell (a:=W.drew) e2) (zI (aO.cell (a:=W.drew) e3) (zI (aO.cell (a:=W.drew) d0) (zI (aO.cell (a:=W.drew) d1) (zI (aO.cell (a:=W.drew) d2) (aO.cell (a:=W.drew) d3)))));have dG:=zI ((ay (w.heap.size+1) w4 (.bool nb) (.slice eG l4.length aJ) w.heap.size 2 (by omega)).trans hkeep.1) (zI ((ay (w.heap.size+1) w4 (.bool nb) (.slice eG l4.length aJ) w.heap.size 3 (by omega)).trans hkeep.2.1) (zI ((ay (w.heap.size+1) w4 (.bool nb) (.slice eG l4.length aJ) gr (t.y*2) (by omega)).trans hkeep.2.2.1) (zI ((ay (w.heap.size+1) w4 (.bool nb) (.slice eG l4.length aJ) gr (t.y*2+1) (by omega)).trans hkeep.2.2.2.1) (zI ((ay (w.heap.size+1) w4 (.bool nb) (.slice eG l4.length aJ) gr (t.z*2) (by omega)).trans hkeep.2.2.2.2.1) ((ay (w.heap.size+1) w4 (.bool nb) (.slice eG l4.length aJ) gr (t.z*2+1) (by omega)).trans hkeep.2.2.2.2.2)))))))
 have kR:=eB.set nb (.slice eG l4.length aJ)
 have q0:=kR.c0
 have q1:=kR.c1
 have gy:=fK.drew.trans aO
 have fT:Mod (fun _=>False) w ((w4.setCell ⟨w.heap.size+1,0,none⟩ (.bool nb)).setCell ⟨w.heap.size+1,1,none⟩ (.slice eG l4.length aJ)):=((gy.mono (q:=fun i=>i=w.heap.size+1) (fun _ _ f=>f.elim)).trans (dK _ _ _ _)).mono (fun i hi h=>by omega)
 have fP:Hid (NumEnd w (num nx a - num ny b) (max a.length b.length+4) (.returned (oz nb (.slice eG l4.length aJ))) ((w4.setCell ⟨w.heap.size+1,0,none⟩ (.bool nb)).setCell ⟨w.heap.size+1,1,none⟩ (.slice eG l4.length aJ))) :=
  iq (l:=l4) fT ⟨iV.1,dL iV.2 eB _ _⟩ hx4 (by omega)
 clear iV hx4 gy aO
 go_wp2
 exact bodyPost_ret (by simp[results,Tryz.results105,go_sem,q0,q1]) rfl fP.out
theorem OC (t:Stp) (gr rn lN:Nat) (iv:Value) (nx ny:Bool) (u v:Value) (a b:List Nat) (w:World) (hs:Small t) (hop:t.op=4) (hy:t.y < rn) (hz:t.z < rn) (_hrn:rn<=128) (hgr:gr < w.heap.size)
  (uL:w.cell? ⟨gr,t.y*2,none⟩=some (.bool nx)) (uM:w.cell? ⟨gr,t.y*2+1,none⟩=some u) (Fx:w.cell? ⟨gr,t.z*2,none⟩=some (.bool ny)) (Fy:w.cell? ⟨gr,t.z*2+1,none⟩=some v)
  (hU:Nm w nx u a) (hV:Nm w ny v b) (la:a.length<=4000) (lb:b.length<=4000) :
  Calls Tryz.prog 105 #[V4 t,.slice (some ⟨gr,0,none⟩) rn lN,iv] w (NumEnd w (num nx a*num ny b) (a.length+b.length+4)):=by
 obtain⟨ao,aK,rfl,-⟩:=aj hU.2
 obtain⟨bo,cK,rfl,-⟩:=aj hV.2
 obtain⟨s0,s1,s2,s3⟩:=hs
 have hS:=nC w t
 have hR:=bO (w.alloc (.cells #[.int .i64 t.op,.int .i64 t.x,.int .i64 t.y,.int .i64 t.z] 152)) false (.slice none 0 0)
 have m1:Mod (fun _=>False) w (w.alloc (.cells #[.int .i64 t.op,.int .i64 t.x,.int .i64 t.y,.int .i64 t.z] 152)):=(Mod.refl _ w).alloc _
 have m2:Mod (fun _=>False) (w.alloc (.cells #[.int .i64 t.op,.int .i64 t.x,.int .i64 t.y,.int .i64 t.z] 152)) ((w.alloc (.cells #[.int .i64 t.op,.int .i64 t.x,.int .i64 t.y,.int .i64 t.z] 152)).alloc (.cells #[.bool false,.slice none 0 0] 154)):=(Mod.refl _ _).alloc _
 have hS2:xJ ((w.alloc (.cells #[.int .i64 t.op,.int .i64 t.x,.int .i64 t.y,.int .i64 t.z] 152)).alloc (.cells #[.bool false,.slice none 0 0] 154)) w.heap.size t:=m2.keep hS (fun f=>f)
 have fK:=m1.trans m2
 have Ci:=hU.mod fK
 have CW:=hV.mod fK
 have d0:=fK.cell uL
 have d1:=fK.cell uM
 have d2:=fK.cell Fx
 have d3:=fK.cell Fy
 simp only[World.size_alloc]at hR
 have o0:((t.op:Int) == 0)=false:=aF (m:=0) (by omega)
 have o1:((t.op:Int) == 1)=false:=aF (m:=1) (by omega)
 have o2:((t.op:Int) == 2)=false:=aF (m:=2) (by omega)
 have o3:((t.op:Int) == 3)=false:=aF (m:=3) (by omega)
 have o4:((t.op:Int) == 4)=true:=bN (m:=4) (by omega)
 have e0:=hS2.c0
 have e2:=hS2.c2
 have e3:=hS2.c3
 have i1:(0:Int)<=(t.y:Int):=by omega
 have i2:(t.y:Int) < (rn:Int):=by omega
 have i3:(0:Int)<=(t.z:Int):=by omega
 have i4:(t.z:Int) < (rn:Int):=by omega
 clear hS m1 m2 hU hV uL uM Fx Fy hop
 go_in
 go_wp2_with fail
 generalize (w.alloc (.cells #[.int .i64 t.op,.int .i64 t.x,.int .i64 t.y,.int .i64 t.z] 152)).alloc (.cells #[.bool false,.slice none 0 0] 154)=W at *
 have Iz:pV W.drew (w.heap.size+1) false (.slice none 0 0):=hR
 have Ag:Mod (fun _=>False) W W.drew:=(Mod.refl _ W).drew
 have HU:Hid (Nm W.drew nx (.slice ao a.length aK) a):=Ci.mod Ag
 have HV:Hid (Nm W.drew ny (.slice bo b.length cK) b):=CW.mod Ag
 clear Ci CW
 go_region_held3 (fun w'=>w'.cell? ⟨w.heap.size,2,none⟩=some (.int .i64 t.y)/\w'.cell? ⟨w.heap.size,3,none⟩=some (.int .i64 t.z)/\w'.cell? ⟨gr,t.y*2,none⟩=some (.bool nx)/\w'.cell? ⟨gr,t.y*2+1,none⟩=some (.slice ao a.length aK)/\w'.cell? ⟨gr,t.z*2,none⟩=some (.bool ny)/\w'.cell? ⟨gr,t.z*2+1,none⟩=some (.slice bo b.length cK))
  (first | go_keep | (exact hkeep) | (exact dG))
  ((go_at_call 153;refine (Dr nx ny (.slice ao a.length aK) (.slice bo b.length cK) a b W.drew HU.out HV.out (by omega) (by omega)).mono ?_;rintro e w4 ⟨aO,nb,v4,l4,rfl,iV,hx4,hl4⟩;have eB:=Iz.keep aO (fun f=>f);have r0:=eB.c0;have r1:=eB.c1;have f0:=eB.fz 0;have f1:=eB.fz 1;obtain⟨eG,aJ,rfl,-⟩:=aj iV.2;have hkeep:=zI (aO.cell (a:=W.drew) e2) (zI (aO.cell (a:=W.drew) e3) (zI (aO.cell (a:=W.drew) d0) (zI (aO.cell (a:=W.drew) d1) (zI (aO.cell (a:=W.drew) d2) (aO.cell (a:=W.drew) d3)))));have dG:=zI ((ay (w.heap.size+1) w4 (.bool nb) (.slice eG l4.length aJ) w.heap.size 2 (by omega)).trans hkeep.1) (zI ((ay (w.heap.size+1) w4 (.bool nb) (.slice eG l4.length aJ) w.heap.size 3 (by omega)).trans hkeep.2.1) (zI ((ay (w.heap.size+1) w4 (.bool nb) (.slice eG l4.length aJ) gr (t.y*2) (by omega)).trans hkeep.2.2.1) (zI ((ay (w.heap.size+1) w4 (.bool nb) (.slice eG l4.length aJ) gr (t.y*2+1) (by omega)).trans hkeep.2.2.2.1) (zI ((ay (w.heap.size+1) w4 (.bool nb) (.slice eG l4.length aJ) gr (t.z*2) (by omega)).trans hkeep.2.2.2.2.1) ((ay (w.heap.size+1) w4 (.bool nb) (.slice eG l4.length aJ) gr (t.z*2+1) (by omega)).trans hkeep.2.2.2.2.2)))))))
 have kR:=eB.set nb (.slice eG l4.length aJ)
 have q0:=kR.c0
 have q1:=kR.c1
 have gy:=fK.drew.trans aO
 have fT:Mod (fun _=>False) w ((w4.setCell ⟨w.heap.size+1,0,none⟩ (.bool nb)).setCell ⟨w.heap.size+1,1,none⟩ (.slice eG l4.length aJ)):=((gy.mono (q:=fun i=>i=w.heap.size+1) (fun _ _ f=>f.elim)).trans (dK _ _ _ _)).mono (fun i hi h=>by omega)
 have fP:Hid (NumEnd w (num nx a*num ny b) (a.length+b.length+4) (.returned (oz nb (.slice eG l4.length aJ))) ((w4.setCell ⟨w.heap.size+1,0,none⟩ (.bool nb)).setCell ⟨w.heap.size+1,1,none⟩ (.slice eG l4.length aJ))) :=
  iq (l:=l4) fT ⟨iV.1,dL iV.2 eB _ _⟩ hx4 (by omega)
 clear iV hx4 gy aO
 go_wp2
 exact bodyPost_ret (by simp[results,Tryz.results105,go_sem,q0,q1]) rfl fP.out
theorem OB (t:Stp) (rv iv:Value) (w:World) (hs:Small t) (hop:t.op=1)  :
  Calls Tryz.prog 105 #[V4 t,rv,iv] w (NumEnd w ((t.y:Int)) 1):=by
 obtain⟨s0,s1,s2,s3⟩:=hs
 have hS:=nC w t
 have hR:=bO (w.alloc (.cells #[.int .i64 t.op,.int .i64 t.x,.int .i64 t.y,.int .i64 t.z] 152)) false (.slice none 0 0)
 have m1:Mod (fun _=>False) w (w.alloc (.cells #[.int .i64 t.op,.int .i64 t.x,.int .i64 t.y,.int .i64 t.z] 152)):=(Mod.refl _ w).alloc _
 have m2:Mod (fun _=>False) (w.alloc (.cells #[.int .i64 t.op,.int .i64 t.x,.int .i64 t.y,.int .i64 t.z] 152)) ((w.alloc (.cells #[.int .i64 t.op,.int .i64 t.x,.int .i64 t.y,.int .i64 t.z] 152)).alloc (.cells #[.bool false,.slice none 0 0] 154)):=(Mod.refl _ _).alloc _
 have hS2:xJ ((w.alloc (.cells #[.int .i64 t.op,.int .i64 t.x,.int .i64 t.y,.int .i64 t.z] 152)).alloc (.cells #[.bool false,.slice none 0 0] 154)) w.heap.size t:=m2.keep hS (fun f=>f)
 have fK:=m1.trans m2
 simp only[World.size_alloc]at hR
 have o0:((t.op:Int) == 0)=false:=aF (m:=0) (by omega)
 have o1:((t.op:Int) == 1)=true:=bN (m:=1) (by omega)
 have o2:((t.op:Int) == 2)=false:=aF (m:=2) (by omega)
 have o3:((t.op:Int) == 3)=false:=aF (m:=3) (by omega)
 have o4:((t.op:Int) == 4)=false:=aF (m:=4) (by omega)
 have e0:=hS2.c0
 have e2:=hS2.c2
 clear hS m1 m2 hop
 go_in
 go_wp2_with fail
 generalize (w.alloc (.cells #[.int .i64 t.op,.int .i64 t.x,.int .i64 t.y,.int .i64 t.z] 152)).alloc (.cells #[.bool false,.slice none 0 0] 154)=W at *
 refine (Eo (t.y:Int) W (by omega) (by omega)).mono ?_
 rintro e w4 ⟨aO,nb,v4,l4,rfl,iV,hx4,hl4⟩
 have eB:=hR.keep aO (fun f=>f)
 have r0:=eB.c0
 have r1:=eB.c1
 have f0:=eB.fz 0
 have f1:=eB.fz 1
 obtain⟨eG,aJ,rfl,-⟩:=aj iV.2
 have kR:=eB.set nb (.slice eG l4.length aJ)
 have q0:=kR.c0
 have q1:=kR.c1
 have gy:=fK.trans aO
 have fT:Mod (fun _=>False) w ((w4.setCell ⟨w.heap.size+1,0,none⟩ (.bool nb)).setCell ⟨w.heap.size+1,1,none⟩ (.slice eG l4.length aJ)):=((gy.mono (q:=fun i=>i=w.heap.size+1) (fun _ _ f=>f.elim)).trans (dK _ _ _ _)).mono (fun i hi h=>by omega)
 have fP:Hid (NumEnd w ((t.y:Int)) 1 (.returned (oz nb (.slice eG l4.length aJ))) ((w4.setCell ⟨w.heap.size+1,0,none⟩ (.bool nb)).setCell ⟨w.heap.size+1,1,none⟩ (.slice eG l4.length aJ))) :=
  iq (l:=l4) fT ⟨iV.1,dL iV.2 eB _ _⟩ hx4 (by omega)
 clear iV hx4 gy aO
 go_wp2
 exact bodyPost_ret (by simp[results,Tryz.results105,go_sem,q0,q1]) rfl fP.out
theorem Tf (t:Stp) (rv:Value) (gi n nN:Nat) (x:Int) (w:World) (hs:Small t) (hop:t.op=0) (hy:t.y < n) (_hn:n<=1000) (h1:-100 < x) (h2:x < 100) (cy:w.cell? ⟨gi,t.y,none⟩=some (.int .i64 x)) :
  Calls Tryz.prog 105 #[V4 t,rv,.slice (some ⟨gi,0,none⟩) n nN] w (NumEnd w (x) 1):=by
 obtain⟨s0,s1,s2,s3⟩:=hs
 have hS:=nC w t
 have hR:=bO (w.alloc (.cells #[.int .i64 t.op,.int .i64 t.x,.int .i64 t.y,.int .i64 t.z] 152)) false (.slice none 0 0)
 have m1:Mod (fun _=>False) w (w.alloc (.cells #[.int .i64 t.op,.int .i64 t.x,.int .i64 t.y,.int .i64 t.z] 152)):=(Mod.refl _ w).alloc _
 have m2:Mod (fun _=>False) (w.alloc (.cells #[.int .i64 t.op,.int .i64 t.x,.int .i64 t.y,.int .i64 t.z] 152)) ((w.alloc (.cells #[.int .i64 t.op,.int .i64 t.x,.int .i64 t.y,.int .i64 t.z] 152)).alloc (.cells #[.bool false,.slice none 0 0] 154)):=(Mod.refl _ _).alloc _
 have hS2:xJ ((w.alloc (.cells #[.int .i64 t.op,.int .i64 t.x,.int .i64 t.y,.int .i64 t.z] 152)).alloc (.cells #[.bool false,.slice none 0 0] 154)) w.heap.size t:=m2.keep hS (fun f=>f)
 have fK:=m1.trans m2
 have d0:=fK.cell cy
 have i1:(0:Int)<=(t.y:Int):=by omega
 have i2:(t.y:Int) < (n:Int):=by omega
 clear cy
 simp only[World.size_alloc]at hR
 have o0:((t.op:Int) == 0)=true:=bN (m:=0) (by omega)
 have o1:((t.op:Int) == 1)=false:=aF (m:=1) (by omega)
 have o2:((t.op:Int) == 2)=false:=aF (m:=2) (by omega)
 have o3:((t.op:Int) == 3)=false:=aF (m:=3) (by omega)
 have o4:((t.op:Int) == 4)=false:=aF (m:=4) (by omega)
 have e0:=hS2.c0
 have e2:=hS2.c2
 clear hS m1 m2 hop
 go_in
 go_wp2_with fail
 generalize (w.alloc (.cells #[.int .i64 t.op,.int .i64 t.x,.int .i64 t.y,.int .i64 t.z] 152)).alloc (.cells #[.bool false,.slice none 0 0] 154)=W at *
 refine (Eo x W (by omega) (by omega)).mono ?_
 rintro e w4 ⟨aO,nb,v4,l4,rfl,iV,hx4,hl4⟩
 have eB:=hR.keep aO (fun f=>f)
 have r0:=eB.c0
 have r1:=eB.c1
 have f0:=eB.fz 0
 have f1:=eB.fz 1
 obtain⟨eG,aJ,rfl,-⟩:=aj iV.2
 have kR:=eB.set nb (.slice eG l4.length aJ)
 have q0:=kR.c0
 have q1:=kR.c1
 have gy:=fK.trans aO
 have fT:Mod (fun _=>False) w ((w4.setCell ⟨w.heap.size+1,0,none⟩ (.bool nb)).setCell ⟨w.heap.size+1,1,none⟩ (.slice eG l4.length aJ)):=((gy.mono (q:=fun i=>i=w.heap.size+1) (fun _ _ f=>f.elim)).trans (dK _ _ _ _)).mono (fun i hi h=>by omega)
 have fP:Hid (NumEnd w (x) 1 (.returned (oz nb (.slice eG l4.length aJ))) ((w4.setCell ⟨w.heap.size+1,0,none⟩ (.bool nb)).setCell ⟨w.heap.size+1,1,none⟩ (.slice eG l4.length aJ))) :=
  iq (l:=l4) fT ⟨iV.1,dL iV.2 eB _ _⟩ hx4 (by omega)
 clear iV hx4 gy aO
 go_wp2
 exact bodyPost_ret (by simp[results,Tryz.results105,go_sem,q0,q1]) rfl fP.out
theorem OD (t:Stp) (gr rn lN:Nat) (iv:Value) (nx:Bool) (u:Value) (a:List Nat) (w:World) (hs:Small t) (hop:5<=t.op) (hy:t.y < rn) (_hrn:rn<=128) (uL:w.cell? ⟨gr,t.y*2,none⟩=some (.bool nx)) (uM:w.cell? ⟨gr,t.y*2+1,none⟩=some u) (hU:Nm w nx u a) (la:a.length<=50000) :
  Calls Tryz.prog 105 #[V4 t,.slice (some ⟨gr,0,none⟩) rn lN,iv] w (NumEnd w (jF (num nx a)) 1):=by
 obtain⟨s0,s1,s2,s3⟩:=hs
 have hS:=nC w t
 have hR:=bO (w.alloc (.cells #[.int .i64 t.op,.int .i64 t.x,.int .i64 t.y,.int .i64 t.z] 152)) false (.slice none 0 0)
 have m1:Mod (fun _=>False) w (w.alloc (.cells #[.int .i64 t.op,.int .i64 t.x,.int .i64 t.y,.int .i64 t.z] 152)):=(Mod.refl _ w).alloc _
 have m2:Mod (fun _=>False) (w.alloc (.cells #[.int .i64 t.op,.int .i64 t.x,.int .i64 t.y,.int .i64 t.z] 152)) ((w.alloc (.cells #[.int .i64 t.op,.int .i64 t.x,.int .i64 t.y,.int .i64 t.z] 152)).alloc (.cells #[.bool false,.slice none 0 0] 154)):=(Mod.refl _ _).alloc _
 have hS2:xJ ((w.alloc (.cells #[.int .i64 t.op,.int .i64 t.x,.int .i64 t.y,.int .i64 t.z] 152)).alloc (.cells #[.bool false,.slice none 0 0] 154)) w.heap.size t:=m2.keep hS (fun f=>f)
 have fK:=m1.trans m2
 obtain⟨ao,aK,rfl,-⟩:=aj hU.2
 have Ci:=hU.mod fK
 have d0:=fK.cell uL
 have d1:=fK.cell uM
 have i1:(0:Int)<=(t.y:Int):=by omega
 have i2:(t.y:Int) < (rn:Int):=by omega
 have hg1:-1<=jF (num nx a):=by
  unfold jF;repeat' split
  all_goals omega
 have hg2:jF (num nx a)<=1:=by
  unfold jF;repeat' split
  all_goals omega
 clear uL uM hU
 simp only[World.size_alloc]at hR
 have o0:((t.op:Int) == 0)=false:=aF (m:=0) (by omega)
 have o1:((t.op:Int) == 1)=false:=aF (m:=1) (by omega)
 have o2:((t.op:Int) == 2)=false:=aF (m:=2) (by omega)
 have o3:((t.op:Int) == 3)=false:=aF (m:=3) (by omega)
 have o4:((t.op:Int) == 4)=false:=aF (m:=4) (by omega)
 have e0:=hS2.c0
 have e2:=hS2.c2
 clear hS m1 m2 hop
 go_in
 go_wp2_with fail
 generalize (w.alloc (.cells #[.int .i64 t.op,.int .i64 t.x,.int .i64 t.y,.int .i64 t.z] 152)).alloc (.cells #[.bool false,.slice none 0 0] 154)=W at *
 refine (wV nx (.slice ao a.length aK) a W Ci (by omega)).mono ?_
 rintro e w3 ⟨rfl,aC⟩
 replace hR:=hR.keep aC (fun f=>f)
 replace fK:=fK.trans aC
 clear aC
 go_wp2_with fail
 refine (Eo (jF (num nx a)) w3 (by omega) (by omega)).mono ?_
 rintro e w4 ⟨aO,nb,v4,l4,rfl,iV,hx4,hl4⟩
 have eB:=hR.keep aO (fun f=>f)
 have r0:=eB.c0
 have r1:=eB.c1
 have f0:=eB.fz 0
 have f1:=eB.fz 1
 obtain⟨eG,aJ,rfl,-⟩:=aj iV.2
 have kR:=eB.set nb (.slice eG l4.length aJ)
 have q0:=kR.c0
 have q1:=kR.c1
 have gy:=fK.trans aO
 have fT:Mod (fun _=>False) w ((w4.setCell ⟨w.heap.size+1,0,none⟩ (.bool nb)).setCell ⟨w.heap.size+1,1,none⟩ (.slice eG l4.length aJ)):=((gy.mono (q:=fun i=>i=w.heap.size+1) (fun _ _ f=>f.elim)).trans (dK _ _ _ _)).mono (fun i hi h=>by omega)
 have fP:Hid (NumEnd w (jF (num nx a)) 1 (.returned (oz nb (.slice eG l4.length aJ))) ((w4.setCell ⟨w.heap.size+1,0,none⟩ (.bool nb)).setCell ⟨w.heap.size+1,1,none⟩ (.slice eG l4.length aJ))) :=
  iq (l:=l4) fT ⟨iV.1,dL iV.2 eB _ _⟩ hx4 (by omega)
 clear iV hx4 gy aO
 go_wp2
 exact bodyPost_ret (by simp[results,Tryz.results105,go_sem,q0,q1]) rfl fP.out
def Iu (w:World) (rb:Nat) (R:List Int):Prop:=R.length=128/\(∃ C,w.heap[rb]?=some (.cells C 154 (0,0))/\C.size=256) /\
 ∀ r,r < 128->∃ nx u a,w.cell? ⟨rb,r*2,none⟩=some (.bool nx)/\w.cell? ⟨rb,r*2+1,none⟩=some u/\Nm w nx u a/\num nx a=reg R r/\a.length<=2000
theorem Iu.mod {w w':World} {rb:Nat} {R:List Int} (h:Iu w rb R) (hm:Mod (fun _=>False) w w'):Iu w' rb R:=by
 obtain⟨h1,⟨C,h2,h3⟩,h4⟩:=h
 refine⟨h1,⟨C,hm.keep h2 (fun f=>f),h3⟩,fun r hr=>?_⟩
 obtain⟨nx,u,a,c0,c1,hN,hx,hl⟩:=h4 r hr
 exact⟨nx,u,a,hm.cell c0,hm.cell c1,hN.mod hm,hx,hl⟩
theorem Iu.lt {w:World} {rb:Nat} {R:List Int} (h:Iu w rb R):rb < w.heap.size:=by
 obtain⟨C,h2,-⟩:=h.2.1
 exact lt_of_block h2
theorem Iu.fz {w:World} {rb:Nat} {R:List Int} (h:Iu w rb R) (i:Nat):w.frozen? ⟨rb,i,none⟩=false:=by
 obtain⟨C,h2,-⟩:=h.2.1
 simp[World.frozen?,h2]
def dA (w:World) (b o:Nat) (x y:Value):World:=(w.setCell ⟨b,o,none⟩ x).setCell ⟨b,o+1,none⟩ y
theorem lQ (w:World) (b o:Nat) (x y:Value):Mod (fun q=>q=b) w (dA w b o x y):=by
 have h0:Mod (fun q=>q=b) w (w.setCell ⟨b,o,none⟩ x):=(Mod.refl _ w).setCell ⟨b,o,none⟩ x (fun _=>rfl)
 exact h0.setCell ⟨b,o+1,none⟩ y (fun _=>rfl)
theorem BJ {p:Nat->Prop} {a w:World} (h:Mod p a w) (b o:Nat) (x y:Value) (hb:a.heap.size<=b):Mod p a (dA w b o x y):=by
 have h0:=h.setCell ⟨b,o,none⟩ x (fun h=>absurd h (Nat.not_lt.2 hb))
 exact h0.setCell ⟨b,o+1,none⟩ y (fun h=>absurd h (Nat.not_lt.2 hb))
theorem nA {w:World} {b o:Nat} {x y:Value} {C:Array Value} {t:TypeId} (h:w.heap[b]?=some (.cells C t (0,0))):(dA w b o x y).heap[b]?=some (.cells ((C.setIfInBounds o x).setIfInBounds (o+1) y) t (0,0)):=by
 have h0:(w.setCell ⟨b,o,none⟩ x).heap[b]?=some (.cells (C.setIfInBounds o x) t (0,0)):=by simp[World.setCell,Array.getElem?_modify,h]
 unfold dA
 generalize w.setCell ⟨b,o,none⟩ x=w1 at *
 simp[World.setCell,Array.getElem?_modify,h0]
theorem jh {w:World} {b o:Nat} {x y:Value} {C:Array Value} {t:TypeId} (h:w.heap[b]?=some (.cells C t (0,0))) (i:Nat):(dA w b o x y).cell? ⟨b,i,none⟩=if i=o+1/\i < C.size then some y else if i=o/\i < C.size then some x else w.cell? ⟨b,i,none⟩:=by
 have e:(dA w b o x y).cell? ⟨b,i,none⟩=((C.setIfInBounds o x).setIfInBounds (o+1) y)[i]?:=by simp only[World.cell?,nA h];simp
 have e2:w.cell? ⟨b,i,none⟩=C[i]?:=by simp only[World.cell?,h];simp
 rw[e,e2,Array.getElem?_setIfInBounds,Array.getElem?_setIfInBounds]
 by_cases a:i=o+1
 ·subst a
  by_cases hs:o+1 < C.size<;>simp[hs]
 ·by_cases c:i=o
  ·subst c
   by_cases hs:i < C.size<;>simp[hs]
  ·simp[a,c,show ¬ o+1=i from fun hh=>a hh.symm,show ¬ o=i from fun hh=>c hh.symm]
theorem Nm.apart {w w':World} {rb:Nat} {nx:Bool} {u:Value} {a:List Nat} (h:Nm w nx u a) (hm:Mod (fun q=>q=rb) w w') {C:Array Value} (hb:w.heap[rb]?=some (.cells C 154 (0,0))):Nm w' nx u a:=by
 refine⟨h.1,dW h.2 hm (fun g h1 h2=>?_)⟩
 subst h2
 obtain⟨_,⟨rfl,_⟩ | ⟨g',cap,cur,rfl,_,hg,_⟩⟩:=h.2
 ·simp[Value.ownBlock]at h1
 ·simp[Value.ownBlock]at h1
  subst h1
  rw[hb]at hg
  simp at hg
theorem Iu.set {w:World} {rb:Nat} {R:List Int} {nb:Bool} {v:Value} {l:List Nat} (h:Iu w rb R) {x:Nat} (hx:x < 128) (hN:Nm w nb v l) (hl:l.length<=2000):Iu (dA w rb (x*2) (.bool nb) v) rb (R.set x (num nb l)):=by
 obtain⟨h1,⟨C,h2,h3⟩,h4⟩:=h
 refine⟨by simpa using h1,⟨_,nA h2,by simpa using h3⟩,fun r hr=>?_⟩
 have hm:=lQ w rb (x*2) (.bool nb) v
 rw[jh h2,jh h2]
 by_cases e:r=x
 ·subst e
  refine⟨nb,v,l,by rw[if_neg (by omega),if_pos (by omega)],by rw[if_pos (by omega)],hN.apart hm h2,?_,hl⟩
  simp[reg,h1,hr]
 ·obtain⟨nx,u,a,c0,c1,hN',hx',hl'⟩:=h4 r hr
  refine⟨nx,u,a,by rw[if_neg (by omega),if_neg (by omega)];exact c0,by rw[if_neg (by omega),if_neg (by omega)];exact c1,hN'.apart hm h2,?_,hl'⟩
  rw[hx']
  simp[reg,show ¬ x=r from fun hh=>e hh.symm]
def Good (n:Nat) (t:Stp):Prop:=Small t/\t.op<=7/\t.x < 128/\(2<=t.op/\t.op<=5->t.y < 128)/\(2<=t.op/\t.op<=4->t.z < 128)/\(t.op=0->t.y < n)/\(t.op=7->t.y < 3/\t.z < 16)
theorem Pu.Za (x:Int):kL x=jF x:=rfl
theorem OA (t:Stp) (rb lN:Nat) (iv:Value) (R ins:List Int) (base:Nat) (w:World) (hg:Good ins.length t) (hop:t.op < 6) (hR:Iu w rb R) (hI:w.ownsRow base 3 1 iv ins.length (mo ins)) (hn:ins.length<=1000) (hi:∀ x∈ins,-100 < x/\x < 100) :
  Calls Tryz.prog 105 #[V4 t,.slice (some ⟨rb,0,none⟩) 128 lN,iv] w (NumEnd w (Pu.valOf t R ins) 4004):=by
 obtain⟨hs,-,-,hy,hz,h0,-⟩:=hg
 have hlt:=hR.lt
 have hb:∀ {x:Int} {n:Nat} (_:n<=4004) (e:Ending) (w':World),NumEnd w x n e w'->NumEnd w x 4004 e w':=fun hn e w' h=>by
  obtain⟨hm,nb,v',l,he,hN,hx,hl⟩:=h
  exact⟨hm,nb,v',l,he,hN,hx,Nat.le_trans hl hn⟩
 have hc:t.op=0\/t.op=1\/t.op=2\/t.op=3\/t.op=4\/t.op=5:=by omega
 rcases hc with e | e | e | e | e | e
 ·have hyl:t.y < ins.length:=h0 e
  obtain⟨io,nN,rfl,-⟩:=aj hI
  obtain⟨gi,rfl,ci⟩:=qF hI rfl hyl
  obtain⟨b1,b2⟩:=hi _ (List.getElem_mem hyl)
  have:=Tf t (.slice (some ⟨rb,0,none⟩) 128 lN) gi ins.length nN ins[t.y] w hs e hyl hn b1 b2 ci
  rw[show Pu.valOf t R ins=ins[t.y] by simp[Pu.valOf,e,hyl]]
  exact this.mono (hb (by omega))
 ·rw[show Pu.valOf t R ins=(t.y:Int) by simp[Pu.valOf,e]]
  exact (OB t _ iv w hs e).mono (hb (by omega))
 ·obtain⟨nx,u,a,c0,c1,hU,hx,la⟩:=hR.2.2 t.y (hy (by omega))
  obtain⟨ny,v,b,d0,d1,hV,hx',lb⟩:=hR.2.2 t.z (hz (by omega))
  rw[show Pu.valOf t R ins=num nx a+num ny b by simp[Pu.valOf,e,hx,hx']]
  exact (Oz t rb 128 lN iv nx ny u v a b w hs e (hy (by omega)) (hz (by omega)) (by omega) hlt c0 c1 d0 d1 hU hV (by omega) (by omega)).mono (hb (by omega))
 ·obtain⟨nx,u,a,c0,c1,hU,hx,la⟩:=hR.2.2 t.y (hy (by omega))
  obtain⟨ny,v,b,d0,d1,hV,hx',lb⟩:=hR.2.2 t.z (hz (by omega))
  rw[show Pu.valOf t R ins=num nx a - num ny b by simp[Pu.valOf,e,hx,hx']]
  exact (OE t rb 128 lN iv nx ny u v a b w hs e (hy (by omega)) (hz (by omega)) (by omega) hlt c0 c1 d0 d1 hU hV (by omega) (by omega)).mono (hb (by omega))
 ·obtain⟨nx,u,a,c0,c1,hU,hx,la⟩:=hR.2.2 t.y (hy (by omega))
  obtain⟨ny,v,b,d0,d1,hV,hx',lb⟩:=hR.2.2 t.z (hz (by omega))
  rw[show Pu.valOf t R ins=num nx a*num ny b by simp[Pu.valOf,e,hx,hx']]
  exact (OC t rb 128 lN iv nx ny u v a b w hs e (hy (by omega)) (hz (by omega)) (by omega) hlt c0 c1 d0 d1 hU hV (by omega) (by omega)).mono (hb (by omega))
 ·obtain⟨nx,u,a,c0,c1,hU,hx,la⟩:=hR.2.2 t.y (hy (by omega))
  rw[show Pu.valOf t R ins=jF (num nx a) by simp[Pu.valOf,e,hx,Za]]
  exact (OD t rb 128 lN iv nx u a w hs (by omega) (hy (by omega)) (by omega) c0 c1 hU (by omega)).mono (hb (by omega))
end Go.Proofs.YtmnfndpbblpjiabGreatDoor

/- The document's constructions, as they lie in memory: the rest. -/
import Derived.Test.YtmnfndpbblpjiabGreatDoorZx41
set_option maxHeartbeats 6400000
set_option maxRecDepth 100000
namespace Go.Proofs.YtmnfndpbblpjiabGreatDoor
open Go.RowKit Pu
theorem DK {w:World} {p:PV} {t:T3} {l:LV} {r:RL} {g cap a b:Nat} (b10:Cl w g 0 p.r) (b11:Cl w g 22 l.r) (hp:PI w p t a) (hl:LI w l r b b) (h:3*a+8*b<=900000000):Calls Tryz.prog 116 #[.string ⟨#[109,105,114,114,111,114]⟩,.slice (some ⟨g,0,none⟩) 2 cap] w (gu w ⟨(jE (zw t (jE (iF t r)))),l0⟩ false 0 (3*a+8*b) 12):=by
 have lp:=hp.x.lo
 have ll:=hl.p.x.lo
 have hg:g < w.heap.size:=b10.lt rfl
 obtain⟨hm0,b1,b2⟩:=zm w pO pO 169 169
 replace b10:=b10.k hm0;replace b11:=b11.k hm0;replace hp:=hp.k hm0;replace hl:=hl.k hm0
 go_in
 go_wp2_with fail
 generalize (w.alloc (.cells pO 169)).alloc (.cells pO 169)=W at *
 have hT:=zI (jS b10) (iD b11)
 have hdw:Mod (fun _=>False) W W.drew:=(Mod.refl _ W).drew
 replace hm0:=hm0.trans hdw
 replace b10:=b10.k hdw;replace b11:=b11.k hdw;replace hp:=hp.k hdw;replace hl:=hl.k hdw;replace b1:=b1.k hdw;replace b2:=b2.k hdw
 clear hdw
 have hS:=zI (jS b10) (iD b11)
 go_region_held3 (fun w'=>Ir g p w'/\Cb g l w')
  (first | with_reducible exact hS | with_reducible exact hC | with_reducible exact hT)
  (first
   | (go_at_call 171;(fail_if_success have _e:=n1);refine (Rb hp hl (by omega)).mono ?_;rintro e w1 ⟨hm,z1,rfl,n1⟩;replace hm0:=hm0.trans hm;replace b10:=b10.k hm;replace b11:=b11.k hm;replace hp:=hp.k hm;replace hl:=hl.k hm;replace b1:=b1.k hm;replace b2:=b2.k hm;clear hm hS;have hS:=zI (jS b10) (iD b11);have r0:=b2.c 0;have f0:=b2.fz 0;have r1:=b2.c 1;have f1:=b2.fz 1;have r2:=b2.c 2;have f2:=b2.fz 2;have r3:=b2.c 3;have f3:=b2.fz 3;have r4:=b2.c 4;have f4:=b2.fz 4;have r5:=b2.c 5;have f5:=b2.fz 5;have hC:=zI (jS ((((((b10.o (k:=w.heap.size+1) (by omega) 0 (.bool z1.x.b)).o (k:=w.heap.size+1) (by omega) 1 (.slice z1.x.a z1.x.n z1.x.c)).o (k:=w.heap.size+1) (by omega) 2 (.bool z1.y.b)).o (k:=w.heap.size+1) (by omega) 3 (.slice z1.y.a z1.y.n z1.y.c)).o (k:=w.heap.size+1) (by omega) 4 (.bool z1.w.b)).o (k:=w.heap.size+1) (by omega) 5 (.slice z1.w.a z1.w.n z1.w.c))) (iD ((((((b11.o (k:=w.heap.size+1) (by omega) 0 (.bool z1.x.b)).o (k:=w.heap.size+1) (by omega) 1 (.slice z1.x.a z1.x.n z1.x.c)).o (k:=w.heap.size+1) (by omega) 2 (.bool z1.y.b)).o (k:=w.heap.size+1) (by omega) 3 (.slice z1.y.a z1.y.n z1.y.c)).o (k:=w.heap.size+1) (by omega) 4 (.bool z1.w.b)).o (k:=w.heap.size+1) (by omega) 5 (.slice z1.w.a z1.w.n z1.w.c)))))
 replace n1:PI w1 z1 (jE (zw t (jE (iF t r)))) (3*a+8*b):=n1.up (by omega)
 clear hp hl
 rw[<- stP w1 (w.heap.size+1) z1]
 replace b1:=b1.os (k:=w.heap.size+1) (by omega) 0 z1.l
 replace b10:=b10.os (k:=w.heap.size+1) (by omega) 0 z1.l
 replace b11:=b11.os (k:=w.heap.size+1) (by omega) 0 z1.l
 replace n1:=n1.aL b2 (by decide) 0 z1.l
 replace hm0:=hm0.stk (k:=w.heap.size+1) (by omega) 0 z1.l
 replace b2:=b2.tP z1
 clear hS hT hC
 generalize (Go.Proofs.YtmnfndpbblpjiabGreatDoor.sets w1 (w.heap.size+1) 0 z1.l)=W2 at *
 obtain⟨y0,y1,y2,y3,y4,y5,y6,y7,y8,y9,gG,gH,iP,y13,iQ,iR⟩:=vT b2
 obtain⟨r0,r1,r2,r3,r4,r5,r6,r7,r8,r9,Bo,Bp,Bq,Br,Bt,Bu⟩:=vT b1
 obtain⟨f0,f1,f2,f3,f4,f5,f6,f7,f8,f9,f10,f11,f12,f13,f14,f15⟩:=b1.fs
 go_wp2_with fail
 clear y0 r0 f0 y1 r1 f1 y2 r2 f2 y3 r3 f3 y4 r4 f4 y5 r5 f5 y6 r6 f6 y7 r7 f7 y8 r8 f8 y9 r9 f9 gG Bo f10 gH Bp f11 iP Bq f12 y13 Br f13 iQ Bt f14 iR Bu f15
 rw[<- OT W2 w.heap.size z1 pQ]
 have hF:=BG (T:=⟨(jE (zw t (jE (iF t r)))),l0⟩) (b:=false) (c:=0) (m:=(3*a+8*b)) (d:=12) (p:=z1) (l:=pQ) b1 hm0 (fun _=>⟨n1,LI.zero _ (by omega) (by omega)⟩)
 have q:=b1.tT z1 pQ
 clear b1 hm0
 generalize Go.Proofs.YtmnfndpbblpjiabGreatDoor.sets W2 w.heap.size 0 (TV.s z1 pQ)=W9 at *
 obtain⟨q0,q1,q2,q3,q4,q5,q6,q7,q8,q9,Cq,Cr,Ct,Cu,Cv,Cw⟩:=vT q
 have fP:Hid (gu w ⟨(jE (zw t (jE (iF t r)))),l0⟩ false 0 (3*a+8*b) 12 (.returned (.tuple #[TV.v ⟨z1,pQ⟩,.string ⟨#[]⟩])) W9):=hF
 exact bodyPost_ret (v:=.tuple #[TV.v ⟨z1,pQ⟩,.string ⟨#[]⟩]) (by simp[results,Tryz.results116,go_sem,q0,q1,q2,q3,q4,q5,q6,q7,q8,q9,Cq,Cr,Ct,Cu,Cv,Cw]) rfl fP.out
theorem Je {w:World} {p:PV} {t:T3} {l:LV} {r:RL} {g cap a b:Nat} (b10:Cl w g 0 p.r) (b11:Cl w g 22 l.r) (hp:PI w p t a) (hl:LI w l r b b) (h:a+b<=900000000):Calls Tryz.prog 116 #[.string ⟨#[112,101,114,112]⟩,.slice (some ⟨g,0,none⟩) 2 cap] w (gu w ⟨t0,⟨t,⟨-r.d.y,r.d.x⟩⟩⟩ false 0 12 (a+b)):=by
 have lp:=hp.x.lo
 have ll:=hl.p.x.lo
 have hg:g < w.heap.size:=b10.lt rfl
 obtain⟨hm0,b1,b2⟩:=zm w pO pO 169 169
 replace b10:=b10.k hm0;replace b11:=b11.k hm0;replace hp:=hp.k hm0;replace hl:=hl.k hm0
 go_in
 go_wp2_with fail
 generalize (w.alloc (.cells pO 169)).alloc (.cells pO 169)=W at *
 have hT:=zI (jS b10) (iD b11)
 have hdw:Mod (fun _=>False) W W.drew:=(Mod.refl _ W).drew
 replace hm0:=hm0.trans hdw
 replace b10:=b10.k hdw;replace b11:=b11.k hdw;replace hp:=hp.k hdw;replace hl:=hl.k hdw;replace b1:=b1.k hdw;replace b2:=b2.k hdw
 clear hdw
 have hS:=zI (jS b10) (iD b11)
 go_region_held3 (fun w'=>Ir g p w'/\Cb g l w')
  (first | with_reducible exact hS | with_reducible exact hC | with_reducible exact hT)
  (first
   | (go_at_call 168;(fail_if_success have _e:=n1);refine (xY hl.y (by omega)).mono ?_;rintro e w1 ⟨hm,z1,rfl,n1⟩;replace hm0:=hm0.trans hm;replace b10:=b10.k hm;replace b11:=b11.k hm;replace hp:=hp.k hm;replace hl:=hl.k hm;replace b1:=b1.k hm;replace b2:=b2.k hm;clear hm hS;have hS:=zI (jS b10) (iD b11);have r0:=b2.c 6;have f0:=b2.fz 6;have r1:=b2.c 7;have f1:=b2.fz 7;have r2:=b2.c 8;have f2:=b2.fz 8;have r3:=b2.c 9;have f3:=b2.fz 9;have r4:=b2.c 10;have f4:=b2.fz 10;have r5:=b2.c 11;have f5:=b2.fz 11;have r6:=b2.c 12;have f6:=b2.fz 12;have r7:=b2.c 13;have f7:=b2.fz 13;have r8:=b2.c 14;have f8:=b2.fz 14;have r9:=b2.c 15;have f9:=b2.fz 15;have hC:=zI (jS ((((((((((b10.o (k:=w.heap.size+1) (by omega) 6 (.bool p.x.b)).o (k:=w.heap.size+1) (by omega) 7 (.slice p.x.a p.x.n p.x.c)).o (k:=w.heap.size+1) (by omega) 8 (.bool p.y.b)).o (k:=w.heap.size+1) (by omega) 9 (.slice p.y.a p.y.n p.y.c)).o (k:=w.heap.size+1) (by omega) 10 (.bool p.w.b)).o (k:=w.heap.size+1) (by omega) 11 (.slice p.w.a p.w.n p.w.c)).o (k:=w.heap.size+1) (by omega) 12 (.bool z1.b)).o (k:=w.heap.size+1) (by omega) 13 (.slice z1.a z1.n z1.c)).o (k:=w.heap.size+1) (by omega) 14 (.bool l.x.b)).o (k:=w.heap.size+1) (by omega) 15 (.slice l.x.a l.x.n l.x.c))) (iD ((((((((((b11.o (k:=w.heap.size+1) (by omega) 6 (.bool p.x.b)).o (k:=w.heap.size+1) (by omega) 7 (.slice p.x.a p.x.n p.x.c)).o (k:=w.heap.size+1) (by omega) 8 (.bool p.y.b)).o (k:=w.heap.size+1) (by omega) 9 (.slice p.y.a p.y.n p.y.c)).o (k:=w.heap.size+1) (by omega) 10 (.bool p.w.b)).o (k:=w.heap.size+1) (by omega) 11 (.slice p.w.a p.w.n p.w.c)).o (k:=w.heap.size+1) (by omega) 12 (.bool z1.b)).o (k:=w.heap.size+1) (by omega) 13 (.slice z1.a z1.n z1.c)).o (k:=w.heap.size+1) (by omega) 14 (.bool l.x.b)).o (k:=w.heap.size+1) (by omega) 15 (.slice l.x.a l.x.n l.x.c)))))
 have n2:LI w1 ⟨p,z1,l.x⟩ ⟨t,⟨-r.d.y,r.d.x⟩⟩ (a+b) (a+b):=⟨hp.up (by omega),n1.up (by omega),hl.x.up (by omega)⟩
 clear n1 hp hl
 rw[<- yJ w1 (w.heap.size+1) p z1 l.x]
 replace b1:=b1.os (k:=w.heap.size+1) (by omega) 6 (LV.s p z1 l.x)
 replace b10:=b10.os (k:=w.heap.size+1) (by omega) 6 (LV.s p z1 l.x)
 replace b11:=b11.os (k:=w.heap.size+1) (by omega) 6 (LV.s p z1 l.x)
 replace n2:=n2.aL b2 (by decide) 6 (LV.s p z1 l.x)
 replace hm0:=hm0.stk (k:=w.heap.size+1) (by omega) 6 (LV.s p z1 l.x)
 replace b2:=b2.tL p z1 l.x
 clear hS hT hC
 generalize (Go.Proofs.YtmnfndpbblpjiabGreatDoor.sets w1 (w.heap.size+1) 6 (LV.s p z1 l.x))=W2 at *
 obtain⟨y0,y1,y2,y3,y4,y5,y6,y7,y8,y9,gG,gH,iP,y13,iQ,iR⟩:=vT b2
 obtain⟨r0,r1,r2,r3,r4,r5,r6,r7,r8,r9,Bo,Bp,Bq,Br,Bt,Bu⟩:=vT b1
 obtain⟨f0,f1,f2,f3,f4,f5,f6,f7,f8,f9,f10,f11,f12,f13,f14,f15⟩:=b1.fs
 go_wp2_with fail
 clear y0 r0 f0 y1 r1 f1 y2 r2 f2 y3 r3 f3 y4 r4 f4 y5 r5 f5 y6 r6 f6 y7 r7 f7 y8 r8 f8 y9 r9 f9 gG Bo f10 gH Bp f11 iP Bq f12 y13 Br f13 iQ Bt f14 iR Bu f15
 rw[<- OT W2 w.heap.size zC ⟨p,z1,l.x⟩]
 have hF:=BG (T:=⟨t0,⟨t,⟨-r.d.y,r.d.x⟩⟩⟩) (b:=false) (c:=0) (m:=12) (d:=(a+b)) (p:=zC) (l:=⟨p,z1,l.x⟩) b1 hm0 (fun _=>⟨PI.zero _ (by omega),n2⟩)
 have q:=b1.tT zC ⟨p,z1,l.x⟩
 clear b1 hm0
 generalize Go.Proofs.YtmnfndpbblpjiabGreatDoor.sets W2 w.heap.size 0 (TV.s zC ⟨p,z1,l.x⟩)=W9 at *
 obtain⟨q0,q1,q2,q3,q4,q5,q6,q7,q8,q9,Cq,Cr,Ct,Cu,Cv,Cw⟩:=vT q
 have fP:Hid (gu w ⟨t0,⟨t,⟨-r.d.y,r.d.x⟩⟩⟩ false 0 12 (a+b) (.returned (.tuple #[TV.v ⟨zC,⟨p,z1,l.x⟩⟩,.string ⟨#[]⟩])) W9):=hF
 exact bodyPost_ret (v:=.tuple #[TV.v ⟨zC,⟨p,z1,l.x⟩⟩,.string ⟨#[]⟩]) (by simp[results,Tryz.results116,go_sem,q0,q1,q2,q3,q4,q5,q6,q7,q8,q9,Cq,Cr,Ct,Cu,Cv,Cw]) rfl fP.out
end Go.Proofs.YtmnfndpbblpjiabGreatDoor

/- The document's constructions, as they lie in memory: the rest. -/
import Derived.Test.YtmnfndpbblpjiabGreatDoorZx41
set_option maxHeartbeats 6400000
set_option maxRecDepth 100000
namespace Go.Proofs.YtmnfndpbblpjiabGreatDoor
open Go.RowKit Pu
theorem Mf {w:World} {p q:PV} {t s:T3} {g cap a b:Nat} (b10:Cl w g 0 p.r) (b11:Cl w g 16 q.r) (hp:PI w p t a) (hq:PI w q s b) (h:a+b<=900000000):Calls Tryz.prog 116 #[.string ⟨#[109,105,100]⟩,.slice (some ⟨g,0,none⟩) 2 cap] w (gu w ⟨(jE (hlf t s)),l0⟩ false 0 (a+b) 12):=by
 have lp:=hp.x.lo
 have lq:=hq.x.lo
 have hg:g < w.heap.size:=b10.lt rfl
 obtain⟨hm0,b1,b2⟩:=zm w pO pO 169 169
 replace b10:=b10.k hm0;replace b11:=b11.k hm0;replace hp:=hp.k hm0;replace hq:=hq.k hm0
 go_in
 go_wp2_with fail
 generalize (w.alloc (.cells pO 169)).alloc (.cells pO 169)=W at *
 have hT:=zI (jS b10) (gX b11)
 have hdw:Mod (fun _=>False) W W.drew:=(Mod.refl _ W).drew
 replace hm0:=hm0.trans hdw
 replace b10:=b10.k hdw;replace b11:=b11.k hdw;replace hp:=hp.k hdw;replace hq:=hq.k hdw;replace b1:=b1.k hdw;replace b2:=b2.k hdw
 clear hdw
 have hS:=zI (jS b10) (gX b11)
 go_region_held3 (fun w'=>Ir g p w'/\Cc g q w')
  (first | with_reducible exact hS | with_reducible exact hC | with_reducible exact hT)
  (first
   | (go_at_call 167;(fail_if_success have _e:=n1);refine (xR hp hq (by omega)).mono ?_;rintro e w1 ⟨hm,z1,rfl,n1⟩;replace hm0:=hm0.trans hm;replace b10:=b10.k hm;replace b11:=b11.k hm;replace hp:=hp.k hm;replace hq:=hq.k hm;replace b1:=b1.k hm;replace b2:=b2.k hm;clear hm hS;have hS:=zI (jS b10) (gX b11);have r0:=b2.c 0;have f0:=b2.fz 0;have r1:=b2.c 1;have f1:=b2.fz 1;have r2:=b2.c 2;have f2:=b2.fz 2;have r3:=b2.c 3;have f3:=b2.fz 3;have r4:=b2.c 4;have f4:=b2.fz 4;have r5:=b2.c 5;have f5:=b2.fz 5;have hC:=zI (jS ((((((b10.o (k:=w.heap.size+1) (by omega) 0 (.bool z1.x.b)).o (k:=w.heap.size+1) (by omega) 1 (.slice z1.x.a z1.x.n z1.x.c)).o (k:=w.heap.size+1) (by omega) 2 (.bool z1.y.b)).o (k:=w.heap.size+1) (by omega) 3 (.slice z1.y.a z1.y.n z1.y.c)).o (k:=w.heap.size+1) (by omega) 4 (.bool z1.w.b)).o (k:=w.heap.size+1) (by omega) 5 (.slice z1.w.a z1.w.n z1.w.c))) (gX ((((((b11.o (k:=w.heap.size+1) (by omega) 0 (.bool z1.x.b)).o (k:=w.heap.size+1) (by omega) 1 (.slice z1.x.a z1.x.n z1.x.c)).o (k:=w.heap.size+1) (by omega) 2 (.bool z1.y.b)).o (k:=w.heap.size+1) (by omega) 3 (.slice z1.y.a z1.y.n z1.y.c)).o (k:=w.heap.size+1) (by omega) 4 (.bool z1.w.b)).o (k:=w.heap.size+1) (by omega) 5 (.slice z1.w.a z1.w.n z1.w.c)))))
 replace n1:PI w1 z1 (jE (hlf t s)) (a+b):=n1.up (by omega)
 clear hp hq
 rw[<- stP w1 (w.heap.size+1) z1]
 replace b1:=b1.os (k:=w.heap.size+1) (by omega) 0 z1.l
 replace b10:=b10.os (k:=w.heap.size+1) (by omega) 0 z1.l
 replace b11:=b11.os (k:=w.heap.size+1) (by omega) 0 z1.l
 replace n1:=n1.aL b2 (by decide) 0 z1.l
 replace hm0:=hm0.stk (k:=w.heap.size+1) (by omega) 0 z1.l
 replace b2:=b2.tP z1
 clear hS hT hC
 generalize (Go.Proofs.YtmnfndpbblpjiabGreatDoor.sets w1 (w.heap.size+1) 0 z1.l)=W2 at *
 obtain⟨y0,y1,y2,y3,y4,y5,y6,y7,y8,y9,gG,gH,iP,y13,iQ,iR⟩:=vT b2
 obtain⟨r0,r1,r2,r3,r4,r5,r6,r7,r8,r9,Bo,Bp,Bq,Br,Bt,Bu⟩:=vT b1
 obtain⟨f0,f1,f2,f3,f4,f5,f6,f7,f8,f9,f10,f11,f12,f13,f14,f15⟩:=b1.fs
 go_wp2_with fail
 clear y0 r0 f0 y1 r1 f1 y2 r2 f2 y3 r3 f3 y4 r4 f4 y5 r5 f5 y6 r6 f6 y7 r7 f7 y8 r8 f8 y9 r9 f9 gG Bo f10 gH Bp f11 iP Bq f12 y13 Br f13 iQ Bt f14 iR Bu f15
 rw[<- OT W2 w.heap.size z1 pQ]
 have hF:=BG (T:=⟨(jE (hlf t s)),l0⟩) (b:=false) (c:=0) (m:=(a+b)) (d:=12) (p:=z1) (l:=pQ) b1 hm0 (fun _=>⟨n1,LI.zero _ (by omega) (by omega)⟩)
 have q:=b1.tT z1 pQ
 clear b1 hm0
 generalize Go.Proofs.YtmnfndpbblpjiabGreatDoor.sets W2 w.heap.size 0 (TV.s z1 pQ)=W9 at *
 obtain⟨q0,q1,q2,q3,q4,q5,q6,q7,q8,q9,Cq,Cr,Ct,Cu,Cv,Cw⟩:=vT q
 have fP:Hid (gu w ⟨(jE (hlf t s)),l0⟩ false 0 (a+b) 12 (.returned (.tuple #[TV.v ⟨z1,pQ⟩,.string ⟨#[]⟩])) W9):=hF
 exact bodyPost_ret (v:=.tuple #[TV.v ⟨z1,pQ⟩,.string ⟨#[]⟩]) (by simp[results,Tryz.results116,go_sem,q0,q1,q2,q3,q4,q5,q6,q7,q8,q9,Cq,Cr,Ct,Cu,Cv,Cw]) rfl fP.out
theorem Jb {w:World} {p:PV} {t:T3} {l:LV} {r:RL} {g cap a b:Nat} (b10:Cl w g 0 p.r) (b11:Cl w g 22 l.r) (hp:PI w p t a) (hl:LI w l r b b) (h:a+4*b<=900000000):Calls Tryz.prog 116 #[.string ⟨#[102,111,111,116]⟩,.slice (some ⟨g,0,none⟩) 2 cap] w (gu w ⟨(jE (iF t r)),l0⟩ false 0 (a+4*b) 12):=by
 have lp:=hp.x.lo
 have ll:=hl.p.x.lo
 have hg:g < w.heap.size:=b10.lt rfl
 obtain⟨hm0,b1,b2⟩:=zm w pO pO 169 169
 replace b10:=b10.k hm0;replace b11:=b11.k hm0;replace hp:=hp.k hm0;replace hl:=hl.k hm0
 go_in
 go_wp2_with fail
 generalize (w.alloc (.cells pO 169)).alloc (.cells pO 169)=W at *
 have hT:=zI (jS b10) (iD b11)
 have hdw:Mod (fun _=>False) W W.drew:=(Mod.refl _ W).drew
 replace hm0:=hm0.trans hdw
 replace b10:=b10.k hdw;replace b11:=b11.k hdw;replace hp:=hp.k hdw;replace hl:=hl.k hdw;replace b1:=b1.k hdw;replace b2:=b2.k hdw
 clear hdw
 have hS:=zI (jS b10) (iD b11)
 go_region_held3 (fun w'=>Ir g p w'/\Cb g l w')
  (first | with_reducible exact hS | with_reducible exact hC | with_reducible exact hT)
  (first
   | (go_at_call 170;(fail_if_success have _e:=n1);refine (P9 hp hl (by omega)).mono ?_;rintro e w1 ⟨hm,z1,rfl,n1⟩;replace hm0:=hm0.trans hm;replace b10:=b10.k hm;replace b11:=b11.k hm;replace hp:=hp.k hm;replace hl:=hl.k hm;replace b1:=b1.k hm;replace b2:=b2.k hm;clear hm hS;have hS:=zI (jS b10) (iD b11);have r0:=b2.c 0;have f0:=b2.fz 0;have r1:=b2.c 1;have f1:=b2.fz 1;have r2:=b2.c 2;have f2:=b2.fz 2;have r3:=b2.c 3;have f3:=b2.fz 3;have r4:=b2.c 4;have f4:=b2.fz 4;have r5:=b2.c 5;have f5:=b2.fz 5;have hC:=zI (jS ((((((b10.o (k:=w.heap.size+1) (by omega) 0 (.bool z1.x.b)).o (k:=w.heap.size+1) (by omega) 1 (.slice z1.x.a z1.x.n z1.x.c)).o (k:=w.heap.size+1) (by omega) 2 (.bool z1.y.b)).o (k:=w.heap.size+1) (by omega) 3 (.slice z1.y.a z1.y.n z1.y.c)).o (k:=w.heap.size+1) (by omega) 4 (.bool z1.w.b)).o (k:=w.heap.size+1) (by omega) 5 (.slice z1.w.a z1.w.n z1.w.c))) (iD ((((((b11.o (k:=w.heap.size+1) (by omega) 0 (.bool z1.x.b)).o (k:=w.heap.size+1) (by omega) 1 (.slice z1.x.a z1.x.n z1.x.c)).o (k:=w.heap.size+1) (by omega) 2 (.bool z1.y.b)).o (k:=w.heap.size+1) (by omega) 3 (.slice z1.y.a z1.y.n z1.y.c)).o (k:=w.heap.size+1) (by omega) 4 (.bool z1.w.b)).o (k:=w.heap.size+1) (by omega) 5 (.slice z1.w.a z1.w.n z1.w.c)))))
 replace n1:PI w1 z1 (jE (iF t r)) (a+4*b):=n1.up (by omega)
 clear hp hl
 rw[<- stP w1 (w.heap.size+1) z1]
 replace b1:=b1.os (k:=w.heap.size+1) (by omega) 0 z1.l
 replace b10:=b10.os (k:=w.heap.size+1) (by omega) 0 z1.l
 replace b11:=b11.os (k:=w.heap.size+1) (by omega) 0 z1.l
 replace n1:=n1.aL b2 (by decide) 0 z1.l
 replace hm0:=hm0.stk (k:=w.heap.size+1) (by omega) 0 z1.l
 replace b2:=b2.tP z1
 clear hS hT hC
 generalize (Go.Proofs.YtmnfndpbblpjiabGreatDoor.sets w1 (w.heap.size+1) 0 z1.l)=W2 at *
 obtain⟨y0,y1,y2,y3,y4,y5,y6,y7,y8,y9,gG,gH,iP,y13,iQ,iR⟩:=vT b2
 obtain⟨r0,r1,r2,r3,r4,r5,r6,r7,r8,r9,Bo,Bp,Bq,Br,Bt,Bu⟩:=vT b1
 obtain⟨f0,f1,f2,f3,f4,f5,f6,f7,f8,f9,f10,f11,f12,f13,f14,f15⟩:=b1.fs
 go_wp2_with fail
 clear y0 r0 f0 y1 r1 f1 y2 r2 f2 y3 r3 f3 y4 r4 f4 y5 r5 f5 y6 r6 f6 y7 r7 f7 y8 r8 f8 y9 r9 f9 gG Bo f10 gH Bp f11 iP Bq f12 y13 Br f13 iQ Bt f14 iR Bu f15
 rw[<- OT W2 w.heap.size z1 pQ]
 have hF:=BG (T:=⟨(jE (iF t r)),l0⟩) (b:=false) (c:=0) (m:=(a+4*b)) (d:=12) (p:=z1) (l:=pQ) b1 hm0 (fun _=>⟨n1,LI.zero _ (by omega) (by omega)⟩)
 have q:=b1.tT z1 pQ
 clear b1 hm0
 generalize Go.Proofs.YtmnfndpbblpjiabGreatDoor.sets W2 w.heap.size 0 (TV.s z1 pQ)=W9 at *
 obtain⟨q0,q1,q2,q3,q4,q5,q6,q7,q8,q9,Cq,Cr,Ct,Cu,Cv,Cw⟩:=vT q
 have fP:Hid (gu w ⟨(jE (iF t r)),l0⟩ false 0 (a+4*b) 12 (.returned (.tuple #[TV.v ⟨z1,pQ⟩,.string ⟨#[]⟩])) W9):=hF
 exact bodyPost_ret (v:=.tuple #[TV.v ⟨z1,pQ⟩,.string ⟨#[]⟩]) (by simp[results,Tryz.results116,go_sem,q0,q1,q2,q3,q4,q5,q6,q7,q8,q9,Cq,Cr,Ct,Cu,Cv,Cw]) rfl fP.out
end Go.Proofs.YtmnfndpbblpjiabGreatDoor

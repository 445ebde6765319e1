/- The document's constructions, as they lie in memory: the rest. -/
import Derived.Test.YtmnfndpbblpjiabGreatDoorZx41
set_option maxHeartbeats 6400000
set_option maxRecDepth 100000
namespace Go.Proofs.YtmnfndpbblpjiabGreatDoor
open Go.RowKit Pu
theorem Mg {w:World} {p:PV} {t:T3} {l:LV} {r:RL} {g cap a b:Nat} (b10:Cl w g 0 p.r) (b11:Cl w g 22 l.r) (hp:PI w p t a) (hl:LI w l r b b) (_h:a+b<=900000000):Calls Tryz.prog 116 #[.string ⟨#[112,97,114]⟩,.slice (some ⟨g,0,none⟩) 2 cap] w (gu w ⟨t0,⟨t,r.d⟩⟩ false 0 12 (a+b)):=by
 have lp:=hp.x.lo
 have ll:=hl.p.x.lo
 have hg:g < w.heap.size:=b10.lt rfl
 obtain⟨hm0,b1,b2⟩:=zm w pO pO 169 169
 replace b10:=b10.k hm0;replace b11:=b11.k hm0;replace hp:=hp.k hm0;replace hl:=hl.k hm0
 go_in
 go_wp2_with fail
 generalize (w.alloc (.cells pO 169)).alloc (.cells pO 169)=W at *
 have hT:=zI (jS b10) (iD b11)
 have r0:=b2.c 6;have f0:=b2.fz 6;have r1:=b2.c 7;have f1:=b2.fz 7;have r2:=b2.c 8;have f2:=b2.fz 8;have r3:=b2.c 9;have f3:=b2.fz 9;have r4:=b2.c 10;have f4:=b2.fz 10;have r5:=b2.c 11;have f5:=b2.fz 11;have r6:=b2.c 12;have f6:=b2.fz 12;have r7:=b2.c 13;have f7:=b2.fz 13;have r8:=b2.c 14;have f8:=b2.fz 14;have r9:=b2.c 15;have f9:=b2.fz 15;have hC:=zI (jS ((((((((((b10.o (k:=w.heap.size+1) (by omega) 6 (.bool p.x.b)).o (k:=w.heap.size+1) (by omega) 7 (.slice p.x.a p.x.n p.x.c)).o (k:=w.heap.size+1) (by omega) 8 (.bool p.y.b)).o (k:=w.heap.size+1) (by omega) 9 (.slice p.y.a p.y.n p.y.c)).o (k:=w.heap.size+1) (by omega) 10 (.bool p.w.b)).o (k:=w.heap.size+1) (by omega) 11 (.slice p.w.a p.w.n p.w.c)).o (k:=w.heap.size+1) (by omega) 12 (.bool l.x.b)).o (k:=w.heap.size+1) (by omega) 13 (.slice l.x.a l.x.n l.x.c)).o (k:=w.heap.size+1) (by omega) 14 (.bool l.y.b)).o (k:=w.heap.size+1) (by omega) 15 (.slice l.y.a l.y.n l.y.c))) (iD ((((((((((b11.o (k:=w.heap.size+1) (by omega) 6 (.bool p.x.b)).o (k:=w.heap.size+1) (by omega) 7 (.slice p.x.a p.x.n p.x.c)).o (k:=w.heap.size+1) (by omega) 8 (.bool p.y.b)).o (k:=w.heap.size+1) (by omega) 9 (.slice p.y.a p.y.n p.y.c)).o (k:=w.heap.size+1) (by omega) 10 (.bool p.w.b)).o (k:=w.heap.size+1) (by omega) 11 (.slice p.w.a p.w.n p.w.c)).o (k:=w.heap.size+1) (by omega) 12 (.bool l.x.b)).o (k:=w.heap.size+1) (by omega) 13 (.slice l.x.a l.x.n l.x.c)).o (k:=w.heap.size+1) (by omega) 14 (.bool l.y.b)).o (k:=w.heap.size+1) (by omega) 15 (.slice l.y.a l.y.n l.y.c)))
 have hdw:Mod (fun _=>False) W W.drew:=(Mod.refl _ W).drew
 have hS:=zI (jS (b10.k hdw)) (iD (b11.k hdw))
 clear hdw
 have hD:=zI (jS (((((((((((b10.o (k:=w.heap.size+1) (by omega) 6 (.bool p.x.b)).o (k:=w.heap.size+1) (by omega) 7 (.slice p.x.a p.x.n p.x.c)).o (k:=w.heap.size+1) (by omega) 8 (.bool p.y.b)).o (k:=w.heap.size+1) (by omega) 9 (.slice p.y.a p.y.n p.y.c)).o (k:=w.heap.size+1) (by omega) 10 (.bool p.w.b)).o (k:=w.heap.size+1) (by omega) 11 (.slice p.w.a p.w.n p.w.c)).o (k:=w.heap.size+1) (by omega) 12 (.bool l.x.b)).o (k:=w.heap.size+1) (by omega) 13 (.slice l.x.a l.x.n l.x.c)).o (k:=w.heap.size+1) (by omega) 14 (.bool l.y.b)).o (k:=w.heap.size+1) (by omega) 15 (.slice l.y.a l.y.n l.y.c)).k (Mod.refl (fun _=>False) _).drew)) (iD (((((((((((b11.o (k:=w.heap.size+1) (by omega) 6 (.bool p.x.b)).o (k:=w.heap.size+1) (by omega) 7 (.slice p.x.a p.x.n p.x.c)).o (k:=w.heap.size+1) (by omega) 8 (.bool p.y.b)).o (k:=w.heap.size+1) (by omega) 9 (.slice p.y.a p.y.n p.y.c)).o (k:=w.heap.size+1) (by omega) 10 (.bool p.w.b)).o (k:=w.heap.size+1) (by omega) 11 (.slice p.w.a p.w.n p.w.c)).o (k:=w.heap.size+1) (by omega) 12 (.bool l.x.b)).o (k:=w.heap.size+1) (by omega) 13 (.slice l.x.a l.x.n l.x.c)).o (k:=w.heap.size+1) (by omega) 14 (.bool l.y.b)).o (k:=w.heap.size+1) (by omega) 15 (.slice l.y.a l.y.n l.y.c)).k (Mod.refl (fun _=>False) _).drew))
 go_region_held3 (fun w'=>Ir g p w'/\Cb g l w')
  (first | with_reducible exact hS | with_reducible exact hD | with_reducible exact hC | with_reducible exact hT)
  (fail)
 have n2:LI W ⟨p,l.x,l.y⟩ ⟨t,r.d⟩ (a+b) (a+b):=⟨hp.up (by omega),hl.x.up (by omega),hl.y.up (by omega)⟩
 clear hp hl
 rw[<- yJ W (w.heap.size+1) p l.x l.y]
 replace b1:=b1.os (k:=w.heap.size+1) (by omega) 6 (LV.s p l.x l.y)
 replace b10:=b10.os (k:=w.heap.size+1) (by omega) 6 (LV.s p l.x l.y)
 replace b11:=b11.os (k:=w.heap.size+1) (by omega) 6 (LV.s p l.x l.y)
 replace n2:=n2.aL b2 (by decide) 6 (LV.s p l.x l.y)
 replace hm0:=hm0.stk (k:=w.heap.size+1) (by omega) 6 (LV.s p l.x l.y)
 replace b2:=b2.tL p l.x l.y
 clear hS hT hC hD
 have hdr:Mod (fun _=>False) (Go.Proofs.YtmnfndpbblpjiabGreatDoor.sets W (w.heap.size+1) 6 (LV.s p l.x l.y)) (Go.Proofs.YtmnfndpbblpjiabGreatDoor.sets W (w.heap.size+1) 6 (LV.s p l.x l.y)).drew:=(Mod.refl _ _).drew
 replace b1:=b1.k hdr;replace b2:=b2.k hdr;replace b10:=b10.k hdr;replace b11:=b11.k hdr;replace n2:=n2.k hdr;replace hm0:=hm0.trans hdr
 clear hdr
 generalize (Go.Proofs.YtmnfndpbblpjiabGreatDoor.sets W (w.heap.size+1) 6 (LV.s p l.x l.y)).drew=W2 at *
 obtain⟨y0,y1,y2,y3,y4,y5,y6,y7,y8,y9,gG,gH,iP,y13,iQ,iR⟩:=vT b2
 obtain⟨r0,r1,r2,r3,r4,r5,r6,r7,r8,r9,Bo,Bp,Bq,Br,Bt,Bu⟩:=vT b1
 obtain⟨f0,f1,f2,f3,f4,f5,f6,f7,f8,f9,f10,f11,f12,f13,f14,f15⟩:=b1.fs
 go_wp2_with fail
 clear y0 r0 f0 y1 r1 f1 y2 r2 f2 y3 r3 f3 y4 r4 f4 y5 r5 f5 y6 r6 f6 y7 r7 f7 y8 r8 f8 y9 r9 f9 gG Bo f10 gH Bp f11 iP Bq f12 y13 Br f13 iQ Bt f14 iR Bu f15
 rw[<- OT W2 w.heap.size zC ⟨p,l.x,l.y⟩]
 have hF:=BG (T:=⟨t0,⟨t,r.d⟩⟩) (b:=false) (c:=0) (m:=12) (d:=(a+b)) (p:=zC) (l:=⟨p,l.x,l.y⟩) b1 hm0 (fun _=>⟨PI.zero _ (by omega),n2⟩)
 have q:=b1.tT zC ⟨p,l.x,l.y⟩
 clear b1 hm0
 generalize Go.Proofs.YtmnfndpbblpjiabGreatDoor.sets W2 w.heap.size 0 (TV.s zC ⟨p,l.x,l.y⟩)=W9 at *
 obtain⟨q0,q1,q2,q3,q4,q5,q6,q7,q8,q9,Cq,Cr,Ct,Cu,Cv,Cw⟩:=vT q
 have fP:Hid (gu w ⟨t0,⟨t,r.d⟩⟩ false 0 12 (a+b) (.returned (.tuple #[TV.v ⟨zC,⟨p,l.x,l.y⟩⟩,.string ⟨#[]⟩])) W9):=hF
 exact bodyPost_ret (v:=.tuple #[TV.v ⟨zC,⟨p,l.x,l.y⟩⟩,.string ⟨#[]⟩]) (by simp[results,Tryz.results116,go_sem,q0,q1,q2,q3,q4,q5,q6,q7,q8,q9,Cq,Cr,Ct,Cu,Cv,Cw]) rfl fP.out
theorem DJ {w:World} {p q r:PV} {t s u:T3} {g cap a b c:Nat} (b10:Cl w g 0 p.r) (b11:Cl w g 16 q.r) (b12:Cl w g 32 r.r) (hp:PI w p t a) (hq:PI w q s b) (hr:PI w r u c) (h:5*a+3*b+2*c<=900000000):Calls Tryz.prog 116 #[.string ⟨#[99,101,110,116,114,101]⟩,.slice (some ⟨g,0,none⟩) 3 cap] w (gu w ⟨(nH t s u),l0⟩ (!jU t s u) 99 (5*a+3*b+2*c) 12):=by
 have lp:=hp.x.lo
 have lq:=hq.x.lo
 have lr:=hr.x.lo
 have hg:g < w.heap.size:=b10.lt rfl
 obtain⟨hm0,b1,b2⟩:=zm w pO pO 169 169
 replace b10:=b10.k hm0;replace b11:=b11.k hm0;replace b12:=b12.k hm0;replace hp:=hp.k hm0;replace hq:=hq.k hm0;replace hr:=hr.k hm0
 go_in
 go_upto_region 24 with fail
 generalize (w.alloc (.cells pO 169)).alloc (.cells pO 169)=W at *
 go_cut [10,11] from 139 (fun sv ex wc=>ex=.bool (jU t s u)/\∃ (kk:Nat) (zz:PV),sv=.pointer (some ⟨kk,0,none⟩)/\Bk wc kk zz.r 165/\PI wc zz (nH t s u) (5*a+3*b+2*c)/\PI wc p t a/\PI wc q s b/\PI wc r u c/\Bk wc (w.heap.size) pO 169/\Bk wc (w.heap.size+1) pO 169/\Cl wc g 0 p.r/\Cl wc g 16 q.r/\Cl wc g 32 r.r/\Mod (fun _=>False) w wc/\w.heap.size≠kk/\w.heap.size+1≠kk/\g≠kk/\g≠kk/\g≠kk)
 case first =>
  have hT:=zI (jS b10) (zI (gX b11) (oF b12))
  have hdw:Mod (fun _=>False) W W.drew:=(Mod.refl _ W).drew
  replace hm0:=hm0.trans hdw
  replace b10:=b10.k hdw;replace b11:=b11.k hdw;replace b12:=b12.k hdw;replace hp:=hp.k hdw;replace hq:=hq.k hdw;replace hr:=hr.k hdw;replace b1:=b1.k hdw;replace b2:=b2.k hdw
  clear hdw
  have hS:=zI (jS b10) (zI (gX b11) (oF b12));have hA:=zI (jS (b10.uy oP)) (zI (gX (b11.uy oP)) (oF (b12.uy oP)))
  go_region_held3 (fun w'=>Ir g p w'/\Cc g q w'/\LJ g r w')
   (first | with_reducible exact hS | with_reducible exact hC | with_reducible exact hA | with_reducible exact hE | with_reducible exact hT)
   (first
    | (go_at_call 172;(fail_if_success have _e:=n1);refine (Fv (by first | exact hp | exact (hp).k (bC _ _)) (by first | exact hq | exact (hq).k (bC _ _)) (by first | exact hr | exact (hr).k (bC _ _)) (by omega)).mono ?_;rintro e w1 ⟨hm,z1,rfl,n1⟩;(try (replace bL:=bL.k hm));(try (have bL:=(jL W #[.bool false,.slice none 0 0,.bool false,.slice none 0 0,.bool false,.slice none 0 0] 165).k hm;have hL:w.heap.size<=W.heap.size:=hm0.size;have e1:w.heap.size≠W.heap.size:=b1.ne;have e2:w.heap.size+1≠W.heap.size:=b2.ne;have e10:g≠W.heap.size:=b10.ne;have e11:g≠W.heap.size:=b11.ne;have e12:g≠W.heap.size:=b12.ne));replace hm:Mod (fun _=>False) W.drew w1:=(by first | exact hm | exact (bC _ _).trans hm);replace hm0:=hm0.trans hm;replace b10:=b10.k hm;replace b11:=b11.k hm;replace b12:=b12.k hm;replace hp:=hp.k hm;replace hq:=hq.k hm;replace hr:=hr.k hm;replace b1:=b1.k hm;replace b2:=b2.k hm;clear hm hS;have hS:=zI (jS b10) (zI (gX b11) (oF b12));have hA:=zI (jS (b10.al oP)) (zI (gX (b11.al oP)) (oF (b12.al oP)));have hE:=zI (jS (b10.al (.cells z1.r 165))) (zI (gX (b11.al (.cells z1.r 165))) (oF (b12.al (.cells z1.r 165))));(try (have r0:=bL.c 0;have f0:=bL.fz 0;have r1:=bL.c 1;have f1:=bL.fz 1;have r2:=bL.c 2;have f2:=bL.fz 2;have r3:=bL.c 3;have f3:=bL.fz 3;have r4:=bL.c 4;have f4:=bL.fz 4;have r5:=bL.c 5;have f5:=bL.fz 5;have hC:=zI (jS ((((((b10.o e10 0 (.bool z1.x.b)).o e10 1 (.slice z1.x.a z1.x.n z1.x.c)).o e10 2 (.bool z1.y.b)).o e10 3 (.slice z1.y.a z1.y.n z1.y.c)).o e10 4 (.bool z1.w.b)).o e10 5 (.slice z1.w.a z1.w.n z1.w.c))) (zI (gX ((((((b11.o e11 0 (.bool z1.x.b)).o e11 1 (.slice z1.x.a z1.x.n z1.x.c)).o e11 2 (.bool z1.y.b)).o e11 3 (.slice z1.y.a z1.y.n z1.y.c)).o e11 4 (.bool z1.w.b)).o e11 5 (.slice z1.w.a z1.w.n z1.w.c))) (oF ((((((b12.o e12 0 (.bool z1.x.b)).o e12 1 (.slice z1.x.a z1.x.n z1.x.c)).o e12 2 (.bool z1.y.b)).o e12 3 (.slice z1.y.a z1.y.n z1.y.c)).o e12 4 (.bool z1.w.b)).o e12 5 (.slice z1.w.a z1.w.n z1.w.c))))))))
  all_goals (go_wp2_with fail;go_meet;first | (have _d:=bL;exact⟨rfl,_,z1,rfl,((((((bL.set 0 (.bool z1.x.b)).set 1 (.slice z1.x.a z1.x.n z1.x.c)).set 2 (.bool z1.y.b)).set 3 (.slice z1.y.a z1.y.n z1.y.c)).set 4 (.bool z1.w.b)).set 5 (.slice z1.w.a z1.w.n z1.w.c)),(n1.up (by omega)).aL bL (by decide) 0 [.bool z1.x.b,.slice z1.x.a z1.x.n z1.x.c,.bool z1.y.b,.slice z1.y.a z1.y.n z1.y.c,.bool z1.w.b,.slice z1.w.a z1.w.n z1.w.c],hp.aL bL (by decide) 0 [.bool z1.x.b,.slice z1.x.a z1.x.n z1.x.c,.bool z1.y.b,.slice z1.y.a z1.y.n z1.y.c,.bool z1.w.b,.slice z1.w.a z1.w.n z1.w.c],hq.aL bL (by decide) 0 [.bool z1.x.b,.slice z1.x.a z1.x.n z1.x.c,.bool z1.y.b,.slice z1.y.a z1.y.n z1.y.c,.bool z1.w.b,.slice z1.w.a z1.w.n z1.w.c],hr.aL bL (by decide) 0 [.bool z1.x.b,.slice z1.x.a z1.x.n z1.x.c,.bool z1.y.b,.slice z1.y.a z1.y.n z1.y.c,.bool z1.w.b,.slice z1.w.a z1.w.n z1.w.c],b1.os e1 0 [.bool z1.x.b,.slice z1.x.a z1.x.n z1.x.c,.bool z1.y.b,.slice z1.y.a z1.y.n z1.y.c,.bool z1.w.b,.slice z1.w.a z1.w.n z1.w.c],b2.os e2 0 [.bool z1.x.b,.slice z1.x.a z1.x.n z1.x.c,.bool z1.y.b,.slice z1.y.a z1.y.n z1.y.c,.bool z1.w.b,.slice z1.w.a z1.w.n z1.w.c],b10.os e10 0 [.bool z1.x.b,.slice z1.x.a z1.x.n z1.x.c,.bool z1.y.b,.slice z1.y.a z1.y.n z1.y.c,.bool z1.w.b,.slice z1.w.a z1.w.n z1.w.c],b11.os e11 0 [.bool z1.x.b,.slice z1.x.a z1.x.n z1.x.c,.bool z1.y.b,.slice z1.y.a z1.y.n z1.y.c,.bool z1.w.b,.slice z1.w.a z1.w.n z1.w.c],b12.os e12 0 [.bool z1.x.b,.slice z1.x.a z1.x.n z1.x.c,.bool z1.y.b,.slice z1.y.a z1.y.n z1.y.c,.bool z1.w.b,.slice z1.w.a z1.w.n z1.w.c],(Mod.sets (i:=0) (vs:=[.bool z1.x.b,.slice z1.x.a z1.x.n z1.x.c,.bool z1.y.b,.slice z1.y.a z1.y.n z1.y.c,.bool z1.w.b,.slice z1.w.a z1.w.n z1.w.c]) (hm0.mono (q:=fun i=>w.heap.size<=i) (fun _ _ f=>f.elim)) (fun _=>hL)).mono (fun i hi h=>by omega),e1,e2,e10,e11,e12⟩) | exact⟨rfl,_,z1,rfl,aQ _ _ _,(n1.up (by omega)).k ((Mod.refl _ _).alloc _),hp.k ((Mod.refl _ _).alloc _),hq.k ((Mod.refl _ _).alloc _),hr.k ((Mod.refl _ _).alloc _),b1.k ((Mod.refl _ _).alloc _),b2.k ((Mod.refl _ _).alloc _),b10.k ((Mod.refl _ _).alloc _),b11.k ((Mod.refl _ _).alloc _),b12.k ((Mod.refl _ _).alloc _),hm0.trans ((Mod.refl _ _).alloc _),b1.ne,b2.ne,b10.ne,b11.ne,b12.ne⟩)
 case rest =>
 clear hm0 hp hq hr b1 b2 b10 b11 b12
 obtain⟨rfl,k3,x,rfl,b3,hx,hp,hq,hr,b1,b2,b10,b11,b12,hm0,aaf,lF,WK,WL,acz⟩:=hcut
 have lx:=hx.x.lo
 go_upto_region 25 with fail
 cases hb:jU t s u with
 | true =>
  obtain⟨y0,y1,y2,y3,y4,y5⟩:=sP b3
  have r0:=b2.c 0;have f0:=b2.fz 0;have r1:=b2.c 1;have f1:=b2.fz 1;have r2:=b2.c 2;have f2:=b2.fz 2;have r3:=b2.c 3;have f3:=b2.fz 3;have r4:=b2.c 4;have f4:=b2.fz 4;have r5:=b2.c 5;have f5:=b2.fz 5
  go_upto_region 26 with fail
  clear y0 r0 f0 y1 r1 f1 y2 r2 f2 y3 r3 f3 y4 r4 f4 y5 r5 f5
  clear hp hq hr
  rw[<- stP wc (w.heap.size+1) x]
  replace b1:=b1.os (k:=w.heap.size+1) (by omega) 0 x.l
  replace b10:=b10.os (k:=w.heap.size+1) (by omega) 0 x.l
  replace b11:=b11.os (k:=w.heap.size+1) (by omega) 0 x.l
  replace b12:=b12.os (k:=w.heap.size+1) (by omega) 0 x.l
  replace b3:=b3.os (k:=w.heap.size+1) (Ne.symm lF) 0 x.l
  replace hx:=hx.aL b2 (by decide) 0 x.l
  replace hm0:=hm0.stk (k:=w.heap.size+1) (by omega) 0 x.l
  replace b2:=b2.tP x
  generalize (Go.Proofs.YtmnfndpbblpjiabGreatDoor.sets wc (w.heap.size+1) 0 x.l)=W2 at *
  obtain⟨y0,y1,y2,y3,y4,y5,y6,y7,y8,y9,gG,gH,iP,y13,iQ,iR⟩:=vT b2
  obtain⟨r0,r1,r2,r3,r4,r5,r6,r7,r8,r9,Bo,Bp,Bq,Br,Bt,Bu⟩:=vT b1
  obtain⟨f0,f1,f2,f3,f4,f5,f6,f7,f8,f9,f10,f11,f12,f13,f14,f15⟩:=b1.fs
  go_wp2_with fail
  clear y0 r0 f0 y1 r1 f1 y2 r2 f2 y3 r3 f3 y4 r4 f4 y5 r5 f5 y6 r6 f6 y7 r7 f7 y8 r8 f8 y9 r9 f9 gG Bo f10 gH Bp f11 iP Bq f12 y13 Br f13 iQ Bt f14 iR Bu f15
  rw[<- OT W2 w.heap.size x pQ]
  have hF:=BG (T:=⟨(nH t s u),l0⟩) (b:=(!true)) (c:=99) (m:=(5*a+3*b+2*c)) (d:=12) (p:=x) (l:=pQ) b1 hm0 (fun _=>⟨hx,LI.zero _ (by omega) (by omega)⟩)
  have q:=b1.tT x pQ
  clear b1 hm0
  generalize Go.Proofs.YtmnfndpbblpjiabGreatDoor.sets W2 w.heap.size 0 (TV.s x pQ)=W9 at *
  obtain⟨q0,q1,q2,q3,q4,q5,q6,q7,q8,q9,Cq,Cr,Ct,Cu,Cv,Cw⟩:=vT q
  have fP:Hid (gu w ⟨(nH t s u),l0⟩ (!true) 99 (5*a+3*b+2*c) 12 (.returned (.tuple #[TV.v ⟨x,pQ⟩,.string ⟨#[]⟩])) W9):=hF
  exact bodyPost_ret (v:=.tuple #[TV.v ⟨x,pQ⟩,.string ⟨#[]⟩]) (by simp[results,Tryz.results116,go_sem,q0,q1,q2,q3,q4,q5,q6,q7,q8,q9,Cq,Cr,Ct,Cu,Cv,Cw]) rfl (by rw[hb];exact fP.out)
 | false =>
  obtain⟨y0,y1,y2,y3,y4,y5⟩:=sP b3
  have r0:=b2.c 0;have f0:=b2.fz 0;have r1:=b2.c 1;have f1:=b2.fz 1;have r2:=b2.c 2;have f2:=b2.fz 2;have r3:=b2.c 3;have f3:=b2.fz 3;have r4:=b2.c 4;have f4:=b2.fz 4;have r5:=b2.c 5;have f5:=b2.fz 5
  go_upto_region 26 with fail
  clear y0 r0 f0 y1 r1 f1 y2 r2 f2 y3 r3 f3 y4 r4 f4 y5 r5 f5
  clear hp hq hr
  rw[<- stP wc (w.heap.size+1) x]
  replace b1:=b1.os (k:=w.heap.size+1) (by omega) 0 x.l
  replace b10:=b10.os (k:=w.heap.size+1) (by omega) 0 x.l
  replace b11:=b11.os (k:=w.heap.size+1) (by omega) 0 x.l
  replace b12:=b12.os (k:=w.heap.size+1) (by omega) 0 x.l
  replace b3:=b3.os (k:=w.heap.size+1) (Ne.symm lF) 0 x.l
  replace hx:=hx.aL b2 (by decide) 0 x.l
  replace hm0:=hm0.stk (k:=w.heap.size+1) (by omega) 0 x.l
  replace b2:=b2.tP x
  generalize (Go.Proofs.YtmnfndpbblpjiabGreatDoor.sets wc (w.heap.size+1) 0 x.l)=W2 at *
  obtain⟨y0,y1,y2,y3,y4,y5,y6,y7,y8,y9,gG,gH,iP,y13,iQ,iR⟩:=vT b2
  obtain⟨r0,r1,r2,r3,r4,r5,r6,r7,r8,r9,Bo,Bp,Bq,Br,Bt,Bu⟩:=vT b1
  obtain⟨f0,f1,f2,f3,f4,f5,f6,f7,f8,f9,f10,f11,f12,f13,f14,f15⟩:=b1.fs
  go_wp2_with fail
  clear y0 r0 f0 y1 r1 f1 y2 r2 f2 y3 r3 f3 y4 r4 f4 y5 r5 f5 y6 r6 f6 y7 r7 f7 y8 r8 f8 y9 r9 f9 gG Bo f10 gH Bp f11 iP Bq f12 y13 Br f13 iQ Bt f14 iR Bu f15
  rw[<- OT W2 w.heap.size x pQ]
  have hF:=BG (T:=⟨(nH t s u),l0⟩) (b:=(!false)) (c:=99) (m:=(5*a+3*b+2*c)) (d:=12) (p:=x) (l:=pQ) b1 hm0 (fun h=>by simp at h)
  have q:=b1.tT x pQ
  clear b1 hm0
  generalize Go.Proofs.YtmnfndpbblpjiabGreatDoor.sets W2 w.heap.size 0 (TV.s x pQ)=W9 at *
  obtain⟨q0,q1,q2,q3,q4,q5,q6,q7,q8,q9,Cq,Cr,Ct,Cu,Cv,Cw⟩:=vT q
  have fP:Hid (gu w ⟨(nH t s u),l0⟩ (!false) 99 (5*a+3*b+2*c) 12 (.returned (.tuple #[TV.v ⟨x,pQ⟩,.string ⟨#[99]⟩])) W9):=hF
  exact bodyPost_ret (v:=.tuple #[TV.v ⟨x,pQ⟩,.string ⟨#[99]⟩]) (by simp[results,Tryz.results116,go_sem,q0,q1,q2,q3,q4,q5,q6,q7,q8,q9,Cq,Cr,Ct,Cu,Cv,Cw]) rfl (by rw[hb];exact fP.out)
end Go.Proofs.YtmnfndpbblpjiabGreatDoor

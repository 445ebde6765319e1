/- The document's plane: foot, mirror. -/
import Derived.Test.YtmnfndpbblpjiabGreatDoorZx32
set_option maxHeartbeats 3200000
set_option maxRecDepth 100000
namespace Go.Proofs.YtmnfndpbblpjiabGreatDoor
open Go.RowKit Pu
theorem P9 {w:World} {p:PV} {t:T3} {l:LV} {r:RL} {mp ml md:Nat} (hp:PI w p t mp) (hl:LI w l r ml md) (h:mp+2*ml+2*md<=900000000):Calls Tryz.prog 170 #[p.v,l.v] w (xG w (jE (iF t r)) (mp+2*ml+2*md)):=by
 obtain⟨hm0,b1,b2,b3⟩:=zU w p.r l.r #[.bool false,.slice none 0 0,.bool false,.slice none 0 0,.bool false,.slice none 0 0] 165 167 165
 have lp:=hp.x.lo
 have ll:=hl.p.x.lo;have ll2:=hl.x.lo
 replace hp:=hp.k hm0
 replace hl:=hl.k hm0
 go_in
 go_upto_region 1 with fail
 generalize (((w.alloc (.cells p.r 165)).alloc (.cells l.r 167)).alloc (.cells #[.bool false,.slice none 0 0,.bool false,.slice none 0 0,.bool false,.slice none 0 0] 165))=W at *
 go_cut [5] from 7 (fun sv wc=>∃ (kk:Nat) (zz:VV),sv=.pointer (some ⟨kk,0,none⟩)/\Bk wc kk zz.r 206/\VI wc zz r.d md/\PI wc p t mp/\LI wc l r ml md/\Bk wc (w.heap.size) p.r 165/\Bk wc (w.heap.size+1) l.r 167/\Bk wc (w.heap.size+1+1) #[.bool false,.slice none 0 0,.bool false,.slice none 0 0,.bool false,.slice none 0 0] 165/\Mod (fun _=>False) w wc/\w.heap.size≠kk/\w.heap.size+1≠kk/\w.heap.size+1+1≠kk)
 case first =>
  obtain⟨y0,y1,y2,y3,y4,y5,y6,y7,y8,y9⟩:=sL b2
  go_wp2_with (first
    | (go_at_call 165;(fail_if_success have _e:=n1);refine (oK hl).mono ?_;rintro e w1 ⟨hm,z1,rfl,n1⟩;replace hm0:=hm0.trans hm;replace hp:=hp.k hm;replace hl:=hl.k hm;replace b1:=b1.k hm;replace b2:=b2.k hm;replace b3:=b3.k hm;clear hm))
  clear y0 y1 y2 y3 y4 y5 y6 y7 y8 y9
  go_meet;exact⟨_,z1,rfl,aQ _ _ _,n1.k ((Mod.refl _ _).alloc _),hp.k ((Mod.refl _ _).alloc _),hl.k ((Mod.refl _ _).alloc _),b1.k ((Mod.refl _ _).alloc _),b2.k ((Mod.refl _ _).alloc _),b3.k ((Mod.refl _ _).alloc _),hm0.trans ((Mod.refl _ _).alloc _),b1.ne,b2.ne,b3.ne⟩
 case rest =>
 clear hm0 hp hl b1 b2 b3
 obtain⟨k4,u,rfl,b4,hu,hp,hl,b1,b2,b3,hm0,Ur,Us,kU⟩:=hcut
 have lu:=hu.x.lo
 go_upto_region 2 with fail
 go_cut [6] from 9 (fun sv wc=>∃ (kk:Nat) (zz:NV),sv=.pointer (some ⟨kk,0,none⟩)/\Bk wc kk zz.r 154/\NI wc zz (t.w*r.p.w) (mp+ml - 8)/\PI wc p t mp/\LI wc l r ml md/\VI wc u r.d md/\Bk wc (w.heap.size) p.r 165/\Bk wc (w.heap.size+1) l.r 167/\Bk wc (w.heap.size+1+1) #[.bool false,.slice none 0 0,.bool false,.slice none 0 0,.bool false,.slice none 0 0] 165/\Bk wc (k4) u.r 206/\Mod (fun _=>False) w wc/\w.heap.size≠kk/\w.heap.size+1≠kk/\w.heap.size+1+1≠kk/\k4≠kk)
 case first =>
  obtain⟨y0,y1,y2,y3,y4,y5⟩:=sP b1
  obtain⟨y6,y7,y8,y9,gG,gH,iP,y13,iQ,iR⟩:=sL b2
  go_wp2_with (first
    | (go_at_call 153;(fail_if_success have _e:=n1);refine (bM hp.w hl.p.w (by omega) (k:=mp+ml - 8) (by omega)).mono ?_;rintro e w1 ⟨hm,z1,rfl,n1⟩;replace hm0:=hm0.trans hm;replace hp:=hp.k hm;replace hl:=hl.k hm;replace hu:=hu.k hm;replace b1:=b1.k hm;replace b2:=b2.k hm;replace b3:=b3.k hm;replace b4:=b4.k hm;clear hm))
  clear y0 y1 y2 y3 y4 y5 y6 y7 y8 y9 gG gH iP y13 iQ iR
  go_meet;exact⟨_,z1,rfl,aQ _ _ _,n1.k ((Mod.refl _ _).alloc _),hp.k ((Mod.refl _ _).alloc _),hl.k ((Mod.refl _ _).alloc _),hu.k ((Mod.refl _ _).alloc _),b1.k ((Mod.refl _ _).alloc _),b2.k ((Mod.refl _ _).alloc _),b3.k ((Mod.refl _ _).alloc _),b4.k ((Mod.refl _ _).alloc _),hm0.trans ((Mod.refl _ _).alloc _),b1.ne,b2.ne,b3.ne,b4.ne⟩
 case rest =>
 clear hm0 hp hl hu b1 b2 b3 b4
 obtain⟨k5,v,rfl,b5,hv,hp,hl,hu,b1,b2,b3,b4,hm0,Px,Py,nI,Pz⟩:=hcut
 have lv:=hv.lo
 go_wp2_with fail
 have hT:=zI (sP b1) (zI (sL b2) (zI (sV b4) (sN b5)))
 have hdw:Mod (fun _=>False) wc wc.drew:=(Mod.refl _ wc).drew
 replace hm0:=hm0.trans hdw
 replace hp:=hp.k hdw;replace hl:=hl.k hdw;replace hu:=hu.k hdw;replace hv:=hv.k hdw;replace b1:=b1.k hdw;replace b2:=b2.k hdw;replace b3:=b3.k hdw;replace b4:=b4.k hdw;replace b5:=b5.k hdw
 clear hdw
 have hS:=zI (sP b1) (zI (sL b2) (zI (sV b4) (sN b5)))
 go_region_held3 (fun w'=>BP (w.heap.size) p w'/\BL (w.heap.size+1) l w'/\BV (k4) u w'/\BN (k5) v w')
  (first | with_reducible exact hS | with_reducible exact hC | with_reducible exact hT)
  (first
   | (go_at_call 190;(fail_if_success have _e:=n5);have _d:=n4;refine (yI hl.p hu n2 n4 (k:=mp+2*ml+2*md) (by omega)).mono ?_;rintro e w5 ⟨hm,z5,rfl,n5⟩;replace hm0:=hm0.trans hm;replace hp:=hp.k hm;replace hl:=hl.k hm;replace hu:=hu.k hm;replace hv:=hv.k hm;replace b1:=b1.k hm;replace b2:=b2.k hm;replace b3:=b3.k hm;replace b4:=b4.k hm;replace b5:=b5.k hm;replace n1:=n1.k hm;replace n2:=n2.k hm;replace n3:=n3.k hm;replace n4:=n4.k hm;clear hm hS;have hS:=zI (sP b1) (zI (sL b2) (zI (sV b4) (sN b5)));have r0:=b3.c 0;have f0:=b3.fz 0;have r1:=b3.c 1;have f1:=b3.fz 1;have r2:=b3.c 2;have f2:=b3.fz 2;have r3:=b3.c 3;have f3:=b3.fz 3;have r4:=b3.c 4;have f4:=b3.fz 4;have r5:=b3.c 5;have f5:=b3.fz 5;have hC:=zI (sP ((((((b1.o (c:=w.heap.size+1+1) (by omega) 0 (.bool z5.x.b)).o (c:=w.heap.size+1+1) (by omega) 1 (.slice z5.x.a z5.x.n z5.x.c)).o (c:=w.heap.size+1+1) (by omega) 2 (.bool z5.y.b)).o (c:=w.heap.size+1+1) (by omega) 3 (.slice z5.y.a z5.y.n z5.y.c)).o (c:=w.heap.size+1+1) (by omega) 4 (.bool z5.w.b)).o (c:=w.heap.size+1+1) (by omega) 5 (.slice z5.w.a z5.w.n z5.w.c))) (zI (sL ((((((b2.o (c:=w.heap.size+1+1) (by omega) 0 (.bool z5.x.b)).o (c:=w.heap.size+1+1) (by omega) 1 (.slice z5.x.a z5.x.n z5.x.c)).o (c:=w.heap.size+1+1) (by omega) 2 (.bool z5.y.b)).o (c:=w.heap.size+1+1) (by omega) 3 (.slice z5.y.a z5.y.n z5.y.c)).o (c:=w.heap.size+1+1) (by omega) 4 (.bool z5.w.b)).o (c:=w.heap.size+1+1) (by omega) 5 (.slice z5.w.a z5.w.n z5.w.c))) (zI (sV ((((((b4.o (c:=w.heap.size+1+1) (Ne.symm kU) 0 (.bool z5.x.b)).o (c:=w.heap.size+1+1) (Ne.symm kU) 1 (.slice z5.x.a z5.x.n z5.x.c)).o (c:=w.heap.size+1+1) (Ne.symm kU) 2 (.bool z5.y.b)).o (c:=w.heap.size+1+1) (Ne.symm kU) 3 (.slice z5.y.a z5.y.n z5.y.c)).o (c:=w.heap.size+1+1) (Ne.symm kU) 4 (.bool z5.w.b)).o (c:=w.heap.size+1+1) (Ne.symm kU) 5 (.slice z5.w.a z5.w.n z5.w.c))) (sN ((((((b5.o (c:=w.heap.size+1+1) (Ne.symm nI) 0 (.bool z5.x.b)).o (c:=w.heap.size+1+1) (Ne.symm nI) 1 (.slice z5.x.a z5.x.n z5.x.c)).o (c:=w.heap.size+1+1) (Ne.symm nI) 2 (.bool z5.y.b)).o (c:=w.heap.size+1+1) (Ne.symm nI) 3 (.slice z5.y.a z5.y.n z5.y.c)).o (c:=w.heap.size+1+1) (Ne.symm nI) 4 (.bool z5.w.b)).o (c:=w.heap.size+1+1) (Ne.symm nI) 5 (.slice z5.w.a z5.w.n z5.w.c))))))
   | (go_at_call 153;(fail_if_success have _e:=n4);have _d:=n3;refine (bM hv n3 (by omega) (k:=mp+ml+2*md - 20) (by omega)).mono ?_;rintro e w4 ⟨hm,z4,rfl,n4⟩;replace hm0:=hm0.trans hm;replace hp:=hp.k hm;replace hl:=hl.k hm;replace hu:=hu.k hm;replace hv:=hv.k hm;replace b1:=b1.k hm;replace b2:=b2.k hm;replace b3:=b3.k hm;replace b4:=b4.k hm;replace b5:=b5.k hm;replace n1:=n1.k hm;replace n2:=n2.k hm;replace n3:=n3.k hm;clear hm hS;have hS:=zI (sP b1) (zI (sL b2) (zI (sV b4) (sN b5))))
   | (go_at_call 164;(fail_if_success have _e:=n3);have _d:=n2;refine (FH hu hu (by omega)).mono ?_;rintro e w3 ⟨hm,z3,rfl,n3⟩;replace hm0:=hm0.trans hm;replace hp:=hp.k hm;replace hl:=hl.k hm;replace hu:=hu.k hm;replace hv:=hv.k hm;replace b1:=b1.k hm;replace b2:=b2.k hm;replace b3:=b3.k hm;replace b4:=b4.k hm;replace b5:=b5.k hm;replace n1:=n1.k hm;replace n2:=n2.k hm;clear hm hS;have hS:=zI (sP b1) (zI (sL b2) (zI (sV b4) (sN b5))))
   | (go_at_call 164;(fail_if_success have _e:=n2);have _d:=n1;refine (FH n1 hu (by omega)).mono ?_;rintro e w2 ⟨hm,z2,rfl,n2⟩;replace hm0:=hm0.trans hm;replace hp:=hp.k hm;replace hl:=hl.k hm;replace hu:=hu.k hm;replace hv:=hv.k hm;replace b1:=b1.k hm;replace b2:=b2.k hm;replace b3:=b3.k hm;replace b4:=b4.k hm;replace b5:=b5.k hm;replace n1:=n1.k hm;clear hm hS;have hS:=zI (sP b1) (zI (sL b2) (zI (sV b4) (sN b5))))
   | (go_at_call 158;(fail_if_success have _e:=n1);refine (kr hl.p hp (by omega)).mono ?_;rintro e w1 ⟨hm,z1,rfl,n1⟩;replace hm0:=hm0.trans hm;replace hp:=hp.k hm;replace hl:=hl.k hm;replace hu:=hu.k hm;replace hv:=hv.k hm;replace b1:=b1.k hm;replace b2:=b2.k hm;replace b3:=b3.k hm;replace b4:=b4.k hm;replace b5:=b5.k hm;clear hm hS;have hS:=zI (sP b1) (zI (sL b2) (zI (sV b4) (sN b5)))))
 have q:=((((((b3.set 0 (.bool z5.x.b)).set 1 (.slice z5.x.a z5.x.n z5.x.c)).set 2 (.bool z5.y.b)).set 3 (.slice z5.y.a z5.y.n z5.y.c)).set 4 (.bool z5.w.b)).set 5 (.slice z5.w.a z5.w.n z5.w.c))
 have q0:=q.c 0
 have q1:=q.c 1
 have q2:=q.c 2
 have q3:=q.c 3
 have q4:=q.c 4
 have q5:=q.c 5
 have fT:Mod (fun _=>False) w ((((((w5.setCell ⟨w.heap.size+1+1,0,none⟩ (.bool z5.x.b)).setCell ⟨w.heap.size+1+1,1,none⟩ (.slice z5.x.a z5.x.n z5.x.c)).setCell ⟨w.heap.size+1+1,2,none⟩ (.bool z5.y.b)).setCell ⟨w.heap.size+1+1,3,none⟩ (.slice z5.y.a z5.y.n z5.y.c)).setCell ⟨w.heap.size+1+1,4,none⟩ (.bool z5.w.b)).setCell ⟨w.heap.size+1+1,5,none⟩ (.slice z5.w.a z5.w.n z5.w.c)):=((hm0.mono (q:=fun i=>i=w.heap.size+1+1) (fun _ _ f=>f.elim)).trans (((((((Mod.refl (fun i=>i=w.heap.size+1+1) w5).setCell ⟨w.heap.size+1+1,0,none⟩ (.bool z5.x.b) (fun _=>rfl)).setCell ⟨w.heap.size+1+1,1,none⟩ (.slice z5.x.a z5.x.n z5.x.c) (fun _=>rfl)).setCell ⟨w.heap.size+1+1,2,none⟩ (.bool z5.y.b) (fun _=>rfl)).setCell ⟨w.heap.size+1+1,3,none⟩ (.slice z5.y.a z5.y.n z5.y.c) (fun _=>rfl)).setCell ⟨w.heap.size+1+1,4,none⟩ (.bool z5.w.b) (fun _=>rfl)).setCell ⟨w.heap.size+1+1,5,none⟩ (.slice z5.w.a z5.w.n z5.w.c) (fun _=>rfl))).mono (fun i hi h=>by omega)
 have fP:Hid _:=(show xG w (jE (iF t r)) (mp+2*ml+2*md) (.returned z5.v) ((((((w5.setCell ⟨w.heap.size+1+1,0,none⟩ (.bool z5.x.b)).setCell ⟨w.heap.size+1+1,1,none⟩ (.slice z5.x.a z5.x.n z5.x.c)).setCell ⟨w.heap.size+1+1,2,none⟩ (.bool z5.y.b)).setCell ⟨w.heap.size+1+1,3,none⟩ (.slice z5.y.a z5.y.n z5.y.c)).setCell ⟨w.heap.size+1+1,4,none⟩ (.bool z5.w.b)).setCell ⟨w.heap.size+1+1,5,none⟩ (.slice z5.w.a z5.w.n z5.w.c)) from ⟨fT,z5,rfl,⟨(n5.x.aL b3 (by decide) 0 [.bool z5.x.b,.slice z5.x.a z5.x.n z5.x.c,.bool z5.y.b,.slice z5.y.a z5.y.n z5.y.c,.bool z5.w.b,.slice z5.w.a z5.w.n z5.w.c]),(n5.y.aL b3 (by decide) 0 [.bool z5.x.b,.slice z5.x.a z5.x.n z5.x.c,.bool z5.y.b,.slice z5.y.a z5.y.n z5.y.c,.bool z5.w.b,.slice z5.w.a z5.w.n z5.w.c]),(n5.w.aL b3 (by decide) 0 [.bool z5.x.b,.slice z5.x.a z5.x.n z5.x.c,.bool z5.y.b,.slice z5.y.a z5.y.n z5.y.c,.bool z5.w.b,.slice z5.w.a z5.w.n z5.w.c])⟩⟩)
 clear hS hC hT q hp hl hu hv b1 b2 b3 b4 b5 n1 n2 n3 n4 n5
 go_wp2
 exact bodyPost_ret (by simp[results,Tryz.results170,go_sem,q0,q1,q2,q3,q4,q5]) rfl fP.out
theorem Rb {w:World} {p:PV} {t:T3} {l:LV} {r:RL} {mp ml md:Nat} (hp:PI w p t mp) (hl:LI w l r ml md) (h:3*mp+4*ml+4*md<=900000000):Calls Tryz.prog 171 #[p.v,l.v] w (xG w (jE (zw t (jE (iF t r)))) (3*mp+4*ml+4*md)):=by
 obtain⟨hm0,b1,b2,b3⟩:=zU w p.r l.r #[.bool false,.slice none 0 0,.bool false,.slice none 0 0,.bool false,.slice none 0 0] 165 167 165
 have lp:=hp.x.lo
 have ll:=hl.p.x.lo;have ll2:=hl.x.lo
 replace hp:=hp.k hm0
 replace hl:=hl.k hm0
 go_in
 go_upto_region 1 with fail
 generalize (((w.alloc (.cells p.r 165)).alloc (.cells l.r 167)).alloc (.cells #[.bool false,.slice none 0 0,.bool false,.slice none 0 0,.bool false,.slice none 0 0] 165))=W at *
 go_cut [5] from 7 (fun sv wc=>∃ (kk:Nat) (zz:PV),sv=.pointer (some ⟨kk,0,none⟩)/\Bk wc kk zz.r 165/\PI wc zz (jE (iF t r)) (mp+2*ml+2*md)/\PI wc p t mp/\LI wc l r ml md/\Bk wc (w.heap.size) p.r 165/\Bk wc (w.heap.size+1) l.r 167/\Bk wc (w.heap.size+1+1) #[.bool false,.slice none 0 0,.bool false,.slice none 0 0,.bool false,.slice none 0 0] 165/\Mod (fun _=>False) w wc/\w.heap.size≠kk/\w.heap.size+1≠kk/\w.heap.size+1+1≠kk)
 case first =>
  obtain⟨y0,y1,y2,y3,y4,y5⟩:=sP b1
  obtain⟨y6,y7,y8,y9,gG,gH,iP,y13,iQ,iR⟩:=sL b2
  go_wp2_with (first
    | (go_at_call 170;(fail_if_success have _e:=n1);refine (P9 hp hl (by omega)).mono ?_;rintro e w1 ⟨hm,z1,rfl,n1⟩;replace hm0:=hm0.trans hm;replace hp:=hp.k hm;replace hl:=hl.k hm;replace b1:=b1.k hm;replace b2:=b2.k hm;replace b3:=b3.k hm;clear hm))
  clear y0 y1 y2 y3 y4 y5 y6 y7 y8 y9 gG gH iP y13 iQ iR
  go_meet;exact⟨_,z1,rfl,aQ _ _ _,n1.k ((Mod.refl _ _).alloc _),hp.k ((Mod.refl _ _).alloc _),hl.k ((Mod.refl _ _).alloc _),b1.k ((Mod.refl _ _).alloc _),b2.k ((Mod.refl _ _).alloc _),b3.k ((Mod.refl _ _).alloc _),hm0.trans ((Mod.refl _ _).alloc _),b1.ne,b2.ne,b3.ne⟩
 case rest =>
 clear hm0 hp hl b1 b2 b3
 obtain⟨k4,f,rfl,b4,hf,hp,hl,b1,b2,b3,hm0,Ur,Us,kU⟩:=hcut
 have lf:=hf.x.lo
 go_upto_region 2 with fail
 go_cut [6] from 10 (fun sv wc=>∃ (kk:Nat) (zz:VV),sv=.pointer (some ⟨kk,0,none⟩)/\Bk wc kk zz.r 206/\VI wc zz (iU t (jE (iF t r))) (mp+(mp+2*ml+2*md) - 4)/\PI wc p t mp/\LI wc l r ml md/\PI wc f (jE (iF t r)) (mp+2*ml+2*md)/\Bk wc (w.heap.size) p.r 165/\Bk wc (w.heap.size+1) l.r 167/\Bk wc (w.heap.size+1+1) #[.bool false,.slice none 0 0,.bool false,.slice none 0 0,.bool false,.slice none 0 0] 165/\Bk wc (k4) f.r 165/\Mod (fun _=>False) w wc/\w.heap.size≠kk/\w.heap.size+1≠kk/\w.heap.size+1+1≠kk/\k4≠kk)
 case first =>
  obtain⟨y0,y1,y2,y3,y4,y5⟩:=sP b1
  obtain⟨y6,y7,y8,y9,gG,gH⟩:=sP b4
  go_wp2_with (first
    | (go_at_call 158;(fail_if_success have _e:=n1);refine (kr hp hf (by omega)).mono ?_;rintro e w1 ⟨hm,z1,rfl,n1⟩;replace hm0:=hm0.trans hm;replace hp:=hp.k hm;replace hl:=hl.k hm;replace hf:=hf.k hm;replace b1:=b1.k hm;replace b2:=b2.k hm;replace b3:=b3.k hm;replace b4:=b4.k hm;clear hm))
  clear y0 y1 y2 y3 y4 y5 y6 y7 y8 y9 gG gH
  go_meet;exact⟨_,z1,rfl,aQ _ _ _,n1.k ((Mod.refl _ _).alloc _),hp.k ((Mod.refl _ _).alloc _),hl.k ((Mod.refl _ _).alloc _),hf.k ((Mod.refl _ _).alloc _),b1.k ((Mod.refl _ _).alloc _),b2.k ((Mod.refl _ _).alloc _),b3.k ((Mod.refl _ _).alloc _),b4.k ((Mod.refl _ _).alloc _),hm0.trans ((Mod.refl _ _).alloc _),b1.ne,b2.ne,b3.ne,b4.ne⟩
 case rest =>
 clear hm0 hp hl hf b1 b2 b3 b4
 obtain⟨k5,u,rfl,b5,hu,hp,hl,hf,b1,b2,b3,b4,hm0,Px,Py,nI,Pz⟩:=hcut
 have lu:=hu.x.lo
 go_wp2_with fail
 have hT:=zI (sP b1) (zI (sP b4) (sV b5))
 have hdw:Mod (fun _=>False) wc wc.drew:=(Mod.refl _ wc).drew
 replace hm0:=hm0.trans hdw
 replace hp:=hp.k hdw;replace hl:=hl.k hdw;replace hf:=hf.k hdw;replace hu:=hu.k hdw;replace b1:=b1.k hdw;replace b2:=b2.k hdw;replace b3:=b3.k hdw;replace b4:=b4.k hdw;replace b5:=b5.k hdw
 clear hdw
 have hS:=zI (sP b1) (zI (sP b4) (sV b5))
 go_region_held3 (fun w'=>BP (w.heap.size) p w'/\BP (k4) f w'/\BV (k5) u w')
  (first | with_reducible exact hS | with_reducible exact hC | with_reducible exact hT)
  (first
   | (go_at_call 190;(fail_if_success have _e:=n3);have _d:=n2;refine (yI hf hu n1 n2 (k:=3*mp+4*ml+4*md) (by omega)).mono ?_;rintro e w3 ⟨hm,z3,rfl,n3⟩;replace hm0:=hm0.trans hm;replace hp:=hp.k hm;replace hl:=hl.k hm;replace hf:=hf.k hm;replace hu:=hu.k hm;replace b1:=b1.k hm;replace b2:=b2.k hm;replace b3:=b3.k hm;replace b4:=b4.k hm;replace b5:=b5.k hm;replace n1:=n1.k hm;replace n2:=n2.k hm;clear hm hS;have hS:=zI (sP b1) (zI (sP b4) (sV b5));have r0:=b3.c 0;have f0:=b3.fz 0;have r1:=b3.c 1;have f1:=b3.fz 1;have r2:=b3.c 2;have f2:=b3.fz 2;have r3:=b3.c 3;have f3:=b3.fz 3;have r4:=b3.c 4;have f4:=b3.fz 4;have r5:=b3.c 5;have f5:=b3.fz 5;have hC:=zI (sP ((((((b1.o (c:=w.heap.size+1+1) (by omega) 0 (.bool z3.x.b)).o (c:=w.heap.size+1+1) (by omega) 1 (.slice z3.x.a z3.x.n z3.x.c)).o (c:=w.heap.size+1+1) (by omega) 2 (.bool z3.y.b)).o (c:=w.heap.size+1+1) (by omega) 3 (.slice z3.y.a z3.y.n z3.y.c)).o (c:=w.heap.size+1+1) (by omega) 4 (.bool z3.w.b)).o (c:=w.heap.size+1+1) (by omega) 5 (.slice z3.w.a z3.w.n z3.w.c))) (zI (sP ((((((b4.o (c:=w.heap.size+1+1) (Ne.symm kU) 0 (.bool z3.x.b)).o (c:=w.heap.size+1+1) (Ne.symm kU) 1 (.slice z3.x.a z3.x.n z3.x.c)).o (c:=w.heap.size+1+1) (Ne.symm kU) 2 (.bool z3.y.b)).o (c:=w.heap.size+1+1) (Ne.symm kU) 3 (.slice z3.y.a z3.y.n z3.y.c)).o (c:=w.heap.size+1+1) (Ne.symm kU) 4 (.bool z3.w.b)).o (c:=w.heap.size+1+1) (Ne.symm kU) 5 (.slice z3.w.a z3.w.n z3.w.c))) (sV ((((((b5.o (c:=w.heap.size+1+1) (Ne.symm nI) 0 (.bool z3.x.b)).o (c:=w.heap.size+1+1) (Ne.symm nI) 1 (.slice z3.x.a z3.x.n z3.x.c)).o (c:=w.heap.size+1+1) (Ne.symm nI) 2 (.bool z3.y.b)).o (c:=w.heap.size+1+1) (Ne.symm nI) 3 (.slice z3.y.a z3.y.n z3.y.c)).o (c:=w.heap.size+1+1) (Ne.symm nI) 4 (.bool z3.w.b)).o (c:=w.heap.size+1+1) (Ne.symm nI) 5 (.slice z3.w.a z3.w.n z3.w.c)))))
   | (go_at_call 153;(fail_if_success have _e:=n2);have _d:=n1;refine (bM hp.w hf.w (by omega) (k:=2*mp+2*ml+2*md - 8) (by omega)).mono ?_;rintro e w2 ⟨hm,z2,rfl,n2⟩;replace hm0:=hm0.trans hm;replace hp:=hp.k hm;replace hl:=hl.k hm;replace hf:=hf.k hm;replace hu:=hu.k hm;replace b1:=b1.k hm;replace b2:=b2.k hm;replace b3:=b3.k hm;replace b4:=b4.k hm;replace b5:=b5.k hm;replace n1:=n1.k hm;clear hm hS;have hS:=zI (sP b1) (zI (sP b4) (sV b5)))
   | (go_at_call 115;(fail_if_success have _e:=n1);refine (RD 1 _ (by decide) (by decide)).mono ?_;rintro e w1 ⟨hm,z1,rfl,n1⟩;replace hm0:=hm0.trans hm;replace hp:=hp.k hm;replace hl:=hl.k hm;replace hf:=hf.k hm;replace hu:=hu.k hm;replace b1:=b1.k hm;replace b2:=b2.k hm;replace b3:=b3.k hm;replace b4:=b4.k hm;replace b5:=b5.k hm;clear hm hS;have hS:=zI (sP b1) (zI (sP b4) (sV b5))))
 have q:=((((((b3.set 0 (.bool z3.x.b)).set 1 (.slice z3.x.a z3.x.n z3.x.c)).set 2 (.bool z3.y.b)).set 3 (.slice z3.y.a z3.y.n z3.y.c)).set 4 (.bool z3.w.b)).set 5 (.slice z3.w.a z3.w.n z3.w.c))
 have q0:=q.c 0
 have q1:=q.c 1
 have q2:=q.c 2
 have q3:=q.c 3
 have q4:=q.c 4
 have q5:=q.c 5
 have fT:Mod (fun _=>False) w ((((((w3.setCell ⟨w.heap.size+1+1,0,none⟩ (.bool z3.x.b)).setCell ⟨w.heap.size+1+1,1,none⟩ (.slice z3.x.a z3.x.n z3.x.c)).setCell ⟨w.heap.size+1+1,2,none⟩ (.bool z3.y.b)).setCell ⟨w.heap.size+1+1,3,none⟩ (.slice z3.y.a z3.y.n z3.y.c)).setCell ⟨w.heap.size+1+1,4,none⟩ (.bool z3.w.b)).setCell ⟨w.heap.size+1+1,5,none⟩ (.slice z3.w.a z3.w.n z3.w.c)):=((hm0.mono (q:=fun i=>i=w.heap.size+1+1) (fun _ _ f=>f.elim)).trans (((((((Mod.refl (fun i=>i=w.heap.size+1+1) w3).setCell ⟨w.heap.size+1+1,0,none⟩ (.bool z3.x.b) (fun _=>rfl)).setCell ⟨w.heap.size+1+1,1,none⟩ (.slice z3.x.a z3.x.n z3.x.c) (fun _=>rfl)).setCell ⟨w.heap.size+1+1,2,none⟩ (.bool z3.y.b) (fun _=>rfl)).setCell ⟨w.heap.size+1+1,3,none⟩ (.slice z3.y.a z3.y.n z3.y.c) (fun _=>rfl)).setCell ⟨w.heap.size+1+1,4,none⟩ (.bool z3.w.b) (fun _=>rfl)).setCell ⟨w.heap.size+1+1,5,none⟩ (.slice z3.w.a z3.w.n z3.w.c) (fun _=>rfl))).mono (fun i hi h=>by omega)
 have fP:Hid _:=(show xG w (jE (zw t (jE (iF t r)))) (3*mp+4*ml+4*md) (.returned z3.v) ((((((w3.setCell ⟨w.heap.size+1+1,0,none⟩ (.bool z3.x.b)).setCell ⟨w.heap.size+1+1,1,none⟩ (.slice z3.x.a z3.x.n z3.x.c)).setCell ⟨w.heap.size+1+1,2,none⟩ (.bool z3.y.b)).setCell ⟨w.heap.size+1+1,3,none⟩ (.slice z3.y.a z3.y.n z3.y.c)).setCell ⟨w.heap.size+1+1,4,none⟩ (.bool z3.w.b)).setCell ⟨w.heap.size+1+1,5,none⟩ (.slice z3.w.a z3.w.n z3.w.c)) from ⟨fT,z3,rfl,⟨(n3.x.aL b3 (by decide) 0 [.bool z3.x.b,.slice z3.x.a z3.x.n z3.x.c,.bool z3.y.b,.slice z3.y.a z3.y.n z3.y.c,.bool z3.w.b,.slice z3.w.a z3.w.n z3.w.c]),(n3.y.aL b3 (by decide) 0 [.bool z3.x.b,.slice z3.x.a z3.x.n z3.x.c,.bool z3.y.b,.slice z3.y.a z3.y.n z3.y.c,.bool z3.w.b,.slice z3.w.a z3.w.n z3.w.c]),(n3.w.aL b3 (by decide) 0 [.bool z3.x.b,.slice z3.x.a z3.x.n z3.x.c,.bool z3.y.b,.slice z3.y.a z3.y.n z3.y.c,.bool z3.w.b,.slice z3.w.a z3.w.n z3.w.c])⟩⟩)
 clear hS hC hT q hp hl hf hu b1 b2 b3 b4 b5 n1 n2 n3
 go_wp2
 exact bodyPost_ret (by simp[results,Tryz.results171,go_sem,q0,q1,q2,q3,q4,q5]) rfl fP.out
end Go.Proofs.YtmnfndpbblpjiabGreatDoor

/- The document's plane: the centre of three points. -/
import Derived.Test.YtmnfndpbblpjiabGreatDoorZx34
import Derived.Test.YtmnfndpbblpjiabGreatDoorZx36
import Derived.Test.YtmnfndpbblpjiabGreatDoorZx37
set_option maxHeartbeats 3200000
set_option maxRecDepth 100000
namespace Go.Proofs.YtmnfndpbblpjiabGreatDoor
open Go.RowKit Pu
theorem SB (w:World) (k:Nat) (v0 v1 v2 v3 v4 v5 v6 v7 v8 v9:Value):Go.Proofs.YtmnfndpbblpjiabGreatDoor.sets w k 0 [v0,v1,v2,v3,v4,v5,v6,v7,v8,v9]=((((((((((w.setCell ⟨k,0,none⟩ v0).setCell ⟨k,1,none⟩ v1).setCell ⟨k,2,none⟩ v2).setCell ⟨k,3,none⟩ v3).setCell ⟨k,4,none⟩ v4).setCell ⟨k,5,none⟩ v5).setCell ⟨k,6,none⟩ v6).setCell ⟨k,7,none⟩ v7).setCell ⟨k,8,none⟩ v8).setCell ⟨k,9,none⟩ v9):=rfl
theorem WH {w:World} {k:Nat} {t:TypeId} {x0 x1 x2 x3 x4 x5 x6 x7 x8 x9:Value} (h:Bk w k #[x0,x1,x2,x3,x4,x5,x6,x7,x8,x9] t) (v0 v1 v2 v3 v4 v5 v6 v7 v8 v9:Value):Bk (Go.Proofs.YtmnfndpbblpjiabGreatDoor.sets w k 0 [v0,v1,v2,v3,v4,v5,v6,v7,v8,v9]) k #[v0,v1,v2,v3,v4,v5,v6,v7,v8,v9] t:=by
 have e:=((((((((((h.set 0 v0).set 1 v1).set 2 v2).set 3 v3).set 4 v4).set 5 v5).set 6 v6).set 7 v7).set 8 v8).set 9 v9)
 simp only[List.setIfInBounds_toArray,List.set_cons_zero,List.set_cons_succ]at e
 exact e
theorem Fv {w:World} {p q r:PV} {t s x:T3} {a b c:Nat} (hp:PI w p t a) (hq:PI w q s b) (hr:PI w r x c) (h:5*a+3*b+2*c<=900000000):Calls Tryz.prog 172 #[p.v,q.v,r.v] w (IW w (nH t s x) (jU t s x) (5*a+3*b+2*c)):=by
 obtain⟨hm0,b1,b2,b3,b4⟩:=Uk w p.r q.r r.r #[.bool false,.slice none 0 0,.bool false,.slice none 0 0,.bool false,.slice none 0 0] 165 165 165 165
 have lp:=hp.x.lo
 have lq:=hq.x.lo
 have lr:=hr.x.lo
 replace hp:=hp.k hm0
 replace hq:=hq.k hm0
 replace hr:=hr.k hm0
 go_in
 go_wp2_with fail
 generalize ((((w.alloc (.cells p.r 165)).alloc (.cells q.r 165)).alloc (.cells r.r 165)).alloc (.cells #[.bool false,.slice none 0 0,.bool false,.slice none 0 0,.bool false,.slice none 0 0] 165))=W at *
 have HB:Hid (jU t s x=(!(cB t s || cB t x) && !jf (gJ t s) (gJ t x))):=rfl
 have HV:Hid (nH t s x=if jU t s x then jE (jW (gJ t s) (gJ t x)) else t0):=rfl
 generalize nH t s x=V at *;generalize jU t s x=O at *
 refine (mU hp hq (by omega)).mono ?_
 rintro e w1 ⟨hm,rfl⟩
 replace hm0:=hm0.trans hm;replace hp:=hp.k hm;replace hq:=hq.k hm;replace hr:=hr.k hm;replace b1:=b1.k hm;replace b2:=b2.k hm;replace b3:=b3.k hm;replace b4:=b4.k hm
 clear hm
 generalize cB t s=B1 at *;cases B1 with
 | true =>
  obtain⟨r0,r1,r2,r3,r4,r5⟩:=vP b4
  have f0:=b4.fz 0
  have f1:=b4.fz 1
  have f2:=b4.fz 2
  have f3:=b4.fz 3
  have f4:=b4.fz 4
  have f5:=b4.fz 5
  go_wp2_with fail
  clear r0 f0 r1 f1 r2 f2 r3 f3 r4 f4 r5 f5
  have q:=((((((b4.set 0 (.bool false)).set 1 (.slice none 0 0)).set 2 (.bool false)).set 3 (.slice none 0 0)).set 4 (.bool false)).set 5 (.slice none 0 0))
  have q0:=q.c 0
  have q1:=q.c 1
  have q2:=q.c 2
  have q3:=q.c 3
  have q4:=q.c 4
  have q5:=q.c 5
  have fT:Mod (fun _=>False) w ((((((w1.setCell ⟨w.heap.size+1+1+1,0,none⟩ (.bool false)).setCell ⟨w.heap.size+1+1+1,1,none⟩ (.slice none 0 0)).setCell ⟨w.heap.size+1+1+1,2,none⟩ (.bool false)).setCell ⟨w.heap.size+1+1+1,3,none⟩ (.slice none 0 0)).setCell ⟨w.heap.size+1+1+1,4,none⟩ (.bool false)).setCell ⟨w.heap.size+1+1+1,5,none⟩ (.slice none 0 0)):=((hm0.mono (q:=fun i=>i=w.heap.size+1+1+1) (fun _ _ f=>f.elim)).trans (((((((Mod.refl (fun i=>i=w.heap.size+1+1+1) w1).setCell ⟨w.heap.size+1+1+1,0,none⟩ (.bool false) (fun _=>rfl)).setCell ⟨w.heap.size+1+1+1,1,none⟩ (.slice none 0 0) (fun _=>rfl)).setCell ⟨w.heap.size+1+1+1,2,none⟩ (.bool false) (fun _=>rfl)).setCell ⟨w.heap.size+1+1+1,3,none⟩ (.slice none 0 0) (fun _=>rfl)).setCell ⟨w.heap.size+1+1+1,4,none⟩ (.bool false) (fun _=>rfl)).setCell ⟨w.heap.size+1+1+1,5,none⟩ (.slice none 0 0) (fun _=>rfl))).mono (fun i hi h=>by omega)
  have fP:Hid _:=(show IW w V O (5*a+3*b+2*c) (.returned (.tuple #[.agg #[.bool false,.slice none 0 0,.bool false,.slice none 0 0,.bool false,.slice none 0 0],.bool false])) ((((((w1.setCell ⟨w.heap.size+1+1+1,0,none⟩ (.bool false)).setCell ⟨w.heap.size+1+1+1,1,none⟩ (.slice none 0 0)).setCell ⟨w.heap.size+1+1+1,2,none⟩ (.bool false)).setCell ⟨w.heap.size+1+1+1,3,none⟩ (.slice none 0 0)).setCell ⟨w.heap.size+1+1+1,4,none⟩ (.bool false)).setCell ⟨w.heap.size+1+1+1,5,none⟩ (.slice none 0 0)) from by rw[HV.out,HB.out];exact⟨fT,⟨⟨false,none,0,0⟩,⟨false,none,0,0⟩,⟨false,none,0,0⟩⟩,rfl,PI.zero _ (by omega)⟩)
  exact bodyPost_ret (v:=.tuple #[.agg #[.bool false,.slice none 0 0,.bool false,.slice none 0 0,.bool false,.slice none 0 0],.bool false]) (by simp[results,Tryz.results172,go_sem,q0,q1,q2,q3,q4,q5]) rfl fP.out
 | false =>
 obtain⟨y0,y1,y2,y3,y4,y5⟩:=sP b1
 obtain⟨y6,y7,y8,y9,gG,gH⟩:=sP b2
 obtain⟨iP,y13,iQ,iR,tF,tH⟩:=sP b3
 go_wp2_with fail
 refine (mU hp hr (by omega)).mono ?_
 rintro e w2 ⟨hm,rfl⟩
 replace hm0:=hm0.trans hm;replace hp:=hp.k hm;replace hq:=hq.k hm;replace hr:=hr.k hm;replace b1:=b1.k hm;replace b2:=b2.k hm;replace b3:=b3.k hm;replace b4:=b4.k hm
 clear hm y0 y1 y2 y3 y4 y5 y6 y7 y8 y9 gG gH iP y13 iQ iR tF tH
 generalize cB t x=B2 at *;cases B2 with
 | true =>
  obtain⟨r0,r1,r2,r3,r4,r5⟩:=vP b4
  have f0:=b4.fz 0
  have f1:=b4.fz 1
  have f2:=b4.fz 2
  have f3:=b4.fz 3
  have f4:=b4.fz 4
  have f5:=b4.fz 5
  go_wp2_with fail
  clear r0 f0 r1 f1 r2 f2 r3 f3 r4 f4 r5 f5
  have q:=((((((b4.set 0 (.bool false)).set 1 (.slice none 0 0)).set 2 (.bool false)).set 3 (.slice none 0 0)).set 4 (.bool false)).set 5 (.slice none 0 0))
  have q0:=q.c 0
  have q1:=q.c 1
  have q2:=q.c 2
  have q3:=q.c 3
  have q4:=q.c 4
  have q5:=q.c 5
  have fT:Mod (fun _=>False) w ((((((w2.setCell ⟨w.heap.size+1+1+1,0,none⟩ (.bool false)).setCell ⟨w.heap.size+1+1+1,1,none⟩ (.slice none 0 0)).setCell ⟨w.heap.size+1+1+1,2,none⟩ (.bool false)).setCell ⟨w.heap.size+1+1+1,3,none⟩ (.slice none 0 0)).setCell ⟨w.heap.size+1+1+1,4,none⟩ (.bool false)).setCell ⟨w.heap.size+1+1+1,5,none⟩ (.slice none 0 0)):=((hm0.mono (q:=fun i=>i=w.heap.size+1+1+1) (fun _ _ f=>f.elim)).trans (((((((Mod.refl (fun i=>i=w.heap.size+1+1+1) w2).setCell ⟨w.heap.size+1+1+1,0,none⟩ (.bool false) (fun _=>rfl)).setCell ⟨w.heap.size+1+1+1,1,none⟩ (.slice none 0 0) (fun _=>rfl)).setCell ⟨w.heap.size+1+1+1,2,none⟩ (.bool false) (fun _=>rfl)).setCell ⟨w.heap.size+1+1+1,3,none⟩ (.slice none 0 0) (fun _=>rfl)).setCell ⟨w.heap.size+1+1+1,4,none⟩ (.bool false) (fun _=>rfl)).setCell ⟨w.heap.size+1+1+1,5,none⟩ (.slice none 0 0) (fun _=>rfl))).mono (fun i hi h=>by omega)
  have fP:Hid _:=(show IW w V O (5*a+3*b+2*c) (.returned (.tuple #[.agg #[.bool false,.slice none 0 0,.bool false,.slice none 0 0,.bool false,.slice none 0 0],.bool false])) ((((((w2.setCell ⟨w.heap.size+1+1+1,0,none⟩ (.bool false)).setCell ⟨w.heap.size+1+1+1,1,none⟩ (.slice none 0 0)).setCell ⟨w.heap.size+1+1+1,2,none⟩ (.bool false)).setCell ⟨w.heap.size+1+1+1,3,none⟩ (.slice none 0 0)).setCell ⟨w.heap.size+1+1+1,4,none⟩ (.bool false)).setCell ⟨w.heap.size+1+1+1,5,none⟩ (.slice none 0 0)) from by rw[HV.out,HB.out];exact⟨fT,⟨⟨false,none,0,0⟩,⟨false,none,0,0⟩,⟨false,none,0,0⟩⟩,rfl,PI.zero _ (by omega)⟩)
  exact bodyPost_ret (v:=.tuple #[.agg #[.bool false,.slice none 0 0,.bool false,.slice none 0 0,.bool false,.slice none 0 0],.bool false]) (by simp[results,Tryz.results172,go_sem,q0,q1,q2,q3,q4,q5]) rfl fP.out
 | false =>
 go_upto_region 3 with fail
 go_cut [8] from 14 (fun sv wc=>∃ (kk:Nat) (zz:VV),sv=.pointer (some ⟨kk,0,none⟩)/\Bk wc kk zz.r 206/\VI wc zz (iU t s) (a+b - 4)/\PI wc p t a/\PI wc q s b/\PI wc r x c/\Bk wc (w.heap.size) p.r 165/\Bk wc (w.heap.size+1) q.r 165/\Bk wc (w.heap.size+1+1) r.r 165/\Bk wc (w.heap.size+1+1+1) #[.bool false,.slice none 0 0,.bool false,.slice none 0 0,.bool false,.slice none 0 0] 165/\Mod (fun _=>False) w wc/\w.heap.size≠kk/\w.heap.size+1≠kk/\w.heap.size+1+1≠kk/\w.heap.size+1+1+1≠kk)
 case first =>
  obtain⟨y0,y1,y2,y3,y4,y5⟩:=sP b1
  obtain⟨y6,y7,y8,y9,gG,gH⟩:=sP b2
  go_wp2_with (first
    | (go_at_call 158;(fail_if_success have _e:=n1);refine (kr hp hq (by omega)).mono ?_;rintro e w1 ⟨hm,z1,rfl,n1⟩;replace hm0:=hm0.trans hm;replace hp:=hp.k hm;replace hq:=hq.k hm;replace hr:=hr.k hm;replace b1:=b1.k hm;replace b2:=b2.k hm;replace b3:=b3.k hm;replace b4:=b4.k hm;clear hm))
  clear y0 y1 y2 y3 y4 y5 y6 y7 y8 y9 gG gH
  go_meet;exact⟨_,z1,rfl,aQ _ _ _,n1.k ((Mod.refl _ _).alloc _),hp.k ((Mod.refl _ _).alloc _),hq.k ((Mod.refl _ _).alloc _),hr.k ((Mod.refl _ _).alloc _),b1.k ((Mod.refl _ _).alloc _),b2.k ((Mod.refl _ _).alloc _),b3.k ((Mod.refl _ _).alloc _),b4.k ((Mod.refl _ _).alloc _),hm0.trans ((Mod.refl _ _).alloc _),b1.ne,b2.ne,b3.ne,b4.ne⟩
 case rest =>
 clear hm0 hp hq hr b1 b2 b3 b4
 obtain⟨k5,u,rfl,b5,hu,hp,hq,hr,b1,b2,b3,b4,hm0,Px,Py,nI,Pz⟩:=hcut
 have lu:=hu.x.lo
 go_upto_region 4 with fail
 go_cut [9] from 14 (fun sv wc=>∃ (kk:Nat) (zz:VV),sv=.pointer (some ⟨kk,0,none⟩)/\Bk wc kk zz.r 206/\VI wc zz (iU t x) (a+c - 4)/\PI wc p t a/\PI wc q s b/\PI wc r x c/\VI wc u (iU t s) (a+b - 4)/\Bk wc (w.heap.size) p.r 165/\Bk wc (w.heap.size+1) q.r 165/\Bk wc (w.heap.size+1+1) r.r 165/\Bk wc (w.heap.size+1+1+1) #[.bool false,.slice none 0 0,.bool false,.slice none 0 0,.bool false,.slice none 0 0] 165/\Bk wc (k5) u.r 206/\Mod (fun _=>False) w wc/\w.heap.size≠kk/\w.heap.size+1≠kk/\w.heap.size+1+1≠kk/\w.heap.size+1+1+1≠kk/\k5≠kk)
 case first =>
  obtain⟨y0,y1,y2,y3,y4,y5⟩:=sP b1
  obtain⟨y6,y7,y8,y9,gG,gH⟩:=sP b3
  go_wp2_with (first
    | (go_at_call 158;(fail_if_success have _e:=n1);refine (kr hp hr (by omega)).mono ?_;rintro e w1 ⟨hm,z1,rfl,n1⟩;replace hm0:=hm0.trans hm;replace hp:=hp.k hm;replace hq:=hq.k hm;replace hr:=hr.k hm;replace hu:=hu.k hm;replace b1:=b1.k hm;replace b2:=b2.k hm;replace b3:=b3.k hm;replace b4:=b4.k hm;replace b5:=b5.k hm;clear hm))
  clear y0 y1 y2 y3 y4 y5 y6 y7 y8 y9 gG gH
  go_meet;exact⟨_,z1,rfl,aQ _ _ _,n1.k ((Mod.refl _ _).alloc _),hp.k ((Mod.refl _ _).alloc _),hq.k ((Mod.refl _ _).alloc _),hr.k ((Mod.refl _ _).alloc _),hu.k ((Mod.refl _ _).alloc _),b1.k ((Mod.refl _ _).alloc _),b2.k ((Mod.refl _ _).alloc _),b3.k ((Mod.refl _ _).alloc _),b4.k ((Mod.refl _ _).alloc _),b5.k ((Mod.refl _ _).alloc _),hm0.trans ((Mod.refl _ _).alloc _),b1.ne,b2.ne,b3.ne,b4.ne,b5.ne⟩
 case rest =>
 clear hm0 hp hq hr hu b1 b2 b3 b4 b5
 obtain⟨k6,v,rfl,b6,hv,hp,hq,hr,hu,b1,b2,b3,b4,b5,hm0,XT,XU,DU,XV,DV⟩:=hcut
 have lv:=hv.x.lo
 go_wp2_with fail
 go_cut [10] from 14 (fun sv wc=>∃ (kk:Nat) (zz:LV),sv=.pointer (some ⟨kk,0,none⟩)/\Bk wc kk zz.r 167/\LI wc zz (gJ t s) (a+b) (a+b - 4)/\PI wc p t a/\PI wc q s b/\PI wc r x c/\VI wc u (iU t s) (a+b - 4)/\VI wc v (iU t x) (a+c - 4)/\Bk wc (w.heap.size) p.r 165/\Bk wc (w.heap.size+1) q.r 165/\Bk wc (w.heap.size+1+1) r.r 165/\Bk wc (w.heap.size+1+1+1) #[.bool false,.slice none 0 0,.bool false,.slice none 0 0,.bool false,.slice none 0 0] 165/\Bk wc (k5) u.r 206/\Bk wc (k6) v.r 206/\Mod (fun _=>False) w wc/\w.heap.size≠kk/\w.heap.size+1≠kk/\w.heap.size+1+1≠kk/\w.heap.size+1+1+1≠kk/\k5≠kk/\k6≠kk)
 case first =>
  have hT:=zI (sP b1) (zI (sP b2) (sV b5))
  have hdw:Mod (fun _=>False) wc wc.drew:=(Mod.refl _ wc).drew
  replace hm0:=hm0.trans hdw
  replace hp:=hp.k hdw;replace hq:=hq.k hdw;replace hr:=hr.k hdw;replace hu:=hu.k hdw;replace hv:=hv.k hdw;replace b1:=b1.k hdw;replace b2:=b2.k hdw;replace b3:=b3.k hdw;replace b4:=b4.k hdw;replace b5:=b5.k hdw;replace b6:=b6.k hdw
  clear hdw
  have hS:=zI (sP b1) (zI (sP b2) (sV b5));have hA:=zI (sP (b1.uy oL)) (zI (sP (b2.uy oL)) (sV (b5.uy oL)))
  go_region_held3 (fun w'=>BP (w.heap.size) p w'/\BP (w.heap.size+1) q w'/\BV (k5) u w')
   (first | with_reducible exact hS | with_reducible exact hC | with_reducible exact hA | with_reducible exact hE | with_reducible exact hT)
   (first
    | (go_at_call 168;(fail_if_success have _e:=n2);have _d:=n1;refine (xY (by first | exact hu.y | exact (hu.y).k ((Mod.refl _ _).alloc _)) (by omega)).mono ?_;rintro e w2 ⟨hm,z2,rfl,n2⟩;(try (replace bL:=bL.k hm));(try (have bL:=(aQ w1 #[.bool false,.slice none 0 0,.bool false,.slice none 0 0,.bool false,.slice none 0 0,.bool false,.slice none 0 0,.bool false,.slice none 0 0] 167).k hm;have hL:w.heap.size<=w1.heap.size:=hm0.size;have e1:w.heap.size≠w1.heap.size:=b1.ne;have e2:w.heap.size+1≠w1.heap.size:=b2.ne;have e3:w.heap.size+1+1≠w1.heap.size:=b3.ne;have e4:w.heap.size+1+1+1≠w1.heap.size:=b4.ne;have e5:k5≠w1.heap.size:=b5.ne;have e6:k6≠w1.heap.size:=b6.ne));replace hm:Mod (fun _=>False) w1 w2:=(by first | exact hm | exact ((Mod.refl _ _).alloc _).trans hm);replace hm0:=hm0.trans hm;replace hp:=hp.k hm;replace hq:=hq.k hm;replace hr:=hr.k hm;replace hu:=hu.k hm;replace hv:=hv.k hm;replace b1:=b1.k hm;replace b2:=b2.k hm;replace b3:=b3.k hm;replace b4:=b4.k hm;replace b5:=b5.k hm;replace b6:=b6.k hm;replace n1:=n1.k hm;clear hm hS;have hS:=zI (sP b1) (zI (sP b2) (sV b5));have hA:=zI (sP (b1.al oL)) (zI (sP (b2.al oL)) (sV (b5.al oL)));have hE:=zI (sP (b1.al (.cells #[.bool z1.x.b,.slice z1.x.a z1.x.n z1.x.c,.bool z1.y.b,.slice z1.y.a z1.y.n z1.y.c,.bool z1.w.b,.slice z1.w.a z1.w.n z1.w.c,.bool z2.b,.slice z2.a z2.n z2.c,.bool u.x.b,.slice u.x.a u.x.n u.x.c] 167))) (zI (sP (b2.al (.cells #[.bool z1.x.b,.slice z1.x.a z1.x.n z1.x.c,.bool z1.y.b,.slice z1.y.a z1.y.n z1.y.c,.bool z1.w.b,.slice z1.w.a z1.w.n z1.w.c,.bool z2.b,.slice z2.a z2.n z2.c,.bool u.x.b,.slice u.x.a u.x.n u.x.c] 167))) (sV (b5.al (.cells #[.bool z1.x.b,.slice z1.x.a z1.x.n z1.x.c,.bool z1.y.b,.slice z1.y.a z1.y.n z1.y.c,.bool z1.w.b,.slice z1.w.a z1.w.n z1.w.c,.bool z2.b,.slice z2.a z2.n z2.c,.bool u.x.b,.slice u.x.a u.x.n u.x.c] 167))));(try (have r0:=bL.c 0;have f0:=bL.fz 0;have r1:=bL.c 1;have f1:=bL.fz 1;have r2:=bL.c 2;have f2:=bL.fz 2;have r3:=bL.c 3;have f3:=bL.fz 3;have r4:=bL.c 4;have f4:=bL.fz 4;have r5:=bL.c 5;have f5:=bL.fz 5;have r6:=bL.c 6;have f6:=bL.fz 6;have r7:=bL.c 7;have f7:=bL.fz 7;have r8:=bL.c 8;have f8:=bL.fz 8;have r9:=bL.c 9;have f9:=bL.fz 9;have hC:=zI (sP ((((((((((b1.o e1 0 (.bool z1.x.b)).o e1 1 (.slice z1.x.a z1.x.n z1.x.c)).o e1 2 (.bool z1.y.b)).o e1 3 (.slice z1.y.a z1.y.n z1.y.c)).o e1 4 (.bool z1.w.b)).o e1 5 (.slice z1.w.a z1.w.n z1.w.c)).o e1 6 (.bool z2.b)).o e1 7 (.slice z2.a z2.n z2.c)).o e1 8 (.bool u.x.b)).o e1 9 (.slice u.x.a u.x.n u.x.c))) (zI (sP ((((((((((b2.o e2 0 (.bool z1.x.b)).o e2 1 (.slice z1.x.a z1.x.n z1.x.c)).o e2 2 (.bool z1.y.b)).o e2 3 (.slice z1.y.a z1.y.n z1.y.c)).o e2 4 (.bool z1.w.b)).o e2 5 (.slice z1.w.a z1.w.n z1.w.c)).o e2 6 (.bool z2.b)).o e2 7 (.slice z2.a z2.n z2.c)).o e2 8 (.bool u.x.b)).o e2 9 (.slice u.x.a u.x.n u.x.c))) (sV ((((((((((b5.o e5 0 (.bool z1.x.b)).o e5 1 (.slice z1.x.a z1.x.n z1.x.c)).o e5 2 (.bool z1.y.b)).o e5 3 (.slice z1.y.a z1.y.n z1.y.c)).o e5 4 (.bool z1.w.b)).o e5 5 (.slice z1.w.a z1.w.n z1.w.c)).o e5 6 (.bool z2.b)).o e5 7 (.slice z2.a z2.n z2.c)).o e5 8 (.bool u.x.b)).o e5 9 (.slice u.x.a u.x.n u.x.c)))))))
    | (go_at_call 167;(fail_if_success have _e:=n1);refine (xR (by first | exact hp | exact (hp).k (bC _ _)) (by first | exact hq | exact (hq).k (bC _ _)) (by omega)).mono ?_;rintro e w1 ⟨hm,z1,rfl,n1⟩;(try (replace bL:=bL.k hm));(try (have bL:=(jL wc #[.bool false,.slice none 0 0,.bool false,.slice none 0 0,.bool false,.slice none 0 0,.bool false,.slice none 0 0,.bool false,.slice none 0 0] 167).k hm;have hL:w.heap.size<=wc.heap.size:=hm0.size;have e1:w.heap.size≠wc.heap.size:=b1.ne;have e2:w.heap.size+1≠wc.heap.size:=b2.ne;have e3:w.heap.size+1+1≠wc.heap.size:=b3.ne;have e4:w.heap.size+1+1+1≠wc.heap.size:=b4.ne;have e5:k5≠wc.heap.size:=b5.ne;have e6:k6≠wc.heap.size:=b6.ne));replace hm:Mod (fun _=>False) wc.drew w1:=(by first | exact hm | exact (bC _ _).trans hm);replace hm0:=hm0.trans hm;replace hp:=hp.k hm;replace hq:=hq.k hm;replace hr:=hr.k hm;replace hu:=hu.k hm;replace hv:=hv.k hm;replace b1:=b1.k hm;replace b2:=b2.k hm;replace b3:=b3.k hm;replace b4:=b4.k hm;replace b5:=b5.k hm;replace b6:=b6.k hm;clear hm hS;have hS:=zI (sP b1) (zI (sP b2) (sV b5));have hA:=zI (sP (b1.al oL)) (zI (sP (b2.al oL)) (sV (b5.al oL)))))
  all_goals (go_wp2_with fail;go_meet;first | (have _d:=bL;rw[<- SB];exact⟨_,⟨z1,z2,u.x⟩,rfl,WH bL (.bool z1.x.b) (.slice z1.x.a z1.x.n z1.x.c) (.bool z1.y.b) (.slice z1.y.a z1.y.n z1.y.c) (.bool z1.w.b) (.slice z1.w.a z1.w.n z1.w.c) (.bool z2.b) (.slice z2.a z2.n z2.c) (.bool u.x.b) (.slice u.x.a u.x.n u.x.c),(show LI w2 ⟨z1,z2,u.x⟩ (gJ t s) (a+b) (a+b - 4) from ⟨n1,n2,hu.x⟩).aL bL (by decide) 0 [.bool z1.x.b,.slice z1.x.a z1.x.n z1.x.c,.bool z1.y.b,.slice z1.y.a z1.y.n z1.y.c,.bool z1.w.b,.slice z1.w.a z1.w.n z1.w.c,.bool z2.b,.slice z2.a z2.n z2.c,.bool u.x.b,.slice u.x.a u.x.n u.x.c],hp.aL bL (by decide) 0 [.bool z1.x.b,.slice z1.x.a z1.x.n z1.x.c,.bool z1.y.b,.slice z1.y.a z1.y.n z1.y.c,.bool z1.w.b,.slice z1.w.a z1.w.n z1.w.c,.bool z2.b,.slice z2.a z2.n z2.c,.bool u.x.b,.slice u.x.a u.x.n u.x.c],hq.aL bL (by decide) 0 [.bool z1.x.b,.slice z1.x.a z1.x.n z1.x.c,.bool z1.y.b,.slice z1.y.a z1.y.n z1.y.c,.bool z1.w.b,.slice z1.w.a z1.w.n z1.w.c,.bool z2.b,.slice z2.a z2.n z2.c,.bool u.x.b,.slice u.x.a u.x.n u.x.c],hr.aL bL (by decide) 0 [.bool z1.x.b,.slice z1.x.a z1.x.n z1.x.c,.bool z1.y.b,.slice z1.y.a z1.y.n z1.y.c,.bool z1.w.b,.slice z1.w.a z1.w.n z1.w.c,.bool z2.b,.slice z2.a z2.n z2.c,.bool u.x.b,.slice u.x.a u.x.n u.x.c],hu.aL bL (by decide) 0 [.bool z1.x.b,.slice z1.x.a z1.x.n z1.x.c,.bool z1.y.b,.slice z1.y.a z1.y.n z1.y.c,.bool z1.w.b,.slice z1.w.a z1.w.n z1.w.c,.bool z2.b,.slice z2.a z2.n z2.c,.bool u.x.b,.slice u.x.a u.x.n u.x.c],hv.aL bL (by decide) 0 [.bool z1.x.b,.slice z1.x.a z1.x.n z1.x.c,.bool z1.y.b,.slice z1.y.a z1.y.n z1.y.c,.bool z1.w.b,.slice z1.w.a z1.w.n z1.w.c,.bool z2.b,.slice z2.a z2.n z2.c,.bool u.x.b,.slice u.x.a u.x.n u.x.c],b1.os e1 0 [.bool z1.x.b,.slice z1.x.a z1.x.n z1.x.c,.bool z1.y.b,.slice z1.y.a z1.y.n z1.y.c,.bool z1.w.b,.slice z1.w.a z1.w.n z1.w.c,.bool z2.b,.slice z2.a z2.n z2.c,.bool u.x.b,.slice u.x.a u.x.n u.x.c],b2.os e2 0 [.bool z1.x.b,.slice z1.x.a z1.x.n z1.x.c,.bool z1.y.b,.slice z1.y.a z1.y.n z1.y.c,.bool z1.w.b,.slice z1.w.a z1.w.n z1.w.c,.bool z2.b,.slice z2.a z2.n z2.c,.bool u.x.b,.slice u.x.a u.x.n u.x.c],b3.os e3 0 [.bool z1.x.b,.slice z1.x.a z1.x.n z1.x.c,.bool z1.y.b,.slice z1.y.a z1.y.n z1.y.c,.bool z1.w.b,.slice z1.w.a z1.w.n z1.w.c,.bool z2.b,.slice z2.a z2.n z2.c,.bool u.x.b,.slice u.x.a u.x.n u.x.c],b4.os e4 0 [.bool z1.x.b,.slice z1.x.a z1.x.n z1.x.c,.bool z1.y.b,.slice z1.y.a z1.y.n z1.y.c,.bool z1.w.b,.slice z1.w.a z1.w.n z1.w.c,.bool z2.b,.slice z2.a z2.n z2.c,.bool u.x.b,.slice u.x.a u.x.n u.x.c],b5.os e5 0 [.bool z1.x.b,.slice z1.x.a z1.x.n z1.x.c,.bool z1.y.b,.slice z1.y.a z1.y.n z1.y.c,.bool z1.w.b,.slice z1.w.a z1.w.n z1.w.c,.bool z2.b,.slice z2.a z2.n z2.c,.bool u.x.b,.slice u.x.a u.x.n u.x.c],b6.os e6 0 [.bool z1.x.b,.slice z1.x.a z1.x.n z1.x.c,.bool z1.y.b,.slice z1.y.a z1.y.n z1.y.c,.bool z1.w.b,.slice z1.w.a z1.w.n z1.w.c,.bool z2.b,.slice z2.a z2.n z2.c,.bool u.x.b,.slice u.x.a u.x.n u.x.c],(Mod.sets (i:=0) (vs:=[.bool z1.x.b,.slice z1.x.a z1.x.n z1.x.c,.bool z1.y.b,.slice z1.y.a z1.y.n z1.y.c,.bool z1.w.b,.slice z1.w.a z1.w.n z1.w.c,.bool z2.b,.slice z2.a z2.n z2.c,.bool u.x.b,.slice u.x.a u.x.n u.x.c]) (hm0.mono (q:=fun i=>w.heap.size<=i) (fun _ _ f=>f.elim)) (fun _=>hL)).mono (fun i hi h=>by omega),e1,e2,e3,e4,e5,e6⟩) | exact⟨_,⟨z1,z2,u.x⟩,rfl,aQ _ _ _,(show LI w2 ⟨z1,z2,u.x⟩ (gJ t s) (a+b) (a+b - 4) from ⟨n1,n2,hu.x⟩).k ((Mod.refl _ _).alloc _),hp.k ((Mod.refl _ _).alloc _),hq.k ((Mod.refl _ _).alloc _),hr.k ((Mod.refl _ _).alloc _),hu.k ((Mod.refl _ _).alloc _),hv.k ((Mod.refl _ _).alloc _),b1.k ((Mod.refl _ _).alloc _),b2.k ((Mod.refl _ _).alloc _),b3.k ((Mod.refl _ _).alloc _),b4.k ((Mod.refl _ _).alloc _),b5.k ((Mod.refl _ _).alloc _),b6.k ((Mod.refl _ _).alloc _),hm0.trans ((Mod.refl _ _).alloc _),b1.ne,b2.ne,b3.ne,b4.ne,b5.ne,b6.ne⟩)
 case rest =>
 clear hm0 hp hq hr hu hv b1 b2 b3 b4 b5 b6
 obtain⟨k7,l,rfl,b7,hl,hp,hq,hr,hu,hv,b1,b2,b3,b4,b5,b6,hm0,XW,XY,DW,XZ,DX,X0⟩:=hcut
 have ll:=hl.p.x.lo
 go_wp2_with fail
 go_cut [11] from 14 (fun sv wc=>∃ (kk:Nat) (zz:LV),sv=.pointer (some ⟨kk,0,none⟩)/\Bk wc kk zz.r 167/\LI wc zz (gJ t x) (a+c) (a+c - 4)/\PI wc p t a/\PI wc q s b/\PI wc r x c/\VI wc u (iU t s) (a+b - 4)/\VI wc v (iU t x) (a+c - 4)/\LI wc l (gJ t s) (a+b) (a+b - 4)/\Bk wc (w.heap.size) p.r 165/\Bk wc (w.heap.size+1) q.r 165/\Bk wc (w.heap.size+1+1) r.r 165/\Bk wc (w.heap.size+1+1+1) #[.bool false,.slice none 0 0,.bool false,.slice none 0 0,.bool false,.slice none 0 0] 165/\Bk wc (k5) u.r 206/\Bk wc (k6) v.r 206/\Bk wc (k7) l.r 167/\Mod (fun _=>False) w wc/\w.heap.size≠kk/\w.heap.size+1≠kk/\w.heap.size+1+1≠kk/\w.heap.size+1+1+1≠kk/\k5≠kk/\k6≠kk/\k7≠kk)
 case first =>
  have hT:=zI (sP b1) (zI (sP b3) (sV b6))
  have hdw:Mod (fun _=>False) wc wc.drew:=(Mod.refl _ wc).drew
  replace hm0:=hm0.trans hdw
  replace hp:=hp.k hdw;replace hq:=hq.k hdw;replace hr:=hr.k hdw;replace hu:=hu.k hdw;replace hv:=hv.k hdw;replace hl:=hl.k hdw;replace b1:=b1.k hdw;replace b2:=b2.k hdw;replace b3:=b3.k hdw;replace b4:=b4.k hdw;replace b5:=b5.k hdw;replace b6:=b6.k hdw;replace b7:=b7.k hdw
  clear hdw
  have hS:=zI (sP b1) (zI (sP b3) (sV b6));have hA:=zI (sP (b1.uy oL)) (zI (sP (b3.uy oL)) (sV (b6.uy oL)))
  go_region_held3 (fun w'=>BP (w.heap.size) p w'/\BP (w.heap.size+1+1) r w'/\BV (k6) v w')
   (first | with_reducible exact hS | with_reducible exact hC | with_reducible exact hA | with_reducible exact hE | with_reducible exact hT)
   (first
    | (go_at_call 168;(fail_if_success have _e:=n2);have _d:=n1;refine (xY (by first | exact hv.y | exact (hv.y).k ((Mod.refl _ _).alloc _)) (by omega)).mono ?_;rintro e w2 ⟨hm,z2,rfl,n2⟩;(try (replace bL:=bL.k hm));(try (have bL:=(aQ w1 #[.bool false,.slice none 0 0,.bool false,.slice none 0 0,.bool false,.slice none 0 0,.bool false,.slice none 0 0,.bool false,.slice none 0 0] 167).k hm;have hL:w.heap.size<=w1.heap.size:=hm0.size;have e1:w.heap.size≠w1.heap.size:=b1.ne;have e2:w.heap.size+1≠w1.heap.size:=b2.ne;have e3:w.heap.size+1+1≠w1.heap.size:=b3.ne;have e4:w.heap.size+1+1+1≠w1.heap.size:=b4.ne;have e5:k5≠w1.heap.size:=b5.ne;have e6:k6≠w1.heap.size:=b6.ne;have e7:k7≠w1.heap.size:=b7.ne));replace hm:Mod (fun _=>False) w1 w2:=(by first | exact hm | exact ((Mod.refl _ _).alloc _).trans hm);replace hm0:=hm0.trans hm;replace hp:=hp.k hm;replace hq:=hq.k hm;replace hr:=hr.k hm;replace hu:=hu.k hm;replace hv:=hv.k hm;replace hl:=hl.k hm;replace b1:=b1.k hm;replace b2:=b2.k hm;replace b3:=b3.k hm;replace b4:=b4.k hm;replace b5:=b5.k hm;replace b6:=b6.k hm;replace b7:=b7.k hm;replace n1:=n1.k hm;clear hm hS;have hS:=zI (sP b1) (zI (sP b3) (sV b6));have hA:=zI (sP (b1.al oL)) (zI (sP (b3.al oL)) (sV (b6.al oL)));have hE:=zI (sP (b1.al (.cells #[.bool z1.x.b,.slice z1.x.a z1.x.n z1.x.c,.bool z1.y.b,.slice z1.y.a z1.y.n z1.y.c,.bool z1.w.b,.slice z1.w.a z1.w.n z1.w.c,.bool z2.b,.slice z2.a z2.n z2.c,.bool v.x.b,.slice v.x.a v.x.n v.x.c] 167))) (zI (sP (b3.al (.cells #[.bool z1.x.b,.slice z1.x.a z1.x.n z1.x.c,.bool z1.y.b,.slice z1.y.a z1.y.n z1.y.c,.bool z1.w.b,.slice z1.w.a z1.w.n z1.w.c,.bool z2.b,.slice z2.a z2.n z2.c,.bool v.x.b,.slice v.x.a v.x.n v.x.c] 167))) (sV (b6.al (.cells #[.bool z1.x.b,.slice z1.x.a z1.x.n z1.x.c,.bool z1.y.b,.slice z1.y.a z1.y.n z1.y.c,.bool z1.w.b,.slice z1.w.a z1.w.n z1.w.c,.bool z2.b,.slice z2.a z2.n z2.c,.bool v.x.b,.slice v.x.a v.x.n v.x.c] 167))));(try (have r0:=bL.c 0;have f0:=bL.fz 0;have r1:=bL.c 1;have f1:=bL.fz 1;have r2:=bL.c 2;have f2:=bL.fz 2;have r3:=bL.c 3;have f3:=bL.fz 3;have r4:=bL.c 4;have f4:=bL.fz 4;have r5:=bL.c 5;have f5:=bL.fz 5;have r6:=bL.c 6;have f6:=bL.fz 6;have r7:=bL.c 7;have f7:=bL.fz 7;have r8:=bL.c 8;have f8:=bL.fz 8;have r9:=bL.c 9;have f9:=bL.fz 9;have hC:=zI (sP ((((((((((b1.o e1 0 (.bool z1.x.b)).o e1 1 (.slice z1.x.a z1.x.n z1.x.c)).o e1 2 (.bool z1.y.b)).o e1 3 (.slice z1.y.a z1.y.n z1.y.c)).o e1 4 (.bool z1.w.b)).o e1 5 (.slice z1.w.a z1.w.n z1.w.c)).o e1 6 (.bool z2.b)).o e1 7 (.slice z2.a z2.n z2.c)).o e1 8 (.bool v.x.b)).o e1 9 (.slice v.x.a v.x.n v.x.c))) (zI (sP ((((((((((b3.o e3 0 (.bool z1.x.b)).o e3 1 (.slice z1.x.a z1.x.n z1.x.c)).o e3 2 (.bool z1.y.b)).o e3 3 (.slice z1.y.a z1.y.n z1.y.c)).o e3 4 (.bool z1.w.b)).o e3 5 (.slice z1.w.a z1.w.n z1.w.c)).o e3 6 (.bool z2.b)).o e3 7 (.slice z2.a z2.n z2.c)).o e3 8 (.bool v.x.b)).o e3 9 (.slice v.x.a v.x.n v.x.c))) (sV ((((((((((b6.o e6 0 (.bool z1.x.b)).o e6 1 (.slice z1.x.a z1.x.n z1.x.c)).o e6 2 (.bool z1.y.b)).o e6 3 (.slice z1.y.a z1.y.n z1.y.c)).o e6 4 (.bool z1.w.b)).o e6 5 (.slice z1.w.a z1.w.n z1.w.c)).o e6 6 (.bool z2.b)).o e6 7 (.slice z2.a z2.n z2.c)).o e6 8 (.bool v.x.b)).o e6 9 (.slice v.x.a v.x.n v.x.c)))))))
    | (go_at_call 167;(fail_if_success have _e:=n1);refine (xR (by first | exact hp | exact (hp).k (bC _ _)) (by first | exact hr | exact (hr).k (bC _ _)) (by omega)).mono ?_;rintro e w1 ⟨hm,z1,rfl,n1⟩;(try (replace bL:=bL.k hm));(try (have bL:=(jL wc #[.bool false,.slice none 0 0,.bool false,.slice none 0 0,.bool false,.slice none 0 0,.bool false,.slice none 0 0,.bool false,.slice none 0 0] 167).k hm;have hL:w.heap.size<=wc.heap.size:=hm0.size;have e1:w.heap.size≠wc.heap.size:=b1.ne;have e2:w.heap.size+1≠wc.heap.size:=b2.ne;have e3:w.heap.size+1+1≠wc.heap.size:=b3.ne;have e4:w.heap.size+1+1+1≠wc.heap.size:=b4.ne;have e5:k5≠wc.heap.size:=b5.ne;have e6:k6≠wc.heap.size:=b6.ne;have e7:k7≠wc.heap.size:=b7.ne));replace hm:Mod (fun _=>False) wc.drew w1:=(by first | exact hm | exact (bC _ _).trans hm);replace hm0:=hm0.trans hm;replace hp:=hp.k hm;replace hq:=hq.k hm;replace hr:=hr.k hm;replace hu:=hu.k hm;replace hv:=hv.k hm;replace hl:=hl.k hm;replace b1:=b1.k hm;replace b2:=b2.k hm;replace b3:=b3.k hm;replace b4:=b4.k hm;replace b5:=b5.k hm;replace b6:=b6.k hm;replace b7:=b7.k hm;clear hm hS;have hS:=zI (sP b1) (zI (sP b3) (sV b6));have hA:=zI (sP (b1.al oL)) (zI (sP (b3.al oL)) (sV (b6.al oL)))))
  all_goals (go_wp2_with fail;go_meet;first | (have _d:=bL;rw[<- SB];exact⟨_,⟨z1,z2,v.x⟩,rfl,WH bL (.bool z1.x.b) (.slice z1.x.a z1.x.n z1.x.c) (.bool z1.y.b) (.slice z1.y.a z1.y.n z1.y.c) (.bool z1.w.b) (.slice z1.w.a z1.w.n z1.w.c) (.bool z2.b) (.slice z2.a z2.n z2.c) (.bool v.x.b) (.slice v.x.a v.x.n v.x.c),(show LI w2 ⟨z1,z2,v.x⟩ (gJ t x) (a+c) (a+c - 4) from ⟨n1,n2,hv.x⟩).aL bL (by decide) 0 [.bool z1.x.b,.slice z1.x.a z1.x.n z1.x.c,.bool z1.y.b,.slice z1.y.a z1.y.n z1.y.c,.bool z1.w.b,.slice z1.w.a z1.w.n z1.w.c,.bool z2.b,.slice z2.a z2.n z2.c,.bool v.x.b,.slice v.x.a v.x.n v.x.c],hp.aL bL (by decide) 0 [.bool z1.x.b,.slice z1.x.a z1.x.n z1.x.c,.bool z1.y.b,.slice z1.y.a z1.y.n z1.y.c,.bool z1.w.b,.slice z1.w.a z1.w.n z1.w.c,.bool z2.b,.slice z2.a z2.n z2.c,.bool v.x.b,.slice v.x.a v.x.n v.x.c],hq.aL bL (by decide) 0 [.bool z1.x.b,.slice z1.x.a z1.x.n z1.x.c,.bool z1.y.b,.slice z1.y.a z1.y.n z1.y.c,.bool z1.w.b,.slice z1.w.a z1.w.n z1.w.c,.bool z2.b,.slice z2.a z2.n z2.c,.bool v.x.b,.slice v.x.a v.x.n v.x.c],hr.aL bL (by decide) 0 [.bool z1.x.b,.slice z1.x.a z1.x.n z1.x.c,.bool z1.y.b,.slice z1.y.a z1.y.n z1.y.c,.bool z1.w.b,.slice z1.w.a z1.w.n z1.w.c,.bool z2.b,.slice z2.a z2.n z2.c,.bool v.x.b,.slice v.x.a v.x.n v.x.c],hu.aL bL (by decide) 0 [.bool z1.x.b,.slice z1.x.a z1.x.n z1.x.c,.bool z1.y.b,.slice z1.y.a z1.y.n z1.y.c,.bool z1.w.b,.slice z1.w.a z1.w.n z1.w.c,.bool z2.b,.slice z2.a z2.n z2.c,.bool v.x.b,.slice v.x.a v.x.n v.x.c],hv.aL bL (by decide) 0 [.bool z1.x.b,.slice z1.x.a z1.x.n z1.x.c,.bool z1.y.b,.slice z1.y.a z1.y.n z1.y.c,.bool z1.w.b,.slice z1.w.a z1.w.n z1.w.c,.bool z2.b,.slice z2.a z2.n z2.c,.bool v.x.b,.slice v.x.a v.x.n v.x.c],hl.aL bL (by decide) 0 [.bool z1.x.b,.slice z1.x.a z1.x.n z1.x.c,.bool z1.y.b,.slice z1.y.a z1.y.n z1.y.c,.bool z1.w.b,.slice z1.w.a z1.w.n z1.w.c,.bool z2.b,.slice z2.a z2.n z2.c,.bool v.x.b,.slice v.x.a v.x.n v.x.c],b1.os e1 0 [.bool z1.x.b,.slice z1.x.a z1.x.n z1.x.c,.bool z1.y.b,.slice z1.y.a z1.y.n z1.y.c,.bool z1.w.b,.slice z1.w.a z1.w.n z1.w.c,.bool z2.b,.slice z2.a z2.n z2.c,.bool v.x.b,.slice v.x.a v.x.n v.x.c],b2.os e2 0 [.bool z1.x.b,.slice z1.x.a z1.x.n z1.x.c,.bool z1.y.b,.slice z1.y.a z1.y.n z1.y.c,.bool z1.w.b,.slice z1.w.a z1.w.n z1.w.c,.bool z2.b,.slice z2.a z2.n z2.c,.bool v.x.b,.slice v.x.a v.x.n v.x.c],b3.os e3 0 [.bool z1.x.b,.slice z1.x.a z1.x.n z1.x.c,.bool z1.y.b,.slice z1.y.a z1.y.n z1.y.c,.bool z1.w.b,.slice z1.w.a z1.w.n z1.w.c,.bool z2.b,.slice z2.a z2.n z2.c,.bool v.x.b,.slice v.x.a v.x.n v.x.c],b4.os e4 0 [.bool z1.x.b,.slice z1.x.a z1.x.n z1.x.c,.bool z1.y.b,.slice z1.y.a z1.y.n z1.y.c,.bool z1.w.b,.slice z1.w.a z1.w.n z1.w.c,.bool z2.b,.slice z2.a z2.n z2.c,.bool v.x.b,.slice v.x.a v.x.n v.x.c],b5.os e5 0 [.bool z1.x.b,.slice z1.x.a z1.x.n z1.x.c,.bool z1.y.b,.slice z1.y.a z1.y.n z1.y.c,.bool z1.w.b,.slice z1.w.a z1.w.n z1.w.c,.bool z2.b,.slice z2.a z2.n z2.c,.bool v.x.b,.slice v.x.a v.x.n v.x.c],b6.os e6 0 [.bool z1.x.b,.slice z1.x.a z1.x.n z1.x.c,.bool z1.y.b,.slice z1.y.a z1.y.n z1.y.c,.bool z1.w.b,.slice z1.w.a z1.w.n z1.w.c,.bool z2.b,.slice z2.a z2.n z2.c,.bool v.x.b,.slice v.x.a v.x.n v.x.c],b7.os e7 0 [.bool z1.x.b,.slice z1.x.a z1.x.n z1.x.c,.bool z1.y.b,.slice z1.y.a z1.y.n z1.y.c,.bool z1.w.b,.slice z1.w.a z1.w.n z1.w.c,.bool z2.b,.slice z2.a z2.n z2.c,.bool v.x.b,.slice v.x.a v.x.n v.x.c],(Mod.sets (i:=0) (vs:=[.bool z1.x.b,.slice z1.x.a z1.x.n z1.x.c,.bool z1.y.b,.slice z1.y.a z1.y.n z1.y.c,.bool z1.w.b,.slice z1.w.a z1.w.n z1.w.c,.bool z2.b,.slice z2.a z2.n z2.c,.bool v.x.b,.slice v.x.a v.x.n v.x.c]) (hm0.mono (q:=fun i=>w.heap.size<=i) (fun _ _ f=>f.elim)) (fun _=>hL)).mono (fun i hi h=>by omega),e1,e2,e3,e4,e5,e6,e7⟩) | exact⟨_,⟨z1,z2,v.x⟩,rfl,aQ _ _ _,(show LI w2 ⟨z1,z2,v.x⟩ (gJ t x) (a+c) (a+c - 4) from ⟨n1,n2,hv.x⟩).k ((Mod.refl _ _).alloc _),hp.k ((Mod.refl _ _).alloc _),hq.k ((Mod.refl _ _).alloc _),hr.k ((Mod.refl _ _).alloc _),hu.k ((Mod.refl _ _).alloc _),hv.k ((Mod.refl _ _).alloc _),hl.k ((Mod.refl _ _).alloc _),b1.k ((Mod.refl _ _).alloc _),b2.k ((Mod.refl _ _).alloc _),b3.k ((Mod.refl _ _).alloc _),b4.k ((Mod.refl _ _).alloc _),b5.k ((Mod.refl _ _).alloc _),b6.k ((Mod.refl _ _).alloc _),b7.k ((Mod.refl _ _).alloc _),hm0.trans ((Mod.refl _ _).alloc _),b1.ne,b2.ne,b3.ne,b4.ne,b5.ne,b6.ne,b7.ne⟩)
 case rest =>
 clear hm0 hp hq hr hu hv hl b1 b2 b3 b4 b5 b6 b7
 obtain⟨k8,o,rfl,b8,ho,hp,hq,hr,hu,hv,hl,b1,b2,b3,b4,b5,b6,b7,hm0,acE,acF,acG,acH,acI,acJ,acK⟩:=hcut
 have lo:=ho.p.x.lo
 go_upto_region 7 with fail
 obtain⟨y0,y1,y2,y3,y4,y5,y6,y7,y8,y9⟩:=sL b7
 obtain⟨gG,gH,iP,y13,iQ,iR,tF,tH,zA,zB⟩:=sL b8
 go_wp2_with fail
 refine (Ed hl ho (by omega)).mono ?_
 rintro e w0 ⟨hm,z1,rfl,n1⟩
 replace hm0:=hm0.trans hm;replace hp:=hp.k hm;replace hq:=hq.k hm;replace hr:=hr.k hm;replace hu:=hu.k hm;replace hv:=hv.k hm;replace hl:=hl.k hm;replace ho:=ho.k hm;replace b1:=b1.k hm;replace b2:=b2.k hm;replace b3:=b3.k hm;replace b4:=b4.k hm;replace b5:=b5.k hm;replace b6:=b6.k hm;replace b7:=b7.k hm;replace b8:=b8.k hm
 clear hm y0 y1 y2 y3 y4 y5 y6 y7 y8 y9 gG gH iP y13 iQ iR tF tH zA zB
 have e:uH (gJ t s) (gJ t x)=V:=by rw[HV.out,HB.out];unfold uH;cases jf (gJ t s) (gJ t x)<;>rfl
 have e2:(!jf (gJ t s) (gJ t x))=O:=by rw[HB.out];rfl
 rw[e]at n1;rw[e2];clear e e2 HV HB
 have yP:Mod (fun _=>False) w0 (w0.alloc (.cells #[.bool z1.x.b,.slice z1.x.a z1.x.n z1.x.c,.bool z1.y.b,.slice z1.y.a z1.y.n z1.y.c,.bool z1.w.b,.slice z1.w.a z1.w.n z1.w.c] 165)):=(Mod.refl _ w0).alloc _
 replace hm0:=hm0.trans yP;replace b4:=b4.k yP;replace n1:=n1.k yP
 clear yP hp hq hr hu hv hl ho b1 b2 b3 b5 b6 b7 b8
 obtain⟨r0,r1,r2,r3,r4,r5⟩:=vP b4
 have f0:=b4.fz 0
 have f1:=b4.fz 1
 have f2:=b4.fz 2
 have f3:=b4.fz 3
 have f4:=b4.fz 4
 have f5:=b4.fz 5
 go_wp2_with fail
 clear r0 f0 r1 f1 r2 f2 r3 f3 r4 f4 r5 f5
 have q:=((((((b4.set 0 (.bool z1.x.b)).set 1 (.slice z1.x.a z1.x.n z1.x.c)).set 2 (.bool z1.y.b)).set 3 (.slice z1.y.a z1.y.n z1.y.c)).set 4 (.bool z1.w.b)).set 5 (.slice z1.w.a z1.w.n z1.w.c))
 have q0:=q.c 0
 have q1:=q.c 1
 have q2:=q.c 2
 have q3:=q.c 3
 have q4:=q.c 4
 have q5:=q.c 5
 have fT:Mod (fun _=>False) w (((((((w0.alloc (.cells #[.bool z1.x.b,.slice z1.x.a z1.x.n z1.x.c,.bool z1.y.b,.slice z1.y.a z1.y.n z1.y.c,.bool z1.w.b,.slice z1.w.a z1.w.n z1.w.c] 165)).setCell ⟨w.heap.size+1+1+1,0,none⟩ (.bool z1.x.b)).setCell ⟨w.heap.size+1+1+1,1,none⟩ (.slice z1.x.a z1.x.n z1.x.c)).setCell ⟨w.heap.size+1+1+1,2,none⟩ (.bool z1.y.b)).setCell ⟨w.heap.size+1+1+1,3,none⟩ (.slice z1.y.a z1.y.n z1.y.c)).setCell ⟨w.heap.size+1+1+1,4,none⟩ (.bool z1.w.b)).setCell ⟨w.heap.size+1+1+1,5,none⟩ (.slice z1.w.a z1.w.n z1.w.c)):=((hm0.mono (q:=fun i=>i=w.heap.size+1+1+1) (fun _ _ f=>f.elim)).trans (((((((Mod.refl (fun i=>i=w.heap.size+1+1+1) (w0.alloc (.cells #[.bool z1.x.b,.slice z1.x.a z1.x.n z1.x.c,.bool z1.y.b,.slice z1.y.a z1.y.n z1.y.c,.bool z1.w.b,.slice z1.w.a z1.w.n z1.w.c] 165))).setCell ⟨w.heap.size+1+1+1,0,none⟩ (.bool z1.x.b) (fun _=>rfl)).setCell ⟨w.heap.size+1+1+1,1,none⟩ (.slice z1.x.a z1.x.n z1.x.c) (fun _=>rfl)).setCell ⟨w.heap.size+1+1+1,2,none⟩ (.bool z1.y.b) (fun _=>rfl)).setCell ⟨w.heap.size+1+1+1,3,none⟩ (.slice z1.y.a z1.y.n z1.y.c) (fun _=>rfl)).setCell ⟨w.heap.size+1+1+1,4,none⟩ (.bool z1.w.b) (fun _=>rfl)).setCell ⟨w.heap.size+1+1+1,5,none⟩ (.slice z1.w.a z1.w.n z1.w.c) (fun _=>rfl))).mono (fun i hi h=>by omega)
 have fP:Hid _:=(show IW w V O (5*a+3*b+2*c) (.returned (.tuple #[z1.v,.bool O])) (((((((w0.alloc (.cells #[.bool z1.x.b,.slice z1.x.a z1.x.n z1.x.c,.bool z1.y.b,.slice z1.y.a z1.y.n z1.y.c,.bool z1.w.b,.slice z1.w.a z1.w.n z1.w.c] 165)).setCell ⟨w.heap.size+1+1+1,0,none⟩ (.bool z1.x.b)).setCell ⟨w.heap.size+1+1+1,1,none⟩ (.slice z1.x.a z1.x.n z1.x.c)).setCell ⟨w.heap.size+1+1+1,2,none⟩ (.bool z1.y.b)).setCell ⟨w.heap.size+1+1+1,3,none⟩ (.slice z1.y.a z1.y.n z1.y.c)).setCell ⟨w.heap.size+1+1+1,4,none⟩ (.bool z1.w.b)).setCell ⟨w.heap.size+1+1+1,5,none⟩ (.slice z1.w.a z1.w.n z1.w.c)) from ⟨fT,z1,rfl,(n1.up (by omega)).aL b4 (by decide) 0 [.bool z1.x.b,.slice z1.x.a z1.x.n z1.x.c,.bool z1.y.b,.slice z1.y.a z1.y.n z1.y.c,.bool z1.w.b,.slice z1.w.a z1.w.n z1.w.c]⟩)
 exact bodyPost_ret (v:=.tuple #[z1.v,.bool O]) (by simp[results,Tryz.results172,go_sem,q0,q1,q2,q3,q4,q5]) rfl fP.out
end Go.Proofs.YtmnfndpbblpjiabGreatDoor

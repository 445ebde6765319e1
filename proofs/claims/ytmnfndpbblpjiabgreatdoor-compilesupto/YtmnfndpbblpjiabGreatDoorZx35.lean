/- The document's plane: between, equally far. -/
import Derived.Test.YtmnfndpbblpjiabGreatDoorZx34
set_option maxHeartbeats 3200000
set_option maxRecDepth 100000
namespace Go.Proofs.YtmnfndpbblpjiabGreatDoor
open Go.RowKit Pu
theorem L9 {w:World} {p q r:PV} {t s v:T3} {m:Nat} (hp:PI w p t m) (hq:PI w q s m) (hr:PI w r v m) (h:4*m<=900000000):Calls Tryz.prog 159 #[p.v,q.v,r.v] w (pR w (I9 t s v)):=by
 obtain⟨hm0,b1,b2,b3⟩:=zU w p.r q.r r.r 165 165 165
 have lp:=hp.x.lo
 have lq:=hq.x.lo
 have lr:=hr.x.lo
 replace hp:=hp.k hm0
 replace hq:=hq.k hm0
 replace hr:=hr.k hm0
 go_in
 go_wp2_with fail
 generalize (((w.alloc (.cells p.r 165)).alloc (.cells q.r 165)).alloc (.cells r.r 165))=W at *
 have HA:Hid (I9 t s v=(!(cB t s || cB s v || !iY t s v) && (BX t.x t.w s.x s.w v.x v.w && BX t.y t.w s.y s.w v.y v.w))):=rfl
 refine (mU hp hq (by omega)).mono ?_
 rintro e w1 ⟨hm,rfl⟩
 replace hm0:=hm0.trans hm;replace hp:=hp.k hm;replace hq:=hq.k hm;replace hr:=hr.k hm;replace b1:=b1.k hm;replace b2:=b2.k hm;replace b3:=b3.k hm
 clear hm
 generalize cB t s=B1 at *;cases B1 with
 | true=>go_wp2_with fail;go_ret;exact⟨hm0,by rw[HA.out];rfl⟩
 | false =>
 obtain⟨y0,y1,y2,y3,y4,y5⟩:=sP b1
 obtain⟨y6,y7,y8,y9,gG,gH⟩:=sP b2
 obtain⟨iP,y13,iQ,iR,tF,tH⟩:=sP b3
 go_wp2_with fail
 refine (mU hq hr (by omega)).mono ?_
 rintro e w2 ⟨hm,rfl⟩
 replace hm0:=hm0.trans hm;replace hp:=hp.k hm;replace hq:=hq.k hm;replace hr:=hr.k hm;replace b1:=b1.k hm;replace b2:=b2.k hm;replace b3:=b3.k hm
 clear hm y0 y1 y2 y3 y4 y5 y6 y7 y8 y9 gG gH iP y13 iQ iR tF tH
 generalize cB s v=B2 at *;cases B2 with
 | true=>go_wp2_with fail;go_ret;exact⟨hm0,by rw[HA.out];rfl⟩
 | false =>
 obtain⟨y0,y1,y2,y3,y4,y5⟩:=sP b1
 obtain⟨y6,y7,y8,y9,gG,gH⟩:=sP b2
 obtain⟨iP,y13,iQ,iR,tF,tH⟩:=sP b3
 go_wp2_with fail
 refine (jV hp hq hr (by omega)).mono ?_
 rintro e w3 ⟨hm,rfl⟩
 replace hm0:=hm0.trans hm;replace hp:=hp.k hm;replace hq:=hq.k hm;replace hr:=hr.k hm;replace b1:=b1.k hm;replace b2:=b2.k hm;replace b3:=b3.k hm
 clear hm y0 y1 y2 y3 y4 y5 y6 y7 y8 y9 gG gH iP y13 iQ iR tF tH
 generalize iY t s v=B3 at *;cases B3 with
 | false=>go_wp2_with fail;go_ret;exact⟨hm0,by rw[HA.out];rfl⟩
 | true =>
 obtain⟨y0,y1,y2,y3,y4,y5⟩:=sP b1
 obtain⟨y6,y7,y8,y9,gG,gH⟩:=sP b2
 obtain⟨iP,y13,iQ,iR,tF,tH⟩:=sP b3
 go_wp2_with fail
 refine (Ip hp.x hp.w hq.x hq.w hr.x hr.w (by omega)).mono ?_
 rintro e w4 ⟨hm,rfl⟩
 replace hm0:=hm0.trans hm;replace hp:=hp.k hm;replace hq:=hq.k hm;replace hr:=hr.k hm;replace b1:=b1.k hm;replace b2:=b2.k hm;replace b3:=b3.k hm
 clear hm y0 y1 y2 y3 y4 y5 y6 y7 y8 y9 gG gH iP y13 iQ iR tF tH
 generalize BX t.x t.w s.x s.w v.x v.w=B4 at *;cases B4 with
 | false=>go_wp2_with fail;go_ret;exact⟨hm0,by rw[HA.out];rfl⟩
 | true =>
 obtain⟨y0,y1,y2,y3,y4,y5⟩:=sP b1
 obtain⟨y6,y7,y8,y9,gG,gH⟩:=sP b2
 obtain⟨iP,y13,iQ,iR,tF,tH⟩:=sP b3
 go_wp2_with fail
 refine (Ip hp.y hp.w hq.y hq.w hr.y hr.w (by omega)).mono ?_
 rintro e w5 ⟨hm,rfl⟩
 replace hm0:=hm0.trans hm;replace hp:=hp.k hm;replace hq:=hq.k hm;replace hr:=hr.k hm;replace b1:=b1.k hm;replace b2:=b2.k hm;replace b3:=b3.k hm
 clear hm y0 y1 y2 y3 y4 y5 y6 y7 y8 y9 gG gH iP y13 iQ iR tF tH
 go_wp2_with fail;go_ret;exact⟨hm0,by rw[HA.out];rfl⟩
theorem TW {w:World} {c p q:PV} {x t s:T3} {mc m:Nat} (hc:PI w c x mc) (hp:PI w p t m) (hq:PI w q s m) (h:2*mc+4*m<=900000000):Calls Tryz.prog 188 #[c.v,p.v,q.v] w (pR w (O1 x t s)):=by
 obtain⟨hm0,b1,b2,b3⟩:=zU w c.r p.r q.r 165 165 165
 have lc:=hc.x.lo
 have lp:=hp.x.lo
 have lq:=hq.x.lo
 replace hc:=hc.k hm0
 replace hp:=hp.k hm0
 replace hq:=hq.k hm0
 go_in
 go_upto_region 1 with fail
 generalize (((w.alloc (.cells c.r 165)).alloc (.cells p.r 165)).alloc (.cells q.r 165))=W at *
 go_cut [7] from 11 (fun sv wc=>∃ (kk:Nat) (zz:VV),sv=.pointer (some ⟨kk,0,none⟩)/\Bk wc kk zz.r 206/\VI wc zz (iU x t) (mc+m - 4)/\PI wc c x mc/\PI wc p t m/\PI wc q s m/\Bk wc (w.heap.size) c.r 165/\Bk wc (w.heap.size+1) p.r 165/\Bk wc (w.heap.size+1+1) q.r 165/\Mod (fun _=>False) w wc/\w.heap.size≠kk/\w.heap.size+1≠kk/\w.heap.size+1+1≠kk)
 case first =>
  obtain⟨y0,y1,y2,y3,y4,y5⟩:=sP b1
  obtain⟨y6,y7,y8,y9,gG,gH⟩:=sP b2
  go_wp2_with (first
    | (go_at_call 158;(fail_if_success have _e:=n1);refine (kr hc hp (by omega)).mono ?_;rintro e w1 ⟨hm,z1,rfl,n1⟩;replace hm0:=hm0.trans hm;replace hc:=hc.k hm;replace hp:=hp.k hm;replace hq:=hq.k hm;replace b1:=b1.k hm;replace b2:=b2.k hm;replace b3:=b3.k hm;clear hm))
  clear y0 y1 y2 y3 y4 y5 y6 y7 y8 y9 gG gH
  go_meet;exact⟨_,z1,rfl,aQ _ _ _,n1.k ((Mod.refl _ _).alloc _),hc.k ((Mod.refl _ _).alloc _),hp.k ((Mod.refl _ _).alloc _),hq.k ((Mod.refl _ _).alloc _),b1.k ((Mod.refl _ _).alloc _),b2.k ((Mod.refl _ _).alloc _),b3.k ((Mod.refl _ _).alloc _),hm0.trans ((Mod.refl _ _).alloc _),b1.ne,b2.ne,b3.ne⟩
 case rest =>
 clear hm0 hc hp hq b1 b2 b3
 obtain⟨k4,u,rfl,b4,hu,hc,hp,hq,b1,b2,b3,hm0,Ur,Us,kU⟩:=hcut
 have lu:=hu.x.lo
 go_upto_region 2 with fail
 go_cut [8] from 11 (fun sv wc=>∃ (kk:Nat) (zz:VV),sv=.pointer (some ⟨kk,0,none⟩)/\Bk wc kk zz.r 206/\VI wc zz (iU x s) (mc+m - 4)/\PI wc c x mc/\PI wc p t m/\PI wc q s m/\VI wc u (iU x t) (mc+m - 4)/\Bk wc (w.heap.size) c.r 165/\Bk wc (w.heap.size+1) p.r 165/\Bk wc (w.heap.size+1+1) q.r 165/\Bk wc (k4) u.r 206/\Mod (fun _=>False) w wc/\w.heap.size≠kk/\w.heap.size+1≠kk/\w.heap.size+1+1≠kk/\k4≠kk)
 case first =>
  obtain⟨y0,y1,y2,y3,y4,y5⟩:=sP b1
  obtain⟨y6,y7,y8,y9,gG,gH⟩:=sP b3
  go_wp2_with (first
    | (go_at_call 158;(fail_if_success have _e:=n1);refine (kr hc hq (by omega)).mono ?_;rintro e w1 ⟨hm,z1,rfl,n1⟩;replace hm0:=hm0.trans hm;replace hc:=hc.k hm;replace hp:=hp.k hm;replace hq:=hq.k hm;replace hu:=hu.k hm;replace b1:=b1.k hm;replace b2:=b2.k hm;replace b3:=b3.k hm;replace b4:=b4.k hm;clear hm))
  clear y0 y1 y2 y3 y4 y5 y6 y7 y8 y9 gG gH
  go_meet;exact⟨_,z1,rfl,aQ _ _ _,n1.k ((Mod.refl _ _).alloc _),hc.k ((Mod.refl _ _).alloc _),hp.k ((Mod.refl _ _).alloc _),hq.k ((Mod.refl _ _).alloc _),hu.k ((Mod.refl _ _).alloc _),b1.k ((Mod.refl _ _).alloc _),b2.k ((Mod.refl _ _).alloc _),b3.k ((Mod.refl _ _).alloc _),b4.k ((Mod.refl _ _).alloc _),hm0.trans ((Mod.refl _ _).alloc _),b1.ne,b2.ne,b3.ne,b4.ne⟩
 case rest =>
 clear hm0 hc hp hq hu b1 b2 b3 b4
 obtain⟨k5,v,rfl,b5,hv,hc,hp,hq,hu,b1,b2,b3,b4,hm0,Px,Py,nI,Pz⟩:=hcut
 have lv:=hv.x.lo
 go_wp2_with fail
 go_cut [9] from 11 (fun sv wc=>∃ (kk:Nat) (zz:NV),sv=.pointer (some ⟨kk,0,none⟩)/\Bk wc kk zz.r 154/\NI wc zz (mG (iU x t) (iU x t)*(s.w*s.w)) (2*mc+4*m - 20)/\PI wc c x mc/\PI wc p t m/\PI wc q s m/\VI wc u (iU x t) (mc+m - 4)/\VI wc v (iU x s) (mc+m - 4)/\Bk wc (w.heap.size) c.r 165/\Bk wc (w.heap.size+1) p.r 165/\Bk wc (w.heap.size+1+1) q.r 165/\Bk wc (k4) u.r 206/\Bk wc (k5) v.r 206/\Mod (fun _=>False) w wc/\w.heap.size≠kk/\w.heap.size+1≠kk/\w.heap.size+1+1≠kk/\k4≠kk/\k5≠kk)
 case first =>
  have hT:=zI (sV b4) (sP b3)
  have hdw:Mod (fun _=>False) wc wc.drew:=(Mod.refl _ wc).drew
  replace hm0:=hm0.trans hdw
  replace hc:=hc.k hdw;replace hp:=hp.k hdw;replace hq:=hq.k hdw;replace hu:=hu.k hdw;replace hv:=hv.k hdw;replace b1:=b1.k hdw;replace b2:=b2.k hdw;replace b3:=b3.k hdw;replace b4:=b4.k hdw;replace b5:=b5.k hdw
  clear hdw
  have hS:=zI (sV b4) (sP b3);have hA:=zI (sV (b4.uy oN)) (sP (b3.uy oN))
  go_region_held3 (fun w'=>BV (k4) u w'/\BP (w.heap.size+1+1) q w')
   (first | with_reducible exact hS | with_reducible exact hC | with_reducible exact hA | with_reducible exact hE | with_reducible exact hT)
   (first
    | (go_at_call 153;(fail_if_success have _e:=n3);have _d:=n2;refine (bM (by first | exact n1 | exact (n1).k ((Mod.refl _ _).alloc _)) (by first | exact n2 | exact (n2).k ((Mod.refl _ _).alloc _)) (by omega) (k:=2*mc+4*m - 20) (by omega)).mono ?_;rintro e w3 ⟨hm,z3,rfl,n3⟩;(try (replace bL:=bL.k hm));(try (have bL:=(aQ w2 #[.bool false,.slice none 0 0] 154).k hm;have hL:w.heap.size<=w2.heap.size:=hm0.size;have e1:w.heap.size≠w2.heap.size:=b1.ne;have e2:w.heap.size+1≠w2.heap.size:=b2.ne;have e3:w.heap.size+1+1≠w2.heap.size:=b3.ne;have e4:k4≠w2.heap.size:=b4.ne;have e5:k5≠w2.heap.size:=b5.ne));replace hm:Mod (fun _=>False) w2 w3:=(by first | exact hm | exact ((Mod.refl _ _).alloc _).trans hm);replace hm0:=hm0.trans hm;replace hc:=hc.k hm;replace hp:=hp.k hm;replace hq:=hq.k hm;replace hu:=hu.k hm;replace hv:=hv.k hm;replace b1:=b1.k hm;replace b2:=b2.k hm;replace b3:=b3.k hm;replace b4:=b4.k hm;replace b5:=b5.k hm;replace n1:=n1.k hm;replace n2:=n2.k hm;clear hm hS;have hS:=zI (sV b4) (sP b3);have hA:=zI (sV (b4.al oN)) (sP (b3.al oN));have hE:=zI (sV (b4.al (.cells z3.r 154))) (sP (b3.al (.cells z3.r 154)));(try (have r0:=bL.c 0;have f0:=bL.fz 0;have r1:=bL.c 1;have f1:=bL.fz 1;have hC:=zI (sV ((b4.o e4 0 (.bool z3.b)).o e4 1 (.slice z3.a z3.n z3.c))) (sP ((b3.o e3 0 (.bool z3.b)).o e3 1 (.slice z3.a z3.n z3.c))))))
    | (go_at_call 153;(fail_if_success have _e:=n2);have _d:=n1;refine (bM (by first | exact hq.w | exact (hq.w).k ((Mod.refl _ _).alloc _)) (by first | exact hq.w | exact (hq.w).k ((Mod.refl _ _).alloc _)) (by omega) (k:=2*m - 8) (by omega)).mono ?_;rintro e w2 ⟨hm,z2,rfl,n2⟩;(try (replace bL:=bL.k hm));(try (have bL:=(aQ w1 #[.bool false,.slice none 0 0] 154).k hm;have hL:w.heap.size<=w1.heap.size:=hm0.size;have e1:w.heap.size≠w1.heap.size:=b1.ne;have e2:w.heap.size+1≠w1.heap.size:=b2.ne;have e3:w.heap.size+1+1≠w1.heap.size:=b3.ne;have e4:k4≠w1.heap.size:=b4.ne;have e5:k5≠w1.heap.size:=b5.ne));replace hm:Mod (fun _=>False) w1 w2:=(by first | exact hm | exact ((Mod.refl _ _).alloc _).trans hm);replace hm0:=hm0.trans hm;replace hc:=hc.k hm;replace hp:=hp.k hm;replace hq:=hq.k hm;replace hu:=hu.k hm;replace hv:=hv.k hm;replace b1:=b1.k hm;replace b2:=b2.k hm;replace b3:=b3.k hm;replace b4:=b4.k hm;replace b5:=b5.k hm;replace n1:=n1.k hm;clear hm hS;have hS:=zI (sV b4) (sP b3);have hA:=zI (sV (b4.al oN)) (sP (b3.al oN)))
    | (go_at_call 164;(fail_if_success have _e:=n1);refine (FH (by first | exact hu | exact (hu).k (bC _ _)) (by first | exact hu | exact (hu).k (bC _ _)) (by omega)).mono ?_;rintro e w1 ⟨hm,z1,rfl,n1⟩;(try (replace bL:=bL.k hm));(try (have bL:=(jL wc #[.bool false,.slice none 0 0] 154).k hm;have hL:w.heap.size<=wc.heap.size:=hm0.size;have e1:w.heap.size≠wc.heap.size:=b1.ne;have e2:w.heap.size+1≠wc.heap.size:=b2.ne;have e3:w.heap.size+1+1≠wc.heap.size:=b3.ne;have e4:k4≠wc.heap.size:=b4.ne;have e5:k5≠wc.heap.size:=b5.ne));replace hm:Mod (fun _=>False) wc.drew w1:=(by first | exact hm | exact (bC _ _).trans hm);replace hm0:=hm0.trans hm;replace hc:=hc.k hm;replace hp:=hp.k hm;replace hq:=hq.k hm;replace hu:=hu.k hm;replace hv:=hv.k hm;replace b1:=b1.k hm;replace b2:=b2.k hm;replace b3:=b3.k hm;replace b4:=b4.k hm;replace b5:=b5.k hm;clear hm hS;have hS:=zI (sV b4) (sP b3);have hA:=zI (sV (b4.al oN)) (sP (b3.al oN))))
  all_goals (go_wp2_with fail;go_meet;first | (have _d:=bL;exact⟨_,z3,rfl,((bL.set 0 (.bool z3.b)).set 1 (.slice z3.a z3.n z3.c)),n3.aL bL (by decide) 0 [.bool z3.b,.slice z3.a z3.n z3.c],hc.aL bL (by decide) 0 [.bool z3.b,.slice z3.a z3.n z3.c],hp.aL bL (by decide) 0 [.bool z3.b,.slice z3.a z3.n z3.c],hq.aL bL (by decide) 0 [.bool z3.b,.slice z3.a z3.n z3.c],hu.aL bL (by decide) 0 [.bool z3.b,.slice z3.a z3.n z3.c],hv.aL bL (by decide) 0 [.bool z3.b,.slice z3.a z3.n z3.c],b1.os e1 0 [.bool z3.b,.slice z3.a z3.n z3.c],b2.os e2 0 [.bool z3.b,.slice z3.a z3.n z3.c],b3.os e3 0 [.bool z3.b,.slice z3.a z3.n z3.c],b4.os e4 0 [.bool z3.b,.slice z3.a z3.n z3.c],b5.os e5 0 [.bool z3.b,.slice z3.a z3.n z3.c],(Mod.sets (i:=0) (vs:=[.bool z3.b,.slice z3.a z3.n z3.c]) (hm0.mono (q:=fun i=>w.heap.size<=i) (fun _ _ f=>f.elim)) (fun _=>hL)).mono (fun i hi h=>by omega),e1,e2,e3,e4,e5⟩) | exact⟨_,z3,rfl,aQ _ _ _,n3.k ((Mod.refl _ _).alloc _),hc.k ((Mod.refl _ _).alloc _),hp.k ((Mod.refl _ _).alloc _),hq.k ((Mod.refl _ _).alloc _),hu.k ((Mod.refl _ _).alloc _),hv.k ((Mod.refl _ _).alloc _),b1.k ((Mod.refl _ _).alloc _),b2.k ((Mod.refl _ _).alloc _),b3.k ((Mod.refl _ _).alloc _),b4.k ((Mod.refl _ _).alloc _),b5.k ((Mod.refl _ _).alloc _),hm0.trans ((Mod.refl _ _).alloc _),b1.ne,b2.ne,b3.ne,b4.ne,b5.ne⟩)
 case rest =>
 clear hm0 hc hp hq hu hv b1 b2 b3 b4 b5
 obtain⟨k6,a,rfl,b6,ha,hc,hp,hq,hu,hv,b1,b2,b3,b4,b5,hm0,XT,XU,DU,XV,DV⟩:=hcut
 have la:=ha.lo
 go_wp2_with fail
 go_cut [10] from 11 (fun sv wc=>∃ (kk:Nat) (zz:NV),sv=.pointer (some ⟨kk,0,none⟩)/\Bk wc kk zz.r 154/\NI wc zz (mG (iU x s) (iU x s)*(t.w*t.w)) (2*mc+4*m - 20)/\PI wc c x mc/\PI wc p t m/\PI wc q s m/\VI wc u (iU x t) (mc+m - 4)/\VI wc v (iU x s) (mc+m - 4)/\NI wc a (mG (iU x t) (iU x t)*(s.w*s.w)) (2*mc+4*m - 20)/\Bk wc (w.heap.size) c.r 165/\Bk wc (w.heap.size+1) p.r 165/\Bk wc (w.heap.size+1+1) q.r 165/\Bk wc (k4) u.r 206/\Bk wc (k5) v.r 206/\Bk wc (k6) a.r 154/\Mod (fun _=>False) w wc/\w.heap.size≠kk/\w.heap.size+1≠kk/\w.heap.size+1+1≠kk/\k4≠kk/\k5≠kk/\k6≠kk)
 case first =>
  have hT:=zI (sV b5) (sP b2)
  have hdw:Mod (fun _=>False) wc wc.drew:=(Mod.refl _ wc).drew
  replace hm0:=hm0.trans hdw
  replace hc:=hc.k hdw;replace hp:=hp.k hdw;replace hq:=hq.k hdw;replace hu:=hu.k hdw;replace hv:=hv.k hdw;replace ha:=ha.k hdw;replace b1:=b1.k hdw;replace b2:=b2.k hdw;replace b3:=b3.k hdw;replace b4:=b4.k hdw;replace b5:=b5.k hdw;replace b6:=b6.k hdw
  clear hdw
  have hS:=zI (sV b5) (sP b2);have hA:=zI (sV (b5.uy oN)) (sP (b2.uy oN))
  go_region_held3 (fun w'=>BV (k5) v w'/\BP (w.heap.size+1) p w')
   (first | with_reducible exact hS | with_reducible exact hC | with_reducible exact hA | with_reducible exact hE | with_reducible exact hT)
   (first
    | (go_at_call 153;(fail_if_success have _e:=n3);have _d:=n2;refine (bM (by first | exact n1 | exact (n1).k ((Mod.refl _ _).alloc _)) (by first | exact n2 | exact (n2).k ((Mod.refl _ _).alloc _)) (by omega) (k:=2*mc+4*m - 20) (by omega)).mono ?_;rintro e w3 ⟨hm,z3,rfl,n3⟩;(try (replace bL:=bL.k hm));(try (have bL:=(aQ w2 #[.bool false,.slice none 0 0] 154).k hm;have hL:w.heap.size<=w2.heap.size:=hm0.size;have e1:w.heap.size≠w2.heap.size:=b1.ne;have e2:w.heap.size+1≠w2.heap.size:=b2.ne;have e3:w.heap.size+1+1≠w2.heap.size:=b3.ne;have e4:k4≠w2.heap.size:=b4.ne;have e5:k5≠w2.heap.size:=b5.ne;have e6:k6≠w2.heap.size:=b6.ne));replace hm:Mod (fun _=>False) w2 w3:=(by first | exact hm | exact ((Mod.refl _ _).alloc _).trans hm);replace hm0:=hm0.trans hm;replace hc:=hc.k hm;replace hp:=hp.k hm;replace hq:=hq.k hm;replace hu:=hu.k hm;replace hv:=hv.k hm;replace ha:=ha.k hm;replace b1:=b1.k hm;replace b2:=b2.k hm;replace b3:=b3.k hm;replace b4:=b4.k hm;replace b5:=b5.k hm;replace b6:=b6.k hm;replace n1:=n1.k hm;replace n2:=n2.k hm;clear hm hS;have hS:=zI (sV b5) (sP b2);have hA:=zI (sV (b5.al oN)) (sP (b2.al oN));have hE:=zI (sV (b5.al (.cells z3.r 154))) (sP (b2.al (.cells z3.r 154)));(try (have r0:=bL.c 0;have f0:=bL.fz 0;have r1:=bL.c 1;have f1:=bL.fz 1;have hC:=zI (sV ((b5.o e5 0 (.bool z3.b)).o e5 1 (.slice z3.a z3.n z3.c))) (sP ((b2.o e2 0 (.bool z3.b)).o e2 1 (.slice z3.a z3.n z3.c))))))
    | (go_at_call 153;(fail_if_success have _e:=n2);have _d:=n1;refine (bM (by first | exact hp.w | exact (hp.w).k ((Mod.refl _ _).alloc _)) (by first | exact hp.w | exact (hp.w).k ((Mod.refl _ _).alloc _)) (by omega) (k:=2*m - 8) (by omega)).mono ?_;rintro e w2 ⟨hm,z2,rfl,n2⟩;(try (replace bL:=bL.k hm));(try (have bL:=(aQ w1 #[.bool false,.slice none 0 0] 154).k hm;have hL:w.heap.size<=w1.heap.size:=hm0.size;have e1:w.heap.size≠w1.heap.size:=b1.ne;have e2:w.heap.size+1≠w1.heap.size:=b2.ne;have e3:w.heap.size+1+1≠w1.heap.size:=b3.ne;have e4:k4≠w1.heap.size:=b4.ne;have e5:k5≠w1.heap.size:=b5.ne;have e6:k6≠w1.heap.size:=b6.ne));replace hm:Mod (fun _=>False) w1 w2:=(by first | exact hm | exact ((Mod.refl _ _).alloc _).trans hm);replace hm0:=hm0.trans hm;replace hc:=hc.k hm;replace hp:=hp.k hm;replace hq:=hq.k hm;replace hu:=hu.k hm;replace hv:=hv.k hm;replace ha:=ha.k hm;replace b1:=b1.k hm;replace b2:=b2.k hm;replace b3:=b3.k hm;replace b4:=b4.k hm;replace b5:=b5.k hm;replace b6:=b6.k hm;replace n1:=n1.k hm;clear hm hS;have hS:=zI (sV b5) (sP b2);have hA:=zI (sV (b5.al oN)) (sP (b2.al oN)))
    | (go_at_call 164;(fail_if_success have _e:=n1);refine (FH (by first | exact hv | exact (hv).k (bC _ _)) (by first | exact hv | exact (hv).k (bC _ _)) (by omega)).mono ?_;rintro e w1 ⟨hm,z1,rfl,n1⟩;(try (replace bL:=bL.k hm));(try (have bL:=(jL wc #[.bool false,.slice none 0 0] 154).k hm;have hL:w.heap.size<=wc.heap.size:=hm0.size;have e1:w.heap.size≠wc.heap.size:=b1.ne;have e2:w.heap.size+1≠wc.heap.size:=b2.ne;have e3:w.heap.size+1+1≠wc.heap.size:=b3.ne;have e4:k4≠wc.heap.size:=b4.ne;have e5:k5≠wc.heap.size:=b5.ne;have e6:k6≠wc.heap.size:=b6.ne));replace hm:Mod (fun _=>False) wc.drew w1:=(by first | exact hm | exact (bC _ _).trans hm);replace hm0:=hm0.trans hm;replace hc:=hc.k hm;replace hp:=hp.k hm;replace hq:=hq.k hm;replace hu:=hu.k hm;replace hv:=hv.k hm;replace ha:=ha.k hm;replace b1:=b1.k hm;replace b2:=b2.k hm;replace b3:=b3.k hm;replace b4:=b4.k hm;replace b5:=b5.k hm;replace b6:=b6.k hm;clear hm hS;have hS:=zI (sV b5) (sP b2);have hA:=zI (sV (b5.al oN)) (sP (b2.al oN))))
  all_goals (go_wp2_with fail;go_meet;first | (have _d:=bL;exact⟨_,z3,rfl,((bL.set 0 (.bool z3.b)).set 1 (.slice z3.a z3.n z3.c)),n3.aL bL (by decide) 0 [.bool z3.b,.slice z3.a z3.n z3.c],hc.aL bL (by decide) 0 [.bool z3.b,.slice z3.a z3.n z3.c],hp.aL bL (by decide) 0 [.bool z3.b,.slice z3.a z3.n z3.c],hq.aL bL (by decide) 0 [.bool z3.b,.slice z3.a z3.n z3.c],hu.aL bL (by decide) 0 [.bool z3.b,.slice z3.a z3.n z3.c],hv.aL bL (by decide) 0 [.bool z3.b,.slice z3.a z3.n z3.c],ha.aL bL (by decide) 0 [.bool z3.b,.slice z3.a z3.n z3.c],b1.os e1 0 [.bool z3.b,.slice z3.a z3.n z3.c],b2.os e2 0 [.bool z3.b,.slice z3.a z3.n z3.c],b3.os e3 0 [.bool z3.b,.slice z3.a z3.n z3.c],b4.os e4 0 [.bool z3.b,.slice z3.a z3.n z3.c],b5.os e5 0 [.bool z3.b,.slice z3.a z3.n z3.c],b6.os e6 0 [.bool z3.b,.slice z3.a z3.n z3.c],(Mod.sets (i:=0) (vs:=[.bool z3.b,.slice z3.a z3.n z3.c]) (hm0.mono (q:=fun i=>w.heap.size<=i) (fun _ _ f=>f.elim)) (fun _=>hL)).mono (fun i hi h=>by omega),e1,e2,e3,e4,e5,e6⟩) | exact⟨_,z3,rfl,aQ _ _ _,n3.k ((Mod.refl _ _).alloc _),hc.k ((Mod.refl _ _).alloc _),hp.k ((Mod.refl _ _).alloc _),hq.k ((Mod.refl _ _).alloc _),hu.k ((Mod.refl _ _).alloc _),hv.k ((Mod.refl _ _).alloc _),ha.k ((Mod.refl _ _).alloc _),b1.k ((Mod.refl _ _).alloc _),b2.k ((Mod.refl _ _).alloc _),b3.k ((Mod.refl _ _).alloc _),b4.k ((Mod.refl _ _).alloc _),b5.k ((Mod.refl _ _).alloc _),b6.k ((Mod.refl _ _).alloc _),hm0.trans ((Mod.refl _ _).alloc _),b1.ne,b2.ne,b3.ne,b4.ne,b5.ne,b6.ne⟩)
 case rest =>
 clear hm0 hc hp hq hu hv ha b1 b2 b3 b4 b5 b6
 obtain⟨k7,b,rfl,b7,hb,hc,hp,hq,hu,hv,ha,b1,b2,b3,b4,b5,b6,hm0,XW,XY,DW,XZ,DX,X0⟩:=hcut
 have lb:=hb.lo
 go_upto_region 5 with fail
 obtain⟨y0,y1⟩:=sN b6
 obtain⟨y2,y3⟩:=sN b7
 go_wp2_with (first
   | (go_at_call 163;(fail_if_success have _e:=n2);have _d:=n1;refine (tJ n1 (by omega)).mono ?_;rintro e w2 ⟨hm,rfl⟩;have n2:=True.intro;replace hm0:=hm0.trans hm;replace hc:=hc.k hm;replace hp:=hp.k hm;replace hq:=hq.k hm;replace hu:=hu.k hm;replace hv:=hv.k hm;replace ha:=ha.k hm;replace hb:=hb.k hm;replace b1:=b1.k hm;replace b2:=b2.k hm;replace b3:=b3.k hm;replace b4:=b4.k hm;replace b5:=b5.k hm;replace b6:=b6.k hm;replace b7:=b7.k hm;replace n1:=n1.k hm;clear hm)
   | (go_at_call 152;(fail_if_success have _e:=n1);refine (tV ha hb (by omega) (by omega) (k:=2*mc+4*m) (by omega) (by omega)).mono ?_;rintro e w1 ⟨hm,z1,rfl,n1⟩;replace hm0:=hm0.trans hm;replace hc:=hc.k hm;replace hp:=hp.k hm;replace hq:=hq.k hm;replace hu:=hu.k hm;replace hv:=hv.k hm;replace ha:=ha.k hm;replace hb:=hb.k hm;replace b1:=b1.k hm;replace b2:=b2.k hm;replace b3:=b3.k hm;replace b4:=b4.k hm;replace b5:=b5.k hm;replace b6:=b6.k hm;replace b7:=b7.k hm;clear hm))
 clear y0 y1 y2 y3
 go_ret
 exact⟨hm0,rfl⟩
end Go.Proofs.YtmnfndpbblpjiabGreatDoor

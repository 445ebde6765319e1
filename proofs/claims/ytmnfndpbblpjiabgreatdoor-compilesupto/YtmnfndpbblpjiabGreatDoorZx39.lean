/- The document's plane: three lines through a point, four points on a circle. -/
import Derived.Test.YtmnfndpbblpjiabGreatDoorZx35
import Derived.Test.YtmnfndpbblpjiabGreatDoorZx38
set_option maxHeartbeats 3200000
set_option maxRecDepth 100000
namespace Go.Proofs.YtmnfndpbblpjiabGreatDoor
open Go.RowKit Pu
theorem acC (w:World) (k:Nat) (v0 v1 v2 v3 v4 v5:Value):Go.Proofs.YtmnfndpbblpjiabGreatDoor.sets w k 0 [v0,v1,v2,v3,v4,v5]=((((((w.setCell ⟨k,0,none⟩ v0).setCell ⟨k,1,none⟩ v1).setCell ⟨k,2,none⟩ v2).setCell ⟨k,3,none⟩ v3).setCell ⟨k,4,none⟩ v4).setCell ⟨k,5,none⟩ v5):=rfl
theorem abG {w:World} {k:Nat} {t:TypeId} {x0 x1 x2 x3 x4 x5:Value} (h:Bk w k #[x0,x1,x2,x3,x4,x5] t) (v0 v1 v2 v3 v4 v5:Value):Bk (Go.Proofs.YtmnfndpbblpjiabGreatDoor.sets w k 0 [v0,v1,v2,v3,v4,v5]) k #[v0,v1,v2,v3,v4,v5] t:=by
 have e:=((((((h.set 0 v0).set 1 v1).set 2 v2).set 3 v3).set 4 v4).set 5 v5)
 simp only[List.setIfInBounds_toArray,List.set_cons_zero,List.set_cons_succ]at e
 exact e
theorem Pj {w:World} {l o g:LV} {r s u:RL} {m:Nat} (hl:LI w l r m m) (ho:LI w o s m m) (hg:LI w g u m m) (h:7*m<=900000000):Calls Tryz.prog 166 #[l.v,o.v,g.v] w (pR w (Mj r s u)):=by
 obtain⟨hm0,b1,b2,b3⟩:=zU w l.r o.r g.r 167 167 167
 have ll:=hl.p.x.lo;have ll2:=hl.x.lo
 have lo:=ho.p.x.lo;have lo2:=ho.x.lo
 have lg:=hg.p.x.lo;have lg2:=hg.x.lo
 replace hl:=hl.k hm0
 replace ho:=ho.k hm0
 replace hg:=hg.k hm0
 go_in
 go_wp2_with fail
 generalize (((w.alloc (.cells l.r 167)).alloc (.cells o.r 167)).alloc (.cells g.r 167))=W at *
 have HA:Hid (Mj r s u=if jf r s then (if jf r u then true else VB (jE (jW r u)) s) else VB (jE (jW r s)) u):=rfl
 have HM:Hid (uH r s=if jf r s then t0 else jE (jW r s)):=rfl
 have HN:Hid (uH r u=if jf r u then t0 else jE (jW r u)):=rfl
 refine (Ed hl ho (by omega)).mono ?_
 rintro e w1 ⟨hm,z1,rfl,n1⟩
 replace hm0:=hm0.trans hm;replace hl:=hl.k hm;replace ho:=ho.k hm;replace hg:=hg.k hm;replace b1:=b1.k hm;replace b2:=b2.k hm;replace b3:=b3.k hm
 clear hm
 have yP:Mod (fun _=>False) w1 (w1.alloc (.cells #[.bool z1.x.b,.slice z1.x.a z1.x.n z1.x.c,.bool z1.y.b,.slice z1.y.a z1.y.n z1.y.c,.bool z1.w.b,.slice z1.w.a z1.w.n z1.w.c] 165)):=(Mod.refl _ w1).alloc _
 have HL:=hm0.size;have E0:=b2.ne
 have b4:=aQ w1 #[.bool z1.x.b,.slice z1.x.a z1.x.n z1.x.c,.bool z1.y.b,.slice z1.y.a z1.y.n z1.y.c,.bool z1.w.b,.slice z1.w.a z1.w.n z1.w.c] 165
 replace hm0:=hm0.trans yP;replace hl:=hl.k yP;replace ho:=ho.k yP;replace hg:=hg.k yP;replace b1:=b1.k yP;replace b2:=b2.k yP;replace b3:=b3.k yP;replace n1:=n1.k yP
 clear yP
 have hL:w.heap.size<=w1.heap.size:=HL
 have E2:w.heap.size+1≠w1.heap.size:=E0
 generalize jf r s=B1 at *;cases B1 with
 | false =>
  obtain⟨y0,y1,y2,y3,y4,y5⟩:=sP b4
  obtain⟨y6,y7,y8,y9,gG,gH,iP,y13,iQ,iR⟩:=sL b3
  go_wp2_with fail
  refine (YU n1 hg (by omega)).mono ?_
  rintro e w2 ⟨hm,rfl⟩
  replace hm0:=hm0.trans hm;replace hl:=hl.k hm;replace ho:=ho.k hm;replace hg:=hg.k hm;replace b1:=b1.k hm;replace b2:=b2.k hm;replace b3:=b3.k hm;replace n1:=n1.k hm;replace b4:=b4.k hm
  clear hm y0 y1 y2 y3 y4 y5 y6 y7 y8 y9 gG gH iP y13 iQ iR
  go_wp2_with fail;go_ret
  exact⟨hm0,by rw[HA.out,HM.out];rfl⟩
 | true =>
 obtain⟨y0,y1,y2,y3,y4,y5,y6,y7,y8,y9⟩:=sL b1
 obtain⟨gG,gH,iP,y13,iQ,iR,tF,tH,zA,zB⟩:=sL b3
 go_wp2_with fail
 refine (Ed hl hg (by omega)).mono ?_
 rintro e w2 ⟨hm,z2,rfl,n2⟩
 replace hm0:=hm0.trans hm;replace hl:=hl.k hm;replace ho:=ho.k hm;replace hg:=hg.k hm;replace b1:=b1.k hm;replace b2:=b2.k hm;replace b3:=b3.k hm;replace n1:=n1.k hm;replace b4:=b4.k hm
 clear hm y0 y1 y2 y3 y4 y5 y6 y7 y8 y9 gG gH iP y13 iQ iR tF tH zA zB
 have e2:w.heap.size+1≠w1.heap.size:=E2
 generalize jf r u=B2 at *
 obtain⟨r0,r1,r2,r3,r4,r5⟩:=vP b4
 have f0:=b4.fz 0;have f1:=b4.fz 1;have f2:=b4.fz 2;have f3:=b4.fz 3;have f4:=b4.fz 4;have f5:=b4.fz 5
 cases B2 with
 | true =>
  have fT:Mod (fun _=>False) w ((((((w2.setCell ⟨w1.heap.size,0,none⟩ (.bool z2.x.b)).setCell ⟨w1.heap.size,1,none⟩ (.slice z2.x.a z2.x.n z2.x.c)).setCell ⟨w1.heap.size,2,none⟩ (.bool z2.y.b)).setCell ⟨w1.heap.size,3,none⟩ (.slice z2.y.a z2.y.n z2.y.c)).setCell ⟨w1.heap.size,4,none⟩ (.bool z2.w.b)).setCell ⟨w1.heap.size,5,none⟩ (.slice z2.w.a z2.w.n z2.w.c)):=(Mod.sets (i:=0) (vs:=[.bool z2.x.b,.slice z2.x.a z2.x.n z2.x.c,.bool z2.y.b,.slice z2.y.a z2.y.n z2.y.c,.bool z2.w.b,.slice z2.w.a z2.w.n z2.w.c]) (k:=w1.heap.size) (hm0.mono (q:=fun i=>w.heap.size<=i) (fun _ _ f=>f.elim)) (fun _=>hL)).mono (fun i hi h=>by omega)
  go_wp2_with fail;go_ret;exact⟨fT,by rw[HA.out];rfl⟩
 | false =>
 have c4:Bk ((((((w2.setCell ⟨w1.heap.size,0,none⟩ (.bool z2.x.b)).setCell ⟨w1.heap.size,1,none⟩ (.slice z2.x.a z2.x.n z2.x.c)).setCell ⟨w1.heap.size,2,none⟩ (.bool z2.y.b)).setCell ⟨w1.heap.size,3,none⟩ (.slice z2.y.a z2.y.n z2.y.c)).setCell ⟨w1.heap.size,4,none⟩ (.bool z2.w.b)).setCell ⟨w1.heap.size,5,none⟩ (.slice z2.w.a z2.w.n z2.w.c)) w1.heap.size #[.bool z2.x.b,.slice z2.x.a z2.x.n z2.x.c,.bool z2.y.b,.slice z2.y.a z2.y.n z2.y.c,.bool z2.w.b,.slice z2.w.a z2.w.n z2.w.c] 165:=abG b4 (.bool z2.x.b) (.slice z2.x.a z2.x.n z2.x.c) (.bool z2.y.b) (.slice z2.y.a z2.y.n z2.y.c) (.bool z2.w.b) (.slice z2.w.a z2.w.n z2.w.c)
 have c2:=((((((b2.o e2 0 (.bool z2.x.b)).o e2 1 (.slice z2.x.a z2.x.n z2.x.c)).o e2 2 (.bool z2.y.b)).o e2 3 (.slice z2.y.a z2.y.n z2.y.c)).o e2 4 (.bool z2.w.b)).o e2 5 (.slice z2.w.a z2.w.n z2.w.c))
 have n3:PI ((((((w2.setCell ⟨w1.heap.size,0,none⟩ (.bool z2.x.b)).setCell ⟨w1.heap.size,1,none⟩ (.slice z2.x.a z2.x.n z2.x.c)).setCell ⟨w1.heap.size,2,none⟩ (.bool z2.y.b)).setCell ⟨w1.heap.size,3,none⟩ (.slice z2.y.a z2.y.n z2.y.c)).setCell ⟨w1.heap.size,4,none⟩ (.bool z2.w.b)).setCell ⟨w1.heap.size,5,none⟩ (.slice z2.w.a z2.w.n z2.w.c)) z2 (uH r u) _:=n2.aL b4 (by decide) 0 [.bool z2.x.b,.slice z2.x.a z2.x.n z2.x.c,.bool z2.y.b,.slice z2.y.a z2.y.n z2.y.c,.bool z2.w.b,.slice z2.w.a z2.w.n z2.w.c]
 have ho2:LI ((((((w2.setCell ⟨w1.heap.size,0,none⟩ (.bool z2.x.b)).setCell ⟨w1.heap.size,1,none⟩ (.slice z2.x.a z2.x.n z2.x.c)).setCell ⟨w1.heap.size,2,none⟩ (.bool z2.y.b)).setCell ⟨w1.heap.size,3,none⟩ (.slice z2.y.a z2.y.n z2.y.c)).setCell ⟨w1.heap.size,4,none⟩ (.bool z2.w.b)).setCell ⟨w1.heap.size,5,none⟩ (.slice z2.w.a z2.w.n z2.w.c)) o s m m:=ho.aL b4 (by decide) 0 [.bool z2.x.b,.slice z2.x.a z2.x.n z2.x.c,.bool z2.y.b,.slice z2.y.a z2.y.n z2.y.c,.bool z2.w.b,.slice z2.w.a z2.w.n z2.w.c]
 have fT:Mod (fun _=>False) w ((((((w2.setCell ⟨w1.heap.size,0,none⟩ (.bool z2.x.b)).setCell ⟨w1.heap.size,1,none⟩ (.slice z2.x.a z2.x.n z2.x.c)).setCell ⟨w1.heap.size,2,none⟩ (.bool z2.y.b)).setCell ⟨w1.heap.size,3,none⟩ (.slice z2.y.a z2.y.n z2.y.c)).setCell ⟨w1.heap.size,4,none⟩ (.bool z2.w.b)).setCell ⟨w1.heap.size,5,none⟩ (.slice z2.w.a z2.w.n z2.w.c)):=(Mod.sets (i:=0) (vs:=[.bool z2.x.b,.slice z2.x.a z2.x.n z2.x.c,.bool z2.y.b,.slice z2.y.a z2.y.n z2.y.c,.bool z2.w.b,.slice z2.w.a z2.w.n z2.w.c]) (k:=w1.heap.size) (hm0.mono (q:=fun i=>w.heap.size<=i) (fun _ _ f=>f.elim)) (fun _=>hL)).mono (fun i hi h=>by omega)
 obtain⟨y0,y1,y2,y3,y4,y5⟩:=vP c4
 obtain⟨y6,y7,y8,y9,gG,gH,iP,y13,iQ,iR⟩:=vL c2
 clear hl ho hg b1 b2 b3 n1 b4 n2 c4 c2
 go_wp2_with fail
 refine (YU n3 ho2 (by omega)).mono ?_
 rintro e w3 ⟨hm,rfl⟩
 clear y0 y1 y2 y3 y4 y5 y6 y7 y8 y9 gG gH iP y13 iQ iR
 go_wp2_with fail;go_ret
 exact⟨fT.trans hm,by rw[HA.out,HN.out];rfl⟩
theorem VT {w:World} {p q r y:PV} {t s v x:T3} {m:Nat} (hp:PI w p t m) (hq:PI w q s m) (hr:PI w r v m) (hy:PI w y x m) (h:24*m<=900000000):Calls Tryz.prog 160 #[p.v,q.v,r.v,y.v] w (pR w (Kn t s v x)):=by
 obtain⟨hm0,b1,b2,b3,b4⟩:=Uk w p.r q.r r.r y.r 165 165 165 165
 have lp:=hp.x.lo
 have lq:=hq.x.lo
 have lr:=hr.x.lo
 have ly:=hy.x.lo
 replace hp:=hp.k hm0
 replace hq:=hq.k hm0
 replace hr:=hr.k hm0
 replace hy:=hy.k hm0
 go_in
 go_wp2_with fail
 generalize ((((w.alloc (.cells p.r 165)).alloc (.cells q.r 165)).alloc (.cells r.r 165)).alloc (.cells y.r 165))=W at *
 have HA:Hid (Kn t s v x=if cB t s || cB t v || cB t x || cB s v || cB s x || cB v x then true else if iY t s v || iY t s x || iY t v x || iY s v x then iY t s v && iY t s x else O1 (nH t s v) t x):=rfl
 refine (mU hp hq (by omega)).mono ?_
 rintro e w1 ⟨hm,rfl⟩
 replace hm0:=hm0.trans hm;replace hp:=hp.k hm;replace hq:=hq.k hm;replace hr:=hr.k hm;replace hy:=hy.k hm;replace b1:=b1.k hm;replace b2:=b2.k hm;replace b3:=b3.k hm;replace b4:=b4.k hm
 clear hm
 generalize cB t s=B0 at *;cases B0 with
 | true=>(go_wp2_with fail;go_ret;exact⟨hm0,by rw[HA.out];rfl⟩)
 | false =>
 obtain⟨y0,y1,y2,y3,y4,y5⟩:=sP b1
 obtain⟨y6,y7,y8,y9,gG,gH⟩:=sP b2
 obtain⟨iP,y13,iQ,iR,tF,tH⟩:=sP b3
 obtain⟨zA,zB,y20,y21,y22,y23⟩:=sP b4
 go_wp2_with fail
 refine (mU hp hr (by omega)).mono ?_
 rintro e w2 ⟨hm,rfl⟩
 replace hm0:=hm0.trans hm;replace hp:=hp.k hm;replace hq:=hq.k hm;replace hr:=hr.k hm;replace hy:=hy.k hm;replace b1:=b1.k hm;replace b2:=b2.k hm;replace b3:=b3.k hm;replace b4:=b4.k hm
 clear hm y0 y1 y2 y3 y4 y5 y6 y7 y8 y9 gG gH iP y13 iQ iR tF tH zA zB y20 y21 y22 y23
 generalize cB t v=B1 at *;cases B1 with
 | true=>(go_wp2_with fail;go_ret;exact⟨hm0,by rw[HA.out];rfl⟩)
 | false =>
 obtain⟨y0,y1,y2,y3,y4,y5⟩:=sP b1
 obtain⟨y6,y7,y8,y9,gG,gH⟩:=sP b2
 obtain⟨iP,y13,iQ,iR,tF,tH⟩:=sP b3
 obtain⟨zA,zB,y20,y21,y22,y23⟩:=sP b4
 go_wp2_with fail
 refine (mU hp hy (by omega)).mono ?_
 rintro e w3 ⟨hm,rfl⟩
 replace hm0:=hm0.trans hm;replace hp:=hp.k hm;replace hq:=hq.k hm;replace hr:=hr.k hm;replace hy:=hy.k hm;replace b1:=b1.k hm;replace b2:=b2.k hm;replace b3:=b3.k hm;replace b4:=b4.k hm
 clear hm y0 y1 y2 y3 y4 y5 y6 y7 y8 y9 gG gH iP y13 iQ iR tF tH zA zB y20 y21 y22 y23
 generalize cB t x=B2 at *;cases B2 with
 | true=>(go_wp2_with fail;go_ret;exact⟨hm0,by rw[HA.out];rfl⟩)
 | false =>
 obtain⟨y0,y1,y2,y3,y4,y5⟩:=sP b1
 obtain⟨y6,y7,y8,y9,gG,gH⟩:=sP b2
 obtain⟨iP,y13,iQ,iR,tF,tH⟩:=sP b3
 obtain⟨zA,zB,y20,y21,y22,y23⟩:=sP b4
 go_wp2_with fail
 refine (mU hq hr (by omega)).mono ?_
 rintro e w4 ⟨hm,rfl⟩
 replace hm0:=hm0.trans hm;replace hp:=hp.k hm;replace hq:=hq.k hm;replace hr:=hr.k hm;replace hy:=hy.k hm;replace b1:=b1.k hm;replace b2:=b2.k hm;replace b3:=b3.k hm;replace b4:=b4.k hm
 clear hm y0 y1 y2 y3 y4 y5 y6 y7 y8 y9 gG gH iP y13 iQ iR tF tH zA zB y20 y21 y22 y23
 generalize cB s v=B3 at *;cases B3 with
 | true=>(go_wp2_with fail;go_ret;exact⟨hm0,by rw[HA.out];rfl⟩)
 | false =>
 obtain⟨y0,y1,y2,y3,y4,y5⟩:=sP b1
 obtain⟨y6,y7,y8,y9,gG,gH⟩:=sP b2
 obtain⟨iP,y13,iQ,iR,tF,tH⟩:=sP b3
 obtain⟨zA,zB,y20,y21,y22,y23⟩:=sP b4
 go_wp2_with fail
 refine (mU hq hy (by omega)).mono ?_
 rintro e w5 ⟨hm,rfl⟩
 replace hm0:=hm0.trans hm;replace hp:=hp.k hm;replace hq:=hq.k hm;replace hr:=hr.k hm;replace hy:=hy.k hm;replace b1:=b1.k hm;replace b2:=b2.k hm;replace b3:=b3.k hm;replace b4:=b4.k hm
 clear hm y0 y1 y2 y3 y4 y5 y6 y7 y8 y9 gG gH iP y13 iQ iR tF tH zA zB y20 y21 y22 y23
 generalize cB s x=B4 at *;cases B4 with
 | true=>(go_wp2_with fail;go_ret;exact⟨hm0,by rw[HA.out];rfl⟩)
 | false =>
 obtain⟨y0,y1,y2,y3,y4,y5⟩:=sP b1
 obtain⟨y6,y7,y8,y9,gG,gH⟩:=sP b2
 obtain⟨iP,y13,iQ,iR,tF,tH⟩:=sP b3
 obtain⟨zA,zB,y20,y21,y22,y23⟩:=sP b4
 go_wp2_with fail
 refine (mU hr hy (by omega)).mono ?_
 rintro e w6 ⟨hm,rfl⟩
 replace hm0:=hm0.trans hm;replace hp:=hp.k hm;replace hq:=hq.k hm;replace hr:=hr.k hm;replace hy:=hy.k hm;replace b1:=b1.k hm;replace b2:=b2.k hm;replace b3:=b3.k hm;replace b4:=b4.k hm
 clear hm y0 y1 y2 y3 y4 y5 y6 y7 y8 y9 gG gH iP y13 iQ iR tF tH zA zB y20 y21 y22 y23
 generalize cB v x=B5 at *;cases B5 with
 | true=>(go_wp2_with fail;go_ret;exact⟨hm0,by rw[HA.out];rfl⟩)
 | false =>
 obtain⟨y0,y1,y2,y3,y4,y5⟩:=sP b1
 obtain⟨y6,y7,y8,y9,gG,gH⟩:=sP b2
 obtain⟨iP,y13,iQ,iR,tF,tH⟩:=sP b3
 obtain⟨zA,zB,y20,y21,y22,y23⟩:=sP b4
 go_wp2_with fail
 refine (jV hp hq hr (by omega)).mono ?_
 rintro e u1 ⟨hm,rfl⟩
 replace hm0:=hm0.trans hm;replace hp:=hp.k hm;replace hq:=hq.k hm;replace hr:=hr.k hm;replace hy:=hy.k hm;replace b1:=b1.k hm;replace b2:=b2.k hm;replace b3:=b3.k hm;replace b4:=b4.k hm
 clear hm y0 y1 y2 y3 y4 y5 y6 y7 y8 y9 gG gH iP y13 iQ iR tF tH zA zB y20 y21 y22 y23
 generalize iY t s v=C1 at *
 obtain⟨y0,y1,y2,y3,y4,y5⟩:=sP b1
 obtain⟨y6,y7,y8,y9,gG,gH⟩:=sP b2
 obtain⟨iP,y13,iQ,iR,tF,tH⟩:=sP b3
 obtain⟨zA,zB,y20,y21,y22,y23⟩:=sP b4
 go_wp2_with fail
 refine (jV hp hq hy (by omega)).mono ?_
 rintro e u2 ⟨hm,rfl⟩
 replace hm0:=hm0.trans hm;replace hp:=hp.k hm;replace hq:=hq.k hm;replace hr:=hr.k hm;replace hy:=hy.k hm;replace b1:=b1.k hm;replace b2:=b2.k hm;replace b3:=b3.k hm;replace b4:=b4.k hm
 clear hm y0 y1 y2 y3 y4 y5 y6 y7 y8 y9 gG gH iP y13 iQ iR tF tH zA zB y20 y21 y22 y23
 generalize iY t s x=C2 at *
 obtain⟨y0,y1,y2,y3,y4,y5⟩:=sP b1
 obtain⟨y6,y7,y8,y9,gG,gH⟩:=sP b2
 obtain⟨iP,y13,iQ,iR,tF,tH⟩:=sP b3
 obtain⟨zA,zB,y20,y21,y22,y23⟩:=sP b4
 go_wp2_with fail
 refine (jV hp hr hy (by omega)).mono ?_
 rintro e u3 ⟨hm,rfl⟩
 replace hm0:=hm0.trans hm;replace hp:=hp.k hm;replace hq:=hq.k hm;replace hr:=hr.k hm;replace hy:=hy.k hm;replace b1:=b1.k hm;replace b2:=b2.k hm;replace b3:=b3.k hm;replace b4:=b4.k hm
 clear hm y0 y1 y2 y3 y4 y5 y6 y7 y8 y9 gG gH iP y13 iQ iR tF tH zA zB y20 y21 y22 y23
 generalize iY t v x=C3 at *
 obtain⟨y0,y1,y2,y3,y4,y5⟩:=sP b1
 obtain⟨y6,y7,y8,y9,gG,gH⟩:=sP b2
 obtain⟨iP,y13,iQ,iR,tF,tH⟩:=sP b3
 obtain⟨zA,zB,y20,y21,y22,y23⟩:=sP b4
 go_wp2_with fail
 refine (jV hq hr hy (by omega)).mono ?_
 rintro e u4 ⟨hm,rfl⟩
 replace hm0:=hm0.trans hm;replace hp:=hp.k hm;replace hq:=hq.k hm;replace hr:=hr.k hm;replace hy:=hy.k hm;replace b1:=b1.k hm;replace b2:=b2.k hm;replace b3:=b3.k hm;replace b4:=b4.k hm
 clear hm y0 y1 y2 y3 y4 y5 y6 y7 y8 y9 gG gH iP y13 iQ iR tF tH zA zB y20 y21 y22 y23
 generalize iY s v x=C4 at *
 cases C1 with
 | true=>cases C2<;>cases C3<;>cases C4<;>(go_wp2_with fail;go_ret;exact⟨hm0,by rw[HA.out];rfl⟩)
 | false =>
 cases C2 with
 | true=>cases C3<;>cases C4<;>(go_wp2_with fail;go_ret;exact⟨hm0,by rw[HA.out];rfl⟩)
 | false =>
 cases C3 with
 | true=>cases C4<;>(go_wp2_with fail;go_ret;exact⟨hm0,by rw[HA.out];rfl⟩)
 | false =>
 cases C4 with
 | true=>(go_wp2_with fail;go_ret;exact⟨hm0,by rw[HA.out];rfl⟩)
 | false =>
 obtain⟨y0,y1,y2,y3,y4,y5⟩:=sP b1
 obtain⟨y6,y7,y8,y9,gG,gH⟩:=sP b2
 obtain⟨iP,y13,iQ,iR,tF,tH⟩:=sP b3
 obtain⟨zA,zB,y20,y21,y22,y23⟩:=sP b4
 go_wp2_with fail
 refine (Fv hp hq hr (by omega)).mono ?_
 rintro e u5 ⟨hm,z1,rfl,n1⟩
 replace hm0:=hm0.trans hm;replace hp:=hp.k hm;replace hq:=hq.k hm;replace hr:=hr.k hm;replace hy:=hy.k hm;replace b1:=b1.k hm;replace b2:=b2.k hm;replace b3:=b3.k hm;replace b4:=b4.k hm
 clear hm y0 y1 y2 y3 y4 y5 y6 y7 y8 y9 gG gH iP y13 iQ iR tF tH zA zB y20 y21 y22 y23
 have yP:Mod (fun _=>False) u5 (u5.alloc (.cells #[.bool z1.x.b,.slice z1.x.a z1.x.n z1.x.c,.bool z1.y.b,.slice z1.y.a z1.y.n z1.y.c,.bool z1.w.b,.slice z1.w.a z1.w.n z1.w.c] 165)):=(Mod.refl _ u5).alloc _
 have b5:=aQ u5 #[.bool z1.x.b,.slice z1.x.a z1.x.n z1.x.c,.bool z1.y.b,.slice z1.y.a z1.y.n z1.y.c,.bool z1.w.b,.slice z1.w.a z1.w.n z1.w.c] 165
 replace hm0:=hm0.trans yP;replace hp:=hp.k yP;replace hq:=hq.k yP;replace hr:=hr.k yP;replace hy:=hy.k yP;replace b1:=b1.k yP;replace b2:=b2.k yP;replace b3:=b3.k yP;replace b4:=b4.k yP;replace n1:=n1.k yP
 clear yP
 obtain⟨y0,y1,y2,y3,y4,y5⟩:=sP b5
 obtain⟨y6,y7,y8,y9,gG,gH⟩:=sP b1
 obtain⟨iP,y13,iQ,iR,tF,tH⟩:=sP b2
 obtain⟨zA,zB,y20,y21,y22,y23⟩:=sP b3
 obtain⟨y24,y25,y26,y27,y28,y29⟩:=sP b4
 go_wp2_with fail
 refine (TW n1 hp hy (by omega)).mono ?_
 rintro e u6 ⟨hm,rfl⟩
 replace hm0:=hm0.trans hm;replace hp:=hp.k hm;replace hq:=hq.k hm;replace hr:=hr.k hm;replace hy:=hy.k hm;replace b1:=b1.k hm;replace b2:=b2.k hm;replace b3:=b3.k hm;replace b4:=b4.k hm;replace n1:=n1.k hm;replace b5:=b5.k hm
 clear hm y0 y1 y2 y3 y4 y5 y6 y7 y8 y9 gG gH iP y13 iQ iR tF tH zA zB y20 y21 y22 y23 y24 y25 y26 y27 y28 y29
 (go_wp2_with fail;go_ret;exact⟨hm0,by rw[HA.out];rfl⟩)
end Go.Proofs.YtmnfndpbblpjiabGreatDoor

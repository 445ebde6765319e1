/- The document's plane: a point with w above nought, a line's direction, is it nought, are two points one. -/
import Derived.Test.YtmnfndpbblpjiabGreatDoorZx30
set_option maxHeartbeats 3200000
set_option maxRecDepth 100000
namespace Go.Proofs.YtmnfndpbblpjiabGreatDoor
open Go.RowKit Pu
theorem VH {w:World} {x y:NV} {va:Option Addr} {vn vc:Nat} {i j l:Int} {a b c k:Nat} (hx:NI w x i a) (hy:NI w y j b) (hv:NI w ⟨true,va,vn,vc⟩ l c) (h:k<=1000000000) (h2:a<=k) (h3:b<=k) (h4:c<=k):Calls Tryz.prog 189 #[x.v,y.v,.agg #[.bool true,.slice va vn vc]] w (xG w ⟨-i,-j,-l⟩ k):=by
 obtain⟨hm0,b1,b2,b3,b4⟩:=Uk w x.r y.r #[.bool true,.slice va vn vc] #[.bool false,.slice none 0 0,.bool false,.slice none 0 0,.bool false,.slice none 0 0] 154 154 154 165
 have lx:=hx.lo
 have ly:=hy.lo
 have lv:=hv.lo
 replace hx:=hx.k hm0
 replace hy:=hy.k hm0
 replace hv:=hv.k hm0
 go_in
 go_wp2_with fail
 generalize ((((w.alloc (.cells x.r 154)).alloc (.cells y.r 154)).alloc (.cells #[.bool true,.slice va vn vc] 154)).alloc (.cells #[.bool false,.slice none 0 0,.bool false,.slice none 0 0,.bool false,.slice none 0 0] 165))=W at *
 have hT:=zI (sN b1) (zI (sN b2) (sN (x:=⟨true,va,vn,vc⟩) b3))
 have hdw:Mod (fun _=>False) W W.drew:=(Mod.refl _ W).drew
 replace hm0:=hm0.trans hdw
 replace hx:=hx.k hdw;replace hy:=hy.k hdw;replace hv:=hv.k hdw;replace b1:=b1.k hdw;replace b2:=b2.k hdw;replace b3:=b3.k hdw;replace b4:=b4.k hdw
 clear hdw
 have hS:=zI (sN b1) (zI (sN b2) (sN (x:=⟨true,va,vn,vc⟩) b3))
 go_region_held3 (fun w'=>BN (w.heap.size) x w'/\BN (w.heap.size+1) y w'/\BN (w.heap.size+1+1) ⟨true,va,vn,vc⟩ w')
  (first | with_reducible exact hS | with_reducible exact hC | with_reducible exact hT)
  (first
   | (go_at_call 168;(fail_if_success have _e:=n3);have _d:=n2;refine (show Calls Tryz.prog 168 #[.agg #[.bool true,.slice va vn vc]] w2 (uq w2 (-l) c) from xY (x:=⟨true,va,vn,vc⟩) hv (by omega)).mono ?_;rintro e w3 ⟨hm,z3,rfl,n3⟩;replace hm0:=hm0.trans hm;replace hx:=hx.k hm;replace hy:=hy.k hm;replace hv:=hv.k hm;replace b1:=b1.k hm;replace b2:=b2.k hm;replace b3:=b3.k hm;replace b4:=b4.k hm;replace n1:=n1.k hm;replace n2:=n2.k hm;clear hm hS;have hS:=zI (sN b1) (zI (sN b2) (sN (x:=⟨true,va,vn,vc⟩) b3));have r0:=b4.c 0;have f0:=b4.fz 0;have r1:=b4.c 1;have f1:=b4.fz 1;have r2:=b4.c 2;have f2:=b4.fz 2;have r3:=b4.c 3;have f3:=b4.fz 3;have r4:=b4.c 4;have f4:=b4.fz 4;have r5:=b4.c 5;have f5:=b4.fz 5;have hC:=zI (sN ((((((b1.o (c:=w.heap.size+1+1+1) (by omega) 0 (.bool z1.b)).o (c:=w.heap.size+1+1+1) (by omega) 1 (.slice z1.a z1.n z1.c)).o (c:=w.heap.size+1+1+1) (by omega) 2 (.bool z2.b)).o (c:=w.heap.size+1+1+1) (by omega) 3 (.slice z2.a z2.n z2.c)).o (c:=w.heap.size+1+1+1) (by omega) 4 (.bool z3.b)).o (c:=w.heap.size+1+1+1) (by omega) 5 (.slice z3.a z3.n z3.c))) (zI (sN ((((((b2.o (c:=w.heap.size+1+1+1) (by omega) 0 (.bool z1.b)).o (c:=w.heap.size+1+1+1) (by omega) 1 (.slice z1.a z1.n z1.c)).o (c:=w.heap.size+1+1+1) (by omega) 2 (.bool z2.b)).o (c:=w.heap.size+1+1+1) (by omega) 3 (.slice z2.a z2.n z2.c)).o (c:=w.heap.size+1+1+1) (by omega) 4 (.bool z3.b)).o (c:=w.heap.size+1+1+1) (by omega) 5 (.slice z3.a z3.n z3.c))) (sN (x:=⟨true,va,vn,vc⟩) ((((((b3.o (c:=w.heap.size+1+1+1) (by omega) 0 (.bool z1.b)).o (c:=w.heap.size+1+1+1) (by omega) 1 (.slice z1.a z1.n z1.c)).o (c:=w.heap.size+1+1+1) (by omega) 2 (.bool z2.b)).o (c:=w.heap.size+1+1+1) (by omega) 3 (.slice z2.a z2.n z2.c)).o (c:=w.heap.size+1+1+1) (by omega) 4 (.bool z3.b)).o (c:=w.heap.size+1+1+1) (by omega) 5 (.slice z3.a z3.n z3.c)))))
   | (go_at_call 168;(fail_if_success have _e:=n2);have _d:=n1;refine (xY hy (by omega)).mono ?_;rintro e w2 ⟨hm,z2,rfl,n2⟩;replace hm0:=hm0.trans hm;replace hx:=hx.k hm;replace hy:=hy.k hm;replace hv:=hv.k hm;replace b1:=b1.k hm;replace b2:=b2.k hm;replace b3:=b3.k hm;replace b4:=b4.k hm;replace n1:=n1.k hm;clear hm hS;have hS:=zI (sN b1) (zI (sN b2) (sN (x:=⟨true,va,vn,vc⟩) b3)))
   | (go_at_call 168;(fail_if_success have _e:=n1);refine (xY hx (by omega)).mono ?_;rintro e w1 ⟨hm,z1,rfl,n1⟩;replace hm0:=hm0.trans hm;replace hx:=hx.k hm;replace hy:=hy.k hm;replace hv:=hv.k hm;replace b1:=b1.k hm;replace b2:=b2.k hm;replace b3:=b3.k hm;replace b4:=b4.k hm;clear hm hS;have hS:=zI (sN b1) (zI (sN b2) (sN (x:=⟨true,va,vn,vc⟩) b3))))
 have q:=((((((b4.set 0 (.bool z1.b)).set 1 (.slice z1.a z1.n z1.c)).set 2 (.bool z2.b)).set 3 (.slice z2.a z2.n z2.c)).set 4 (.bool z3.b)).set 5 (.slice z3.a z3.n z3.c))
 have q0:=q.c 0
 have q1:=q.c 1
 have q2:=q.c 2
 have q3:=q.c 3
 have q4:=q.c 4
 have q5:=q.c 5
 have fT:Mod (fun _=>False) w ((((((w3.setCell ⟨w.heap.size+1+1+1,0,none⟩ (.bool z1.b)).setCell ⟨w.heap.size+1+1+1,1,none⟩ (.slice z1.a z1.n z1.c)).setCell ⟨w.heap.size+1+1+1,2,none⟩ (.bool z2.b)).setCell ⟨w.heap.size+1+1+1,3,none⟩ (.slice z2.a z2.n z2.c)).setCell ⟨w.heap.size+1+1+1,4,none⟩ (.bool z3.b)).setCell ⟨w.heap.size+1+1+1,5,none⟩ (.slice z3.a z3.n z3.c)):=((hm0.mono (q:=fun i=>i=w.heap.size+1+1+1) (fun _ _ f=>f.elim)).trans (((((((Mod.refl (fun i=>i=w.heap.size+1+1+1) w3).setCell ⟨w.heap.size+1+1+1,0,none⟩ (.bool z1.b) (fun _=>rfl)).setCell ⟨w.heap.size+1+1+1,1,none⟩ (.slice z1.a z1.n z1.c) (fun _=>rfl)).setCell ⟨w.heap.size+1+1+1,2,none⟩ (.bool z2.b) (fun _=>rfl)).setCell ⟨w.heap.size+1+1+1,3,none⟩ (.slice z2.a z2.n z2.c) (fun _=>rfl)).setCell ⟨w.heap.size+1+1+1,4,none⟩ (.bool z3.b) (fun _=>rfl)).setCell ⟨w.heap.size+1+1+1,5,none⟩ (.slice z3.a z3.n z3.c) (fun _=>rfl))).mono (fun i hi h=>by omega)
 have fP:Hid _:=(show xG w ⟨-i,-j,-l⟩ k (.returned (PV.v ⟨z1,z2,z3⟩)) ((((((w3.setCell ⟨w.heap.size+1+1+1,0,none⟩ (.bool z1.b)).setCell ⟨w.heap.size+1+1+1,1,none⟩ (.slice z1.a z1.n z1.c)).setCell ⟨w.heap.size+1+1+1,2,none⟩ (.bool z2.b)).setCell ⟨w.heap.size+1+1+1,3,none⟩ (.slice z2.a z2.n z2.c)).setCell ⟨w.heap.size+1+1+1,4,none⟩ (.bool z3.b)).setCell ⟨w.heap.size+1+1+1,5,none⟩ (.slice z3.a z3.n z3.c)) from ⟨fT,⟨z1,z2,z3⟩,rfl,⟨((n1.aL b4 (by decide) 0 [.bool z1.b,.slice z1.a z1.n z1.c,.bool z2.b,.slice z2.a z2.n z2.c,.bool z3.b,.slice z3.a z3.n z3.c])).up h2,((n2.aL b4 (by decide) 0 [.bool z1.b,.slice z1.a z1.n z1.c,.bool z2.b,.slice z2.a z2.n z2.c,.bool z3.b,.slice z3.a z3.n z3.c])).up h3,((n3.aL b4 (by decide) 0 [.bool z1.b,.slice z1.a z1.n z1.c,.bool z2.b,.slice z2.a z2.n z2.c,.bool z3.b,.slice z3.a z3.n z3.c])).up h4⟩⟩)
 clear hS hC hT q hx hy hv b1 b2 b3 b4 n1 n2 n3
 go_wp2
 exact bodyPost_ret (by simp[results,Tryz.results189,go_sem,q0,q1,q2,q3,q4,q5]) rfl fP.out
theorem VG {w:World} {x y:NV} {va:Option Addr} {vn vc:Nat} {i j l:Int} {a b c k:Nat} (hx:NI w x i a) (hy:NI w y j b) (hv:NI w ⟨false,va,vn,vc⟩ l c) (h2:a<=k) (h3:b<=k) (h4:c<=k):Calls Tryz.prog 189 #[x.v,y.v,.agg #[.bool false,.slice va vn vc]] w (xG w ⟨i,j,l⟩ k):=by
 obtain⟨hm0,-⟩:=Uk w #[.bool x.b,.slice x.a x.n x.c] #[.bool y.b,.slice y.a y.n y.c] #[.bool false,.slice va vn vc] #[.bool x.b,.slice x.a x.n x.c,.bool y.b,.slice y.a y.n y.c,.bool false,.slice va vn vc] 154 154 154 165
 have fP:Hid (xG w ⟨i,j,l⟩ k (.returned (PV.v ⟨x,y,⟨false,va,vn,vc⟩⟩)) _):=⟨hm0,⟨x,y,⟨false,va,vn,vc⟩⟩,rfl,⟨(hx.k hm0).up h2,(hy.k hm0).up h3,(hv.k hm0).up h4⟩⟩
 clear hx hy hv hm0
 go_in
 go_wp2
 exact bodyPost_ret (by simp[results,Tryz.results189,go_sem]) rfl fP.out
theorem Li {w:World} {x y v:NV} {i j l:Int} {a b c k:Nat} (hx:NI w x i a) (hy:NI w y j b) (hv:NI w v l c) (h:k<=1000000000) (h2:a<=k) (h3:b<=k) (h4:c<=k):Calls Tryz.prog 189 #[x.v,y.v,v.v] w (xG w (jE ⟨i,j,l⟩) k):=by
 have hn:=hv.neg
 obtain⟨vb,va,vn,vc⟩:=v
 cases vb with
 | true =>
  have e:jE ⟨i,j,l⟩=⟨-i,-j,-l⟩:=by unfold jE;rw[if_pos (hn.1 rfl)]
  rw[e];exact VH hx hy hv h h2 h3 h4
 | false =>
  have e:jE ⟨i,j,l⟩=⟨i,j,l⟩:=by unfold jE;rw[if_neg (fun k=>by have:=hn.2 k;cases this)]
  rw[e];exact VG hx hy hv h2 h3 h4
theorem oK {w:World} {l:LV} {r:RL} {m d:Nat} (hl:LI w l r m d):Calls Tryz.prog 165 #[l.v] w (TU w r.d d):=by
 obtain⟨hm0,-⟩:=zm w #[.bool l.p.x.b,.slice l.p.x.a l.p.x.n l.p.x.c,.bool l.p.y.b,.slice l.p.y.a l.p.y.n l.p.y.c,.bool l.p.w.b,.slice l.p.w.a l.p.w.n l.p.w.c,.bool l.x.b,.slice l.x.a l.x.n l.x.c,.bool l.y.b,.slice l.y.a l.y.n l.y.c] #[.bool l.x.b,.slice l.x.a l.x.n l.x.c,.bool l.y.b,.slice l.y.a l.y.n l.y.c] 167 206
 have fP:Hid (TU w r.d d (.returned (VV.v ⟨l.x,l.y⟩)) _):=⟨hm0,⟨l.x,l.y⟩,rfl,⟨hl.x.k hm0,hl.y.k hm0⟩⟩
 clear hl hm0
 go_in
 go_wp2
 exact bodyPost_ret (by simp[results,Tryz.results165,go_sem]) rfl fP.out
theorem VY (i:Int):(jF i == 0)=decide (i=0):=by
 unfold jF
 by_cases h:i < 0
 ·rw[if_pos h];simp;omega
 ·rw[if_neg h];by_cases h0:i=0<;>simp[h0]
theorem tJ {w:World} {x:NV} {i:Int} {m:Nat} (hx:NI w x i m) (h:m<=1000000000):Calls Tryz.prog 163 #[x.v] w (pR w (decide (i=0))):=by
 have hm0:Mod (fun _=>False) w (w.alloc (.cells #[.bool x.b,.slice x.a x.n x.c] 154)):=(Mod.refl _ w).alloc _
 have HZ:Hid ((jF i == 0)=decide (i=0)):=VY i
 go_in
 go_wp2_with (go_at_call 107;refine (EC (hx.k hm0) h).mono ?_;rintro e w1 ⟨hm,rfl⟩)
 go_ret
 exact⟨hm0.trans hm,by rw[HZ.out];rfl⟩
theorem mU {w:World} {p q:PV} {t s:T3} {m n:Nat} (hp:PI w p t m) (hq:PI w q s n) (h:m+n<=1000000000):Calls Tryz.prog 155 #[p.v,q.v] w (pR w (cB t s)):=by
 obtain⟨hm0,-⟩:=zm w #[.bool p.x.b,.slice p.x.a p.x.n p.x.c,.bool p.y.b,.slice p.y.a p.y.n p.y.c,.bool p.w.b,.slice p.w.a p.w.n p.w.c] #[.bool q.x.b,.slice q.x.a q.x.n q.x.c,.bool q.y.b,.slice q.y.a q.y.n q.y.c,.bool q.w.b,.slice q.w.a q.w.n q.w.c] 165 165
 have lp:=hp.x.lo
 replace hp:=hp.k hm0
 replace hq:=hq.k hm0
 go_in
 go_wp2_with (go_at_call 158;refine (kr hp hq h).mono ?_;rintro e w1 ⟨hm1,u,rfl,hu⟩)
 clear hp hq
 have hm2:Mod (fun _=>False) w1 (w1.alloc (.cells #[.bool u.x.b,.slice u.x.a u.x.n u.x.c,.bool u.y.b,.slice u.y.a u.y.n u.y.c] 206)):=(Mod.refl _ _).alloc _
 have b:=aQ w1 #[.bool u.x.b,.slice u.x.a u.x.n u.x.c,.bool u.y.b,.slice u.y.a u.y.n u.y.c] 206
 replace hm0:=(hm0.trans hm1).trans hm2
 replace hu:=hu.k hm2
 clear hm1 hm2
 generalize w1.alloc (.cells #[.bool u.x.b,.slice u.x.a u.x.n u.x.c,.bool u.y.b,.slice u.y.a u.y.n u.y.c] 206)=W at *
 generalize w1.heap.size=kb at *
 have HS:Hid (cB t s=(decide ((iU t s).x=0) && decide ((iU t s).y=0))):=rfl
 refine (tJ hu.x (by omega)).mono ?_
 rintro e w2 ⟨hm,rfl⟩
 replace hu:=hu.k hm
 replace b:=b.k hm
 replace hm0:=hm0.trans hm
 have y2:w2.cell? ⟨kb,2,none⟩=some (.bool u.y.b):=b.c 2
 have y3:w2.cell? ⟨kb,3,none⟩=some (.slice u.y.a u.y.n u.y.c):=b.c 3
 clear hm b
 generalize decide ((iU t s).x=0)=B1 at *
 cases B1 with
 | false =>
  go_wp2
  go_ret
  exact⟨hm0,by rw[HS.out];rfl⟩
 | true =>
  go_wp2_with (go_at_call 163;refine (tJ hu.y (by omega)).mono ?_;rintro e w3 ⟨hm,rfl⟩)
  go_ret
  exact⟨hm0.trans hm,by rw[HS.out];rfl⟩
end Go.Proofs.YtmnfndpbblpjiabGreatDoor

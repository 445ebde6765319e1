/- The document's plane: where two lines meet. -/
import Derived.Test.YtmnfndpbblpjiabGreatDoorZx33
set_option maxHeartbeats 3200000
set_option maxRecDepth 100000
namespace Go.Proofs.YtmnfndpbblpjiabGreatDoor
open Go.RowKit Pu
def Pu.uH (l m:RL):T3:=if jf l m then t0 else jE (jW l m)
theorem Ed {w:World} {l o:LV} {r s:RL} {ml md nl nd:Nat} (hl:LI w l r ml md) (ho:LI w o s nl nd) (h:2*ml+nl+md+nd<=900000000):Calls Tryz.prog 169 #[l.v,o.v] w (IW w (uH r s) (!jf r s) (2*ml+nl+md+nd)):=by
 obtain⟨hm0,b1,b2,b3⟩:=zU w l.r o.r #[.bool false,.slice none 0 0,.bool false,.slice none 0 0,.bool false,.slice none 0 0] 167 167 165
 have ll:=hl.p.x.lo;have ll2:=hl.x.lo
 have lo:=ho.p.x.lo;have lo2:=ho.x.lo
 replace hl:=hl.k hm0
 replace ho:=ho.k hm0
 go_in
 go_upto_region 1 with fail
 generalize (((w.alloc (.cells l.r 167)).alloc (.cells o.r 167)).alloc (.cells #[.bool false,.slice none 0 0,.bool false,.slice none 0 0,.bool false,.slice none 0 0] 165))=W at *
 go_cut [6] from 10 (fun sv wc=>∃ (kk:Nat) (zz:VV),sv=.pointer (some ⟨kk,0,none⟩)/\Bk wc kk zz.r 206/\VI wc zz r.d md/\LI wc l r ml md/\LI wc o s nl nd/\Bk wc (w.heap.size) l.r 167/\Bk wc (w.heap.size+1) o.r 167/\Bk wc (w.heap.size+1+1) #[.bool false,.slice none 0 0,.bool false,.slice none 0 0,.bool false,.slice none 0 0] 165/\Mod (fun _=>False) w wc/\w.heap.size≠kk/\w.heap.size+1≠kk/\w.heap.size+1+1≠kk)
 case first =>
  obtain⟨y0,y1,y2,y3,y4,y5,y6,y7,y8,y9⟩:=sL b1
  go_wp2_with (first
    | (go_at_call 165;(fail_if_success have _e:=n1);refine (oK hl).mono ?_;rintro e w1 ⟨hm,z1,rfl,n1⟩;replace hm0:=hm0.trans hm;replace hl:=hl.k hm;replace ho:=ho.k hm;replace b1:=b1.k hm;replace b2:=b2.k hm;replace b3:=b3.k hm;clear hm))
  clear y0 y1 y2 y3 y4 y5 y6 y7 y8 y9
  go_meet;exact⟨_,z1,rfl,aQ _ _ _,n1.k ((Mod.refl _ _).alloc _),hl.k ((Mod.refl _ _).alloc _),ho.k ((Mod.refl _ _).alloc _),b1.k ((Mod.refl _ _).alloc _),b2.k ((Mod.refl _ _).alloc _),b3.k ((Mod.refl _ _).alloc _),hm0.trans ((Mod.refl _ _).alloc _),b1.ne,b2.ne,b3.ne⟩
 case rest =>
 clear hm0 hl ho b1 b2 b3
 obtain⟨k4,u,rfl,b4,hu,hl,ho,b1,b2,b3,hm0,Ur,Us,kU⟩:=hcut
 have lu:=hu.x.lo
 go_upto_region 2 with fail
 go_cut [7] from 12 (fun sv wc=>∃ (kk:Nat) (zz:VV),sv=.pointer (some ⟨kk,0,none⟩)/\Bk wc kk zz.r 206/\VI wc zz s.d nd/\LI wc l r ml md/\LI wc o s nl nd/\VI wc u r.d md/\Bk wc (w.heap.size) l.r 167/\Bk wc (w.heap.size+1) o.r 167/\Bk wc (w.heap.size+1+1) #[.bool false,.slice none 0 0,.bool false,.slice none 0 0,.bool false,.slice none 0 0] 165/\Bk wc (k4) u.r 206/\Mod (fun _=>False) w wc/\w.heap.size≠kk/\w.heap.size+1≠kk/\w.heap.size+1+1≠kk/\k4≠kk)
 case first =>
  obtain⟨y0,y1,y2,y3,y4,y5,y6,y7,y8,y9⟩:=sL b2
  go_wp2_with (first
    | (go_at_call 165;(fail_if_success have _e:=n1);refine (oK ho).mono ?_;rintro e w1 ⟨hm,z1,rfl,n1⟩;replace hm0:=hm0.trans hm;replace hl:=hl.k hm;replace ho:=ho.k hm;replace hu:=hu.k hm;replace b1:=b1.k hm;replace b2:=b2.k hm;replace b3:=b3.k hm;replace b4:=b4.k hm;clear hm))
  clear y0 y1 y2 y3 y4 y5 y6 y7 y8 y9
  go_meet;exact⟨_,z1,rfl,aQ _ _ _,n1.k ((Mod.refl _ _).alloc _),hl.k ((Mod.refl _ _).alloc _),ho.k ((Mod.refl _ _).alloc _),hu.k ((Mod.refl _ _).alloc _),b1.k ((Mod.refl _ _).alloc _),b2.k ((Mod.refl _ _).alloc _),b3.k ((Mod.refl _ _).alloc _),b4.k ((Mod.refl _ _).alloc _),hm0.trans ((Mod.refl _ _).alloc _),b1.ne,b2.ne,b3.ne,b4.ne⟩
 case rest =>
 clear hm0 hl ho hu b1 b2 b3 b4
 obtain⟨k5,v,rfl,b5,hv,hl,ho,hu,b1,b2,b3,b4,hm0,Px,Py,nI,Pz⟩:=hcut
 have lv:=hv.x.lo
 go_upto_region 3 with fail
 go_cut [8] from 14 (fun sv wc=>∃ (kk:Nat) (zz:NV),sv=.pointer (some ⟨kk,0,none⟩)/\Bk wc kk zz.r 154/\NI wc zz (jK r.d s.d) (md+nd - 4)/\LI wc l r ml md/\LI wc o s nl nd/\VI wc u r.d md/\VI wc v s.d nd/\Bk wc (w.heap.size) l.r 167/\Bk wc (w.heap.size+1) o.r 167/\Bk wc (w.heap.size+1+1) #[.bool false,.slice none 0 0,.bool false,.slice none 0 0,.bool false,.slice none 0 0] 165/\Bk wc (k4) u.r 206/\Bk wc (k5) v.r 206/\Mod (fun _=>False) w wc/\w.heap.size≠kk/\w.heap.size+1≠kk/\w.heap.size+1+1≠kk/\k4≠kk/\k5≠kk)
 case first =>
  obtain⟨y0,y1,y2,y3⟩:=sV b4
  obtain⟨y4,y5,y6,y7⟩:=sV b5
  go_wp2_with (first
    | (go_at_call 157;(fail_if_success have _e:=n1);refine (yK hu hv (by omega)).mono ?_;rintro e w1 ⟨hm,z1,rfl,n1⟩;replace hm0:=hm0.trans hm;replace hl:=hl.k hm;replace ho:=ho.k hm;replace hu:=hu.k hm;replace hv:=hv.k hm;replace b1:=b1.k hm;replace b2:=b2.k hm;replace b3:=b3.k hm;replace b4:=b4.k hm;replace b5:=b5.k hm;clear hm))
  clear y0 y1 y2 y3 y4 y5 y6 y7
  go_meet;exact⟨_,z1,rfl,aQ _ _ _,n1.k ((Mod.refl _ _).alloc _),hl.k ((Mod.refl _ _).alloc _),ho.k ((Mod.refl _ _).alloc _),hu.k ((Mod.refl _ _).alloc _),hv.k ((Mod.refl _ _).alloc _),b1.k ((Mod.refl _ _).alloc _),b2.k ((Mod.refl _ _).alloc _),b3.k ((Mod.refl _ _).alloc _),b4.k ((Mod.refl _ _).alloc _),b5.k ((Mod.refl _ _).alloc _),hm0.trans ((Mod.refl _ _).alloc _),b1.ne,b2.ne,b3.ne,b4.ne,b5.ne⟩
 case rest =>
 clear hm0 hl ho hu hv b1 b2 b3 b4 b5
 obtain⟨k6,d,rfl,b6,hd,hl,ho,hu,hv,b1,b2,b3,b4,b5,hm0,XT,XU,DU,XV,DV⟩:=hcut
 have ld:=hd.lo
 go_upto_region 4 with fail
 obtain⟨y0,y1⟩:=sN b6
 go_wp2_with fail
 refine (tJ hd (by omega)).mono ?_
 rintro e w0 ⟨hm,rfl⟩
 replace hm0:=hm0.trans hm;replace hl:=hl.k hm;replace ho:=ho.k hm;replace hu:=hu.k hm;replace hv:=hv.k hm;replace hd:=hd.k hm;replace b1:=b1.k hm;replace b2:=b2.k hm;replace b3:=b3.k hm;replace b4:=b4.k hm;replace b5:=b5.k hm;replace b6:=b6.k hm
 clear hm y0 y1
 have HB:Hid (jf r s=decide (jK r.d s.d=0)):=rfl
 generalize decide (jK r.d s.d=0)=B at *
 cases B with
 | true =>
  obtain⟨r0,r1,r2,r3,r4,r5⟩:=vP b3
  have f0:=b3.fz 0
  have f1:=b3.fz 1
  have f2:=b3.fz 2
  have f3:=b3.fz 3
  have f4:=b3.fz 4
  have f5:=b3.fz 5
  go_wp2_with fail
  clear r0 f0 r1 f1 r2 f2 r3 f3 r4 f4 r5 f5
  have q:=((((((b3.set 0 (.bool false)).set 1 (.slice none 0 0)).set 2 (.bool false)).set 3 (.slice none 0 0)).set 4 (.bool false)).set 5 (.slice none 0 0))
  have q0:=q.c 0
  have q1:=q.c 1
  have q2:=q.c 2
  have q3:=q.c 3
  have q4:=q.c 4
  have q5:=q.c 5
  have fT:Mod (fun _=>False) w ((((((w0.setCell ⟨w.heap.size+1+1,0,none⟩ (.bool false)).setCell ⟨w.heap.size+1+1,1,none⟩ (.slice none 0 0)).setCell ⟨w.heap.size+1+1,2,none⟩ (.bool false)).setCell ⟨w.heap.size+1+1,3,none⟩ (.slice none 0 0)).setCell ⟨w.heap.size+1+1,4,none⟩ (.bool false)).setCell ⟨w.heap.size+1+1,5,none⟩ (.slice none 0 0)):=((hm0.mono (q:=fun i=>i=w.heap.size+1+1) (fun _ _ f=>f.elim)).trans (((((((Mod.refl (fun i=>i=w.heap.size+1+1) w0).setCell ⟨w.heap.size+1+1,0,none⟩ (.bool false) (fun _=>rfl)).setCell ⟨w.heap.size+1+1,1,none⟩ (.slice none 0 0) (fun _=>rfl)).setCell ⟨w.heap.size+1+1,2,none⟩ (.bool false) (fun _=>rfl)).setCell ⟨w.heap.size+1+1,3,none⟩ (.slice none 0 0) (fun _=>rfl)).setCell ⟨w.heap.size+1+1,4,none⟩ (.bool false) (fun _=>rfl)).setCell ⟨w.heap.size+1+1,5,none⟩ (.slice none 0 0) (fun _=>rfl))).mono (fun i hi h=>by omega)
  have fP:Hid _:=(show IW w (uH r s) (!jf r s) (2*ml+nl+md+nd) (.returned (.tuple #[.agg #[.bool false,.slice none 0 0,.bool false,.slice none 0 0,.bool false,.slice none 0 0],.bool false])) ((((((w0.setCell ⟨w.heap.size+1+1,0,none⟩ (.bool false)).setCell ⟨w.heap.size+1+1,1,none⟩ (.slice none 0 0)).setCell ⟨w.heap.size+1+1,2,none⟩ (.bool false)).setCell ⟨w.heap.size+1+1,3,none⟩ (.slice none 0 0)).setCell ⟨w.heap.size+1+1,4,none⟩ (.bool false)).setCell ⟨w.heap.size+1+1,5,none⟩ (.slice none 0 0)) from by rw[uH,HB.out];exact⟨fT,⟨⟨false,none,0,0⟩,⟨false,none,0,0⟩,⟨false,none,0,0⟩⟩,rfl,PI.zero _ (by omega)⟩)
  exact bodyPost_ret (v:=.tuple #[.agg #[.bool false,.slice none 0 0,.bool false,.slice none 0 0,.bool false,.slice none 0 0],.bool false]) (by simp[results,Tryz.results169,go_sem,q0,q1,q2,q3,q4,q5]) rfl fP.out
 | false =>
 go_wp2_with fail
 go_cut [9] from 20 (fun sv wc=>∃ (kk:Nat) (zz:NV),sv=.pointer (some ⟨kk,0,none⟩)/\Bk wc kk zz.r 154/\NI wc zz (jK (iU r.p s.p) s.d) (ml+nl - 4+nd - 4)/\LI wc l r ml md/\LI wc o s nl nd/\VI wc u r.d md/\VI wc v s.d nd/\NI wc d (jK r.d s.d) (md+nd - 4)/\Bk wc (w.heap.size) l.r 167/\Bk wc (w.heap.size+1) o.r 167/\Bk wc (w.heap.size+1+1) #[.bool false,.slice none 0 0,.bool false,.slice none 0 0,.bool false,.slice none 0 0] 165/\Bk wc (k4) u.r 206/\Bk wc (k5) v.r 206/\Bk wc (k6) d.r 154/\Mod (fun _=>False) w wc/\w.heap.size≠kk/\w.heap.size+1≠kk/\w.heap.size+1+1≠kk/\k4≠kk/\k5≠kk/\k6≠kk)
 case first =>
  have hT:=zI (sL b1) (zI (sL b2) (sV b5))
  have hdw:Mod (fun _=>False) w0 w0.drew:=(Mod.refl _ w0).drew
  replace hm0:=hm0.trans hdw
  replace hl:=hl.k hdw;replace ho:=ho.k hdw;replace hu:=hu.k hdw;replace hv:=hv.k hdw;replace hd:=hd.k hdw;replace b1:=b1.k hdw;replace b2:=b2.k hdw;replace b3:=b3.k hdw;replace b4:=b4.k hdw;replace b5:=b5.k hdw;replace b6:=b6.k hdw
  clear hdw
  have hS:=zI (sL b1) (zI (sL b2) (sV b5));have hA:=zI (sL (b1.uy oN)) (zI (sL (b2.uy oN)) (sV (b5.uy oN)))
  go_region_held3 (fun w'=>BL (w.heap.size) l w'/\BL (w.heap.size+1) o w'/\BV (k5) v w')
   (first | with_reducible exact hS | with_reducible exact hC | with_reducible exact hA | with_reducible exact hE | with_reducible exact hT)
   (first
    | (go_at_call 157;(fail_if_success have _e:=n2);have _d:=n1;refine (yK (by first | exact n1 | exact (n1).k ((Mod.refl _ _).alloc _)) (by first | exact hv | exact (hv).k ((Mod.refl _ _).alloc _)) (by omega)).mono ?_;rintro e w2 ⟨hm,z2,rfl,n2⟩;(try (replace bL:=bL.k hm));(try (have bL:=(aQ w1 #[.bool false,.slice none 0 0] 154).k hm;have hL:w.heap.size<=w1.heap.size:=hm0.size;have e1:w.heap.size≠w1.heap.size:=b1.ne;have e2:w.heap.size+1≠w1.heap.size:=b2.ne;have e3:w.heap.size+1+1≠w1.heap.size:=b3.ne;have e4:k4≠w1.heap.size:=b4.ne;have e5:k5≠w1.heap.size:=b5.ne;have e6:k6≠w1.heap.size:=b6.ne));replace hm:Mod (fun _=>False) w1 w2:=(by first | exact hm | exact ((Mod.refl _ _).alloc _).trans hm);replace hm0:=hm0.trans hm;replace hl:=hl.k hm;replace ho:=ho.k hm;replace hu:=hu.k hm;replace hv:=hv.k hm;replace hd:=hd.k hm;replace b1:=b1.k hm;replace b2:=b2.k hm;replace b3:=b3.k hm;replace b4:=b4.k hm;replace b5:=b5.k hm;replace b6:=b6.k hm;replace n1:=n1.k hm;clear hm hS;have hS:=zI (sL b1) (zI (sL b2) (sV b5));have hA:=zI (sL (b1.al oN)) (zI (sL (b2.al oN)) (sV (b5.al oN)));have hE:=zI (sL (b1.al (.cells z2.r 154))) (zI (sL (b2.al (.cells z2.r 154))) (sV (b5.al (.cells z2.r 154))));(try (have r0:=bL.c 0;have f0:=bL.fz 0;have r1:=bL.c 1;have f1:=bL.fz 1;have hC:=zI (sL ((b1.o e1 0 (.bool z2.b)).o e1 1 (.slice z2.a z2.n z2.c))) (zI (sL ((b2.o e2 0 (.bool z2.b)).o e2 1 (.slice z2.a z2.n z2.c))) (sV ((b5.o e5 0 (.bool z2.b)).o e5 1 (.slice z2.a z2.n z2.c)))))))
    | (go_at_call 158;(fail_if_success have _e:=n1);refine (kr (by first | exact hl.p | exact (hl.p).k (bC _ _)) (by first | exact ho.p | exact (ho.p).k (bC _ _)) (by omega)).mono ?_;rintro e w1 ⟨hm,z1,rfl,n1⟩;(try (replace bL:=bL.k hm));(try (have bL:=(jL w0 #[.bool false,.slice none 0 0] 154).k hm;have hL:w.heap.size<=w0.heap.size:=hm0.size;have e1:w.heap.size≠w0.heap.size:=b1.ne;have e2:w.heap.size+1≠w0.heap.size:=b2.ne;have e3:w.heap.size+1+1≠w0.heap.size:=b3.ne;have e4:k4≠w0.heap.size:=b4.ne;have e5:k5≠w0.heap.size:=b5.ne;have e6:k6≠w0.heap.size:=b6.ne));replace hm:Mod (fun _=>False) w0.drew w1:=(by first | exact hm | exact (bC _ _).trans hm);replace hm0:=hm0.trans hm;replace hl:=hl.k hm;replace ho:=ho.k hm;replace hu:=hu.k hm;replace hv:=hv.k hm;replace hd:=hd.k hm;replace b1:=b1.k hm;replace b2:=b2.k hm;replace b3:=b3.k hm;replace b4:=b4.k hm;replace b5:=b5.k hm;replace b6:=b6.k hm;clear hm hS;have hS:=zI (sL b1) (zI (sL b2) (sV b5));have hA:=zI (sL (b1.al oN)) (zI (sL (b2.al oN)) (sV (b5.al oN)))))
  all_goals (go_wp2_with fail;go_meet;first | (have _d:=bL;exact⟨_,z2,rfl,((bL.set 0 (.bool z2.b)).set 1 (.slice z2.a z2.n z2.c)),n2.aL bL (by decide) 0 [.bool z2.b,.slice z2.a z2.n z2.c],hl.aL bL (by decide) 0 [.bool z2.b,.slice z2.a z2.n z2.c],ho.aL bL (by decide) 0 [.bool z2.b,.slice z2.a z2.n z2.c],hu.aL bL (by decide) 0 [.bool z2.b,.slice z2.a z2.n z2.c],hv.aL bL (by decide) 0 [.bool z2.b,.slice z2.a z2.n z2.c],hd.aL bL (by decide) 0 [.bool z2.b,.slice z2.a z2.n z2.c],b1.os e1 0 [.bool z2.b,.slice z2.a z2.n z2.c],b2.os e2 0 [.bool z2.b,.slice z2.a z2.n z2.c],b3.os e3 0 [.bool z2.b,.slice z2.a z2.n z2.c],b4.os e4 0 [.bool z2.b,.slice z2.a z2.n z2.c],b5.os e5 0 [.bool z2.b,.slice z2.a z2.n z2.c],b6.os e6 0 [.bool z2.b,.slice z2.a z2.n z2.c],(Mod.sets (i:=0) (vs:=[.bool z2.b,.slice z2.a z2.n z2.c]) (hm0.mono (q:=fun i=>w.heap.size<=i) (fun _ _ f=>f.elim)) (fun _=>hL)).mono (fun i hi h=>by omega),e1,e2,e3,e4,e5,e6⟩) | exact⟨_,z2,rfl,aQ _ _ _,n2.k ((Mod.refl _ _).alloc _),hl.k ((Mod.refl _ _).alloc _),ho.k ((Mod.refl _ _).alloc _),hu.k ((Mod.refl _ _).alloc _),hv.k ((Mod.refl _ _).alloc _),hd.k ((Mod.refl _ _).alloc _),b1.k ((Mod.refl _ _).alloc _),b2.k ((Mod.refl _ _).alloc _),b3.k ((Mod.refl _ _).alloc _),b4.k ((Mod.refl _ _).alloc _),b5.k ((Mod.refl _ _).alloc _),b6.k ((Mod.refl _ _).alloc _),hm0.trans ((Mod.refl _ _).alloc _),b1.ne,b2.ne,b3.ne,b4.ne,b5.ne,b6.ne⟩)
 case rest =>
 clear hm0 hl ho hu hv hd b1 b2 b3 b4 b5 b6
 obtain⟨k7,n,rfl,b7,hn,hl,ho,hu,hv,hd,b1,b2,b3,b4,b5,b6,hm0,XW,XY,DW,XZ,DX,X0⟩:=hcut
 have ln:=hn.lo
 go_wp2_with fail
 have hT:=zI (sL b1) (zI (sL b2) (zI (sV b4) (zI (sN b6) (sN b7))))
 have hdw:Mod (fun _=>False) wc wc.drew:=(Mod.refl _ wc).drew
 replace hm0:=hm0.trans hdw
 replace hl:=hl.k hdw;replace ho:=ho.k hdw;replace hu:=hu.k hdw;replace hv:=hv.k hdw;replace hd:=hd.k hdw;replace hn:=hn.k hdw;replace b1:=b1.k hdw;replace b2:=b2.k hdw;replace b3:=b3.k hdw;replace b4:=b4.k hdw;replace b5:=b5.k hdw;replace b6:=b6.k hdw;replace b7:=b7.k hdw
 clear hdw
 have hS:=zI (sL b1) (zI (sL b2) (zI (sV b4) (zI (sN b6) (sN b7))))
 go_region_held3 (fun w'=>BL (w.heap.size) l w'/\BL (w.heap.size+1) o w'/\BV (k4) u w'/\BN (k6) d w'/\BN (k7) n w')
  (first | with_reducible exact hS | with_reducible exact hC | with_reducible exact hT)
  (first
   | (go_at_call 190;(fail_if_success have _e:=n3);have _d:=n2;refine (yI hl.p hu hn n2 (k:=2*ml+nl+md+nd) (by omega)).mono ?_;rintro e w3 ⟨hm,z3,rfl,n3⟩;replace hm0:=hm0.trans hm;replace hl:=hl.k hm;replace ho:=ho.k hm;replace hu:=hu.k hm;replace hv:=hv.k hm;replace hd:=hd.k hm;replace hn:=hn.k hm;replace b1:=b1.k hm;replace b2:=b2.k hm;replace b3:=b3.k hm;replace b4:=b4.k hm;replace b5:=b5.k hm;replace b6:=b6.k hm;replace b7:=b7.k hm;replace n1:=n1.k hm;replace n2:=n2.k hm;clear hm hS;have hS:=zI (sL b1) (zI (sL b2) (zI (sV b4) (zI (sN b6) (sN b7))));have r0:=b3.c 0;have f0:=b3.fz 0;have r1:=b3.c 1;have f1:=b3.fz 1;have r2:=b3.c 2;have f2:=b3.fz 2;have r3:=b3.c 3;have f3:=b3.fz 3;have r4:=b3.c 4;have f4:=b3.fz 4;have r5:=b3.c 5;have f5:=b3.fz 5;have hC:=zI (sL ((((((b1.o (c:=w.heap.size+1+1) (by omega) 0 (.bool z3.x.b)).o (c:=w.heap.size+1+1) (by omega) 1 (.slice z3.x.a z3.x.n z3.x.c)).o (c:=w.heap.size+1+1) (by omega) 2 (.bool z3.y.b)).o (c:=w.heap.size+1+1) (by omega) 3 (.slice z3.y.a z3.y.n z3.y.c)).o (c:=w.heap.size+1+1) (by omega) 4 (.bool z3.w.b)).o (c:=w.heap.size+1+1) (by omega) 5 (.slice z3.w.a z3.w.n z3.w.c))) (zI (sL ((((((b2.o (c:=w.heap.size+1+1) (by omega) 0 (.bool z3.x.b)).o (c:=w.heap.size+1+1) (by omega) 1 (.slice z3.x.a z3.x.n z3.x.c)).o (c:=w.heap.size+1+1) (by omega) 2 (.bool z3.y.b)).o (c:=w.heap.size+1+1) (by omega) 3 (.slice z3.y.a z3.y.n z3.y.c)).o (c:=w.heap.size+1+1) (by omega) 4 (.bool z3.w.b)).o (c:=w.heap.size+1+1) (by omega) 5 (.slice z3.w.a z3.w.n z3.w.c))) (zI (sV ((((((b4.o (c:=w.heap.size+1+1) (Ne.symm kU) 0 (.bool z3.x.b)).o (c:=w.heap.size+1+1) (Ne.symm kU) 1 (.slice z3.x.a z3.x.n z3.x.c)).o (c:=w.heap.size+1+1) (Ne.symm kU) 2 (.bool z3.y.b)).o (c:=w.heap.size+1+1) (Ne.symm kU) 3 (.slice z3.y.a z3.y.n z3.y.c)).o (c:=w.heap.size+1+1) (Ne.symm kU) 4 (.bool z3.w.b)).o (c:=w.heap.size+1+1) (Ne.symm kU) 5 (.slice z3.w.a z3.w.n z3.w.c))) (zI (sN ((((((b6.o (c:=w.heap.size+1+1) (Ne.symm DU) 0 (.bool z3.x.b)).o (c:=w.heap.size+1+1) (Ne.symm DU) 1 (.slice z3.x.a z3.x.n z3.x.c)).o (c:=w.heap.size+1+1) (Ne.symm DU) 2 (.bool z3.y.b)).o (c:=w.heap.size+1+1) (Ne.symm DU) 3 (.slice z3.y.a z3.y.n z3.y.c)).o (c:=w.heap.size+1+1) (Ne.symm DU) 4 (.bool z3.w.b)).o (c:=w.heap.size+1+1) (Ne.symm DU) 5 (.slice z3.w.a z3.w.n z3.w.c))) (sN ((((((b7.o (c:=w.heap.size+1+1) (Ne.symm DW) 0 (.bool z3.x.b)).o (c:=w.heap.size+1+1) (Ne.symm DW) 1 (.slice z3.x.a z3.x.n z3.x.c)).o (c:=w.heap.size+1+1) (Ne.symm DW) 2 (.bool z3.y.b)).o (c:=w.heap.size+1+1) (Ne.symm DW) 3 (.slice z3.y.a z3.y.n z3.y.c)).o (c:=w.heap.size+1+1) (Ne.symm DW) 4 (.bool z3.w.b)).o (c:=w.heap.size+1+1) (Ne.symm DW) 5 (.slice z3.w.a z3.w.n z3.w.c)))))))
   | (go_at_call 153;(fail_if_success have _e:=n2);have _d:=n1;refine (bM hd n1 (by omega) (k:=md+nd+ml+nl - 20) (by omega)).mono ?_;rintro e w2 ⟨hm,z2,rfl,n2⟩;replace hm0:=hm0.trans hm;replace hl:=hl.k hm;replace ho:=ho.k hm;replace hu:=hu.k hm;replace hv:=hv.k hm;replace hd:=hd.k hm;replace hn:=hn.k hm;replace b1:=b1.k hm;replace b2:=b2.k hm;replace b3:=b3.k hm;replace b4:=b4.k hm;replace b5:=b5.k hm;replace b6:=b6.k hm;replace b7:=b7.k hm;replace n1:=n1.k hm;clear hm hS;have hS:=zI (sL b1) (zI (sL b2) (zI (sV b4) (zI (sN b6) (sN b7)))))
   | (go_at_call 153;(fail_if_success have _e:=n1);refine (bM hl.p.w ho.p.w (by omega) (k:=ml+nl - 8) (by omega)).mono ?_;rintro e w1 ⟨hm,z1,rfl,n1⟩;replace hm0:=hm0.trans hm;replace hl:=hl.k hm;replace ho:=ho.k hm;replace hu:=hu.k hm;replace hv:=hv.k hm;replace hd:=hd.k hm;replace hn:=hn.k hm;replace b1:=b1.k hm;replace b2:=b2.k hm;replace b3:=b3.k hm;replace b4:=b4.k hm;replace b5:=b5.k hm;replace b6:=b6.k hm;replace b7:=b7.k hm;clear hm hS;have hS:=zI (sL b1) (zI (sL b2) (zI (sV b4) (zI (sN b6) (sN b7))))))
 have q:=((((((b3.set 0 (.bool z3.x.b)).set 1 (.slice z3.x.a z3.x.n z3.x.c)).set 2 (.bool z3.y.b)).set 3 (.slice z3.y.a z3.y.n z3.y.c)).set 4 (.bool z3.w.b)).set 5 (.slice z3.w.a z3.w.n z3.w.c))
 have q0:=q.c 0
 have q1:=q.c 1
 have q2:=q.c 2
 have q3:=q.c 3
 have q4:=q.c 4
 have q5:=q.c 5
 have fT:Mod (fun _=>False) w ((((((w3.setCell ⟨w.heap.size+1+1,0,none⟩ (.bool z3.x.b)).setCell ⟨w.heap.size+1+1,1,none⟩ (.slice z3.x.a z3.x.n z3.x.c)).setCell ⟨w.heap.size+1+1,2,none⟩ (.bool z3.y.b)).setCell ⟨w.heap.size+1+1,3,none⟩ (.slice z3.y.a z3.y.n z3.y.c)).setCell ⟨w.heap.size+1+1,4,none⟩ (.bool z3.w.b)).setCell ⟨w.heap.size+1+1,5,none⟩ (.slice z3.w.a z3.w.n z3.w.c)):=((hm0.mono (q:=fun i=>i=w.heap.size+1+1) (fun _ _ f=>f.elim)).trans (((((((Mod.refl (fun i=>i=w.heap.size+1+1) w3).setCell ⟨w.heap.size+1+1,0,none⟩ (.bool z3.x.b) (fun _=>rfl)).setCell ⟨w.heap.size+1+1,1,none⟩ (.slice z3.x.a z3.x.n z3.x.c) (fun _=>rfl)).setCell ⟨w.heap.size+1+1,2,none⟩ (.bool z3.y.b) (fun _=>rfl)).setCell ⟨w.heap.size+1+1,3,none⟩ (.slice z3.y.a z3.y.n z3.y.c) (fun _=>rfl)).setCell ⟨w.heap.size+1+1,4,none⟩ (.bool z3.w.b) (fun _=>rfl)).setCell ⟨w.heap.size+1+1,5,none⟩ (.slice z3.w.a z3.w.n z3.w.c) (fun _=>rfl))).mono (fun i hi h=>by omega)
 have fP:Hid _:=(show IW w (uH r s) (!jf r s) (2*ml+nl+md+nd) (.returned (.tuple #[z3.v,.bool true])) ((((((w3.setCell ⟨w.heap.size+1+1,0,none⟩ (.bool z3.x.b)).setCell ⟨w.heap.size+1+1,1,none⟩ (.slice z3.x.a z3.x.n z3.x.c)).setCell ⟨w.heap.size+1+1,2,none⟩ (.bool z3.y.b)).setCell ⟨w.heap.size+1+1,3,none⟩ (.slice z3.y.a z3.y.n z3.y.c)).setCell ⟨w.heap.size+1+1,4,none⟩ (.bool z3.w.b)).setCell ⟨w.heap.size+1+1,5,none⟩ (.slice z3.w.a z3.w.n z3.w.c)) from by rw[uH,HB.out];exact⟨fT,z3,rfl,⟨(n3.x.aL b3 (by decide) 0 [.bool z3.x.b,.slice z3.x.a z3.x.n z3.x.c,.bool z3.y.b,.slice z3.y.a z3.y.n z3.y.c,.bool z3.w.b,.slice z3.w.a z3.w.n z3.w.c]),(n3.y.aL b3 (by decide) 0 [.bool z3.x.b,.slice z3.x.a z3.x.n z3.x.c,.bool z3.y.b,.slice z3.y.a z3.y.n z3.y.c,.bool z3.w.b,.slice z3.w.a z3.w.n z3.w.c]),(n3.w.aL b3 (by decide) 0 [.bool z3.x.b,.slice z3.x.a z3.x.n z3.x.c,.bool z3.y.b,.slice z3.y.a z3.y.n z3.y.c,.bool z3.w.b,.slice z3.w.a z3.w.n z3.w.c])⟩⟩)
 clear hS hC hT q hl ho hu hv hd hn b1 b2 b3 b4 b5 b6 b7 n1 n2 n3
 go_wp2
 exact bodyPost_ret (v:=.tuple #[z3.v,.bool true]) (by simp[results,Tryz.results169,go_sem,q0,q1,q2,q3,q4,q5]) rfl fP.out
end Go.Proofs.YtmnfndpbblpjiabGreatDoor

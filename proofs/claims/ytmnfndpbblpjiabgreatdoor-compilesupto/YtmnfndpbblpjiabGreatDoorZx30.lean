/- The document's plane: the cross product, the inner product, the way from one point to another. -/
import Derived.Test.YtmnfndpbblpjiabGreatDoorZx29
set_option maxHeartbeats 3200000
set_option maxRecDepth 100000
namespace Go.Proofs.YtmnfndpbblpjiabGreatDoor
open Go.RowKit Pu
theorem yK {w:World} {u v:VV} {a b:V2} {m n:Nat} (hu:VI w u a m) (hv:VI w v b n) (h:m+n<=1000000000):Calls Tryz.prog 157 #[u.v,v.v] w (uq w (jK a b) (m+n - 4)):=by
 obtain⟨hm0,b1,b2,b3⟩:=zU w u.r v.r #[.bool false,.slice none 0 0] 206 206 154
 have lu:=hu.x.lo
 have lv:=hv.x.lo
 replace hu:=hu.k hm0
 replace hv:=hv.k hm0
 go_in
 go_wp2_with fail
 generalize (((w.alloc (.cells u.r 206)).alloc (.cells v.r 206)).alloc (.cells #[.bool false,.slice none 0 0] 154))=W at *
 have hT:=zI (sV b1) (sV b2)
 have hdw:Mod (fun _=>False) W W.drew:=(Mod.refl _ W).drew
 replace hm0:=hm0.trans hdw
 replace hu:=hu.k hdw;replace hv:=hv.k hdw;replace b1:=b1.k hdw;replace b2:=b2.k hdw;replace b3:=b3.k hdw
 clear hdw
 have hS:=zI (sV b1) (sV b2)
 go_region_held3 (fun w'=>BV (w.heap.size) u w'/\BV (w.heap.size+1) v w')
  (first | with_reducible exact hS | with_reducible exact hC | with_reducible exact hT)
  (first
   | (go_at_call 152;(fail_if_success have _e:=n3);have _d:=n2;refine (tV n1 n2 (by omega) (by omega) (k:=m+n - 4) (by omega) (by omega)).mono ?_;rintro e w3 ⟨hm,z3,rfl,n3⟩;replace hm0:=hm0.trans hm;replace hu:=hu.k hm;replace hv:=hv.k hm;replace b1:=b1.k hm;replace b2:=b2.k hm;replace b3:=b3.k hm;replace n1:=n1.k hm;replace n2:=n2.k hm;clear hm hS;have hS:=zI (sV b1) (sV b2);have r0:=b3.c 0;have f0:=b3.fz 0;have r1:=b3.c 1;have f1:=b3.fz 1;have hC:=zI (sV ((b1.o (c:=w.heap.size+1+1) (by omega) 0 (.bool z3.b)).o (c:=w.heap.size+1+1) (by omega) 1 (.slice z3.a z3.n z3.c))) (sV ((b2.o (c:=w.heap.size+1+1) (by omega) 0 (.bool z3.b)).o (c:=w.heap.size+1+1) (by omega) 1 (.slice z3.a z3.n z3.c))))
   | (go_at_call 153;(fail_if_success have _e:=n2);have _d:=n1;refine (bM hu.y hv.x h (k:=m+n - 8) (by omega)).mono ?_;rintro e w2 ⟨hm,z2,rfl,n2⟩;replace hm0:=hm0.trans hm;replace hu:=hu.k hm;replace hv:=hv.k hm;replace b1:=b1.k hm;replace b2:=b2.k hm;replace b3:=b3.k hm;replace n1:=n1.k hm;clear hm hS;have hS:=zI (sV b1) (sV b2))
   | (go_at_call 153;(fail_if_success have _e:=n1);refine (bM hu.x hv.y h (k:=m+n - 8) (by omega)).mono ?_;rintro e w1 ⟨hm,z1,rfl,n1⟩;replace hm0:=hm0.trans hm;replace hu:=hu.k hm;replace hv:=hv.k hm;replace b1:=b1.k hm;replace b2:=b2.k hm;replace b3:=b3.k hm;clear hm hS;have hS:=zI (sV b1) (sV b2)))
 have q:=((b3.set 0 (.bool z3.b)).set 1 (.slice z3.a z3.n z3.c))
 have q0:=q.c 0
 have q1:=q.c 1
 have fT:Mod (fun _=>False) w ((w3.setCell ⟨w.heap.size+1+1,0,none⟩ (.bool z3.b)).setCell ⟨w.heap.size+1+1,1,none⟩ (.slice z3.a z3.n z3.c)):=((hm0.mono (q:=fun i=>i=w.heap.size+1+1) (fun _ _ f=>f.elim)).trans (((Mod.refl (fun i=>i=w.heap.size+1+1) w3).setCell ⟨w.heap.size+1+1,0,none⟩ (.bool z3.b) (fun _=>rfl)).setCell ⟨w.heap.size+1+1,1,none⟩ (.slice z3.a z3.n z3.c) (fun _=>rfl))).mono (fun i hi h=>by omega)
 have fP:Hid _:=(show uq w (jK a b) (m+n - 4) (.returned z3.v) ((w3.setCell ⟨w.heap.size+1+1,0,none⟩ (.bool z3.b)).setCell ⟨w.heap.size+1+1,1,none⟩ (.slice z3.a z3.n z3.c)) from ⟨fT,z3,rfl,(n3.aL b3 (by decide) 0 [.bool z3.b,.slice z3.a z3.n z3.c])⟩)
 clear hS hC hT q hu hv b1 b2 b3 n1 n2 n3
 go_wp2
 exact bodyPost_ret (by simp[results,Tryz.results157,go_sem,q0,q1]) rfl fP.out
theorem FH {w:World} {u v:VV} {a b:V2} {m n:Nat} (hu:VI w u a m) (hv:VI w v b n) (h:m+n<=1000000000):Calls Tryz.prog 164 #[u.v,v.v] w (uq w (mG a b) (m+n - 4)):=by
 obtain⟨hm0,b1,b2,b3⟩:=zU w u.r v.r #[.bool false,.slice none 0 0] 206 206 154
 have lu:=hu.x.lo
 have lv:=hv.x.lo
 replace hu:=hu.k hm0
 replace hv:=hv.k hm0
 go_in
 go_wp2_with fail
 generalize (((w.alloc (.cells u.r 206)).alloc (.cells v.r 206)).alloc (.cells #[.bool false,.slice none 0 0] 154))=W at *
 have hT:=zI (sV b1) (sV b2)
 have hdw:Mod (fun _=>False) W W.drew:=(Mod.refl _ W).drew
 replace hm0:=hm0.trans hdw
 replace hu:=hu.k hdw;replace hv:=hv.k hdw;replace b1:=b1.k hdw;replace b2:=b2.k hdw;replace b3:=b3.k hdw
 clear hdw
 have hS:=zI (sV b1) (sV b2)
 go_region_held3 (fun w'=>BV (w.heap.size) u w'/\BV (w.heap.size+1) v w')
  (first | with_reducible exact hS | with_reducible exact hC | with_reducible exact hT)
  (first
   | (go_at_call 151;(fail_if_success have _e:=n3);have _d:=n2;refine (Ba n1 n2 (by omega) (by omega) (k:=m+n - 4) (by omega) (by omega)).mono ?_;rintro e w3 ⟨hm,z3,rfl,n3⟩;replace hm0:=hm0.trans hm;replace hu:=hu.k hm;replace hv:=hv.k hm;replace b1:=b1.k hm;replace b2:=b2.k hm;replace b3:=b3.k hm;replace n1:=n1.k hm;replace n2:=n2.k hm;clear hm hS;have hS:=zI (sV b1) (sV b2);have r0:=b3.c 0;have f0:=b3.fz 0;have r1:=b3.c 1;have f1:=b3.fz 1;have hC:=zI (sV ((b1.o (c:=w.heap.size+1+1) (by omega) 0 (.bool z3.b)).o (c:=w.heap.size+1+1) (by omega) 1 (.slice z3.a z3.n z3.c))) (sV ((b2.o (c:=w.heap.size+1+1) (by omega) 0 (.bool z3.b)).o (c:=w.heap.size+1+1) (by omega) 1 (.slice z3.a z3.n z3.c))))
   | (go_at_call 153;(fail_if_success have _e:=n2);have _d:=n1;refine (bM hu.y hv.y h (k:=m+n - 8) (by omega)).mono ?_;rintro e w2 ⟨hm,z2,rfl,n2⟩;replace hm0:=hm0.trans hm;replace hu:=hu.k hm;replace hv:=hv.k hm;replace b1:=b1.k hm;replace b2:=b2.k hm;replace b3:=b3.k hm;replace n1:=n1.k hm;clear hm hS;have hS:=zI (sV b1) (sV b2))
   | (go_at_call 153;(fail_if_success have _e:=n1);refine (bM hu.x hv.x h (k:=m+n - 8) (by omega)).mono ?_;rintro e w1 ⟨hm,z1,rfl,n1⟩;replace hm0:=hm0.trans hm;replace hu:=hu.k hm;replace hv:=hv.k hm;replace b1:=b1.k hm;replace b2:=b2.k hm;replace b3:=b3.k hm;clear hm hS;have hS:=zI (sV b1) (sV b2)))
 have q:=((b3.set 0 (.bool z3.b)).set 1 (.slice z3.a z3.n z3.c))
 have q0:=q.c 0
 have q1:=q.c 1
 have fT:Mod (fun _=>False) w ((w3.setCell ⟨w.heap.size+1+1,0,none⟩ (.bool z3.b)).setCell ⟨w.heap.size+1+1,1,none⟩ (.slice z3.a z3.n z3.c)):=((hm0.mono (q:=fun i=>i=w.heap.size+1+1) (fun _ _ f=>f.elim)).trans (((Mod.refl (fun i=>i=w.heap.size+1+1) w3).setCell ⟨w.heap.size+1+1,0,none⟩ (.bool z3.b) (fun _=>rfl)).setCell ⟨w.heap.size+1+1,1,none⟩ (.slice z3.a z3.n z3.c) (fun _=>rfl))).mono (fun i hi h=>by omega)
 have fP:Hid _:=(show uq w (mG a b) (m+n - 4) (.returned z3.v) ((w3.setCell ⟨w.heap.size+1+1,0,none⟩ (.bool z3.b)).setCell ⟨w.heap.size+1+1,1,none⟩ (.slice z3.a z3.n z3.c)) from ⟨fT,z3,rfl,(n3.aL b3 (by decide) 0 [.bool z3.b,.slice z3.a z3.n z3.c])⟩)
 clear hS hC hT q hu hv b1 b2 b3 n1 n2 n3
 go_wp2
 exact bodyPost_ret (by simp[results,Tryz.results164,go_sem,q0,q1]) rfl fP.out
theorem kr {w:World} {p q:PV} {t s:T3} {m n:Nat} (hp:PI w p t m) (hq:PI w q s n) (h:m+n<=1000000000):Calls Tryz.prog 158 #[p.v,q.v] w (TU w (iU t s) (m+n - 4)):=by
 obtain⟨hm0,b1,b2,b3⟩:=zU w p.r q.r #[.bool false,.slice none 0 0,.bool false,.slice none 0 0] 165 165 206
 have lp:=hp.x.lo
 have lq:=hq.x.lo
 replace hp:=hp.k hm0
 replace hq:=hq.k hm0
 go_in
 go_wp2_with fail
 generalize (((w.alloc (.cells p.r 165)).alloc (.cells q.r 165)).alloc (.cells #[.bool false,.slice none 0 0,.bool false,.slice none 0 0] 206))=W at *
 have hT:=zI (sP b1) (sP b2)
 have hdw:Mod (fun _=>False) W W.drew:=(Mod.refl _ W).drew
 replace hm0:=hm0.trans hdw
 replace hp:=hp.k hdw;replace hq:=hq.k hdw;replace b1:=b1.k hdw;replace b2:=b2.k hdw;replace b3:=b3.k hdw
 clear hdw
 have hS:=zI (sP b1) (sP b2)
 go_region_held3 (fun w'=>BP (w.heap.size) p w'/\BP (w.heap.size+1) q w')
  (first | with_reducible exact hS | with_reducible exact hC | with_reducible exact hT)
  (first
   | (go_at_call 152;(fail_if_success have _e:=n6);have _d:=n5;refine (tV n4 n5 (by omega) (by omega) (k:=m+n - 4) (by omega) (by omega)).mono ?_;rintro e w6 ⟨hm,z6,rfl,n6⟩;replace hm0:=hm0.trans hm;replace hp:=hp.k hm;replace hq:=hq.k hm;replace b1:=b1.k hm;replace b2:=b2.k hm;replace b3:=b3.k hm;replace n1:=n1.k hm;replace n2:=n2.k hm;replace n3:=n3.k hm;replace n4:=n4.k hm;replace n5:=n5.k hm;clear hm hS;have hS:=zI (sP b1) (sP b2);have r0:=b3.c 0;have f0:=b3.fz 0;have r1:=b3.c 1;have f1:=b3.fz 1;have r2:=b3.c 2;have f2:=b3.fz 2;have r3:=b3.c 3;have f3:=b3.fz 3;have hC:=zI (sP ((((b1.o (c:=w.heap.size+1+1) (by omega) 0 (.bool z3.b)).o (c:=w.heap.size+1+1) (by omega) 1 (.slice z3.a z3.n z3.c)).o (c:=w.heap.size+1+1) (by omega) 2 (.bool z6.b)).o (c:=w.heap.size+1+1) (by omega) 3 (.slice z6.a z6.n z6.c))) (sP ((((b2.o (c:=w.heap.size+1+1) (by omega) 0 (.bool z3.b)).o (c:=w.heap.size+1+1) (by omega) 1 (.slice z3.a z3.n z3.c)).o (c:=w.heap.size+1+1) (by omega) 2 (.bool z6.b)).o (c:=w.heap.size+1+1) (by omega) 3 (.slice z6.a z6.n z6.c))))
   | (go_at_call 153;(fail_if_success have _e:=n5);have _d:=n4;refine (bM hp.y hq.w (by omega) (k:=m+n - 8) (by omega)).mono ?_;rintro e w5 ⟨hm,z5,rfl,n5⟩;replace hm0:=hm0.trans hm;replace hp:=hp.k hm;replace hq:=hq.k hm;replace b1:=b1.k hm;replace b2:=b2.k hm;replace b3:=b3.k hm;replace n1:=n1.k hm;replace n2:=n2.k hm;replace n3:=n3.k hm;replace n4:=n4.k hm;clear hm hS;have hS:=zI (sP b1) (sP b2))
   | (go_at_call 153;(fail_if_success have _e:=n4);have _d:=n3;refine (bM hq.y hp.w (by omega) (k:=m+n - 8) (by omega)).mono ?_;rintro e w4 ⟨hm,z4,rfl,n4⟩;replace hm0:=hm0.trans hm;replace hp:=hp.k hm;replace hq:=hq.k hm;replace b1:=b1.k hm;replace b2:=b2.k hm;replace b3:=b3.k hm;replace n1:=n1.k hm;replace n2:=n2.k hm;replace n3:=n3.k hm;clear hm hS;have hS:=zI (sP b1) (sP b2))
   | (go_at_call 152;(fail_if_success have _e:=n3);have _d:=n2;refine (tV n1 n2 (by omega) (by omega) (k:=m+n - 4) (by omega) (by omega)).mono ?_;rintro e w3 ⟨hm,z3,rfl,n3⟩;replace hm0:=hm0.trans hm;replace hp:=hp.k hm;replace hq:=hq.k hm;replace b1:=b1.k hm;replace b2:=b2.k hm;replace b3:=b3.k hm;replace n1:=n1.k hm;replace n2:=n2.k hm;clear hm hS;have hS:=zI (sP b1) (sP b2))
   | (go_at_call 153;(fail_if_success have _e:=n2);have _d:=n1;refine (bM hp.x hq.w (by omega) (k:=m+n - 8) (by omega)).mono ?_;rintro e w2 ⟨hm,z2,rfl,n2⟩;replace hm0:=hm0.trans hm;replace hp:=hp.k hm;replace hq:=hq.k hm;replace b1:=b1.k hm;replace b2:=b2.k hm;replace b3:=b3.k hm;replace n1:=n1.k hm;clear hm hS;have hS:=zI (sP b1) (sP b2))
   | (go_at_call 153;(fail_if_success have _e:=n1);refine (bM hq.x hp.w (by omega) (k:=m+n - 8) (by omega)).mono ?_;rintro e w1 ⟨hm,z1,rfl,n1⟩;replace hm0:=hm0.trans hm;replace hp:=hp.k hm;replace hq:=hq.k hm;replace b1:=b1.k hm;replace b2:=b2.k hm;replace b3:=b3.k hm;clear hm hS;have hS:=zI (sP b1) (sP b2)))
 have q:=((((b3.set 0 (.bool z3.b)).set 1 (.slice z3.a z3.n z3.c)).set 2 (.bool z6.b)).set 3 (.slice z6.a z6.n z6.c))
 have q0:=q.c 0
 have q1:=q.c 1
 have q2:=q.c 2
 have q3:=q.c 3
 have fT:Mod (fun _=>False) w ((((w6.setCell ⟨w.heap.size+1+1,0,none⟩ (.bool z3.b)).setCell ⟨w.heap.size+1+1,1,none⟩ (.slice z3.a z3.n z3.c)).setCell ⟨w.heap.size+1+1,2,none⟩ (.bool z6.b)).setCell ⟨w.heap.size+1+1,3,none⟩ (.slice z6.a z6.n z6.c)):=((hm0.mono (q:=fun i=>i=w.heap.size+1+1) (fun _ _ f=>f.elim)).trans (((((Mod.refl (fun i=>i=w.heap.size+1+1) w6).setCell ⟨w.heap.size+1+1,0,none⟩ (.bool z3.b) (fun _=>rfl)).setCell ⟨w.heap.size+1+1,1,none⟩ (.slice z3.a z3.n z3.c) (fun _=>rfl)).setCell ⟨w.heap.size+1+1,2,none⟩ (.bool z6.b) (fun _=>rfl)).setCell ⟨w.heap.size+1+1,3,none⟩ (.slice z6.a z6.n z6.c) (fun _=>rfl))).mono (fun i hi h=>by omega)
 have fP:Hid _:=(show TU w (iU t s) (m+n - 4) (.returned (VV.v ⟨z3,z6⟩)) ((((w6.setCell ⟨w.heap.size+1+1,0,none⟩ (.bool z3.b)).setCell ⟨w.heap.size+1+1,1,none⟩ (.slice z3.a z3.n z3.c)).setCell ⟨w.heap.size+1+1,2,none⟩ (.bool z6.b)).setCell ⟨w.heap.size+1+1,3,none⟩ (.slice z6.a z6.n z6.c)) from ⟨fT,⟨z3,z6⟩,rfl,⟨(n3.aL b3 (by decide) 0 [.bool z3.b,.slice z3.a z3.n z3.c,.bool z6.b,.slice z6.a z6.n z6.c]),(n6.aL b3 (by decide) 0 [.bool z3.b,.slice z3.a z3.n z3.c,.bool z6.b,.slice z6.a z6.n z6.c])⟩⟩)
 clear hS hC hT q hp hq b1 b2 b3 n1 n2 n3 n4 n5 n6
 go_wp2
 exact bodyPost_ret (by simp[results,Tryz.results158,go_sem,q0,q1,q2,q3]) rfl fP.out
end Go.Proofs.YtmnfndpbblpjiabGreatDoor

/- The document's plane: on one line, on a line, parallel, within. -/
import Derived.Test.YtmnfndpbblpjiabGreatDoorZx33
set_option maxHeartbeats 3200000
set_option maxRecDepth 100000
namespace Go.Proofs.YtmnfndpbblpjiabGreatDoor
open Go.RowKit Pu
theorem jV {w:World} {p q r:PV} {t s v:T3} {a b c:Nat} (hp:PI w p t a) (hq:PI w q s b) (hr:PI w r v c) (h:2*a+b+c<=900000000):Calls Tryz.prog 156 #[p.v,q.v,r.v] w (pR w (iY t s v)):=by
 obtain⟨hm0,b1,b2,b3⟩:=zU w p.r q.r r.r 165 165 165
 have lp:=hp.x.lo
 have lq:=hq.x.lo
 have lr:=hr.x.lo
 replace hp:=hp.k hm0
 replace hq:=hq.k hm0
 replace hr:=hr.k hm0
 go_in
 go_wp2_with fail
 generalize (((w.alloc (.cells p.r 165)).alloc (.cells q.r 165)).alloc (.cells r.r 165))=W at *
 have hT:=zI (sP b1) (zI (sP b2) (sP b3))
 have hdw:Mod (fun _=>False) W W.drew:=(Mod.refl _ W).drew
 replace hm0:=hm0.trans hdw
 replace hp:=hp.k hdw;replace hq:=hq.k hdw;replace hr:=hr.k hdw;replace b1:=b1.k hdw;replace b2:=b2.k hdw;replace b3:=b3.k hdw
 clear hdw
 have hS:=zI (sP b1) (zI (sP b2) (sP b3))
 go_region_held3 (fun w'=>BP (w.heap.size) p w'/\BP (w.heap.size+1) q w'/\BP (w.heap.size+1+1) r w')
  (first | with_reducible exact hS | with_reducible exact hC | with_reducible exact hT)
  (first
   | (go_at_call 163;(fail_if_success have _e:=n4);have _d:=n3;refine (tJ n3 (by omega)).mono ?_;rintro e w4 ⟨hm,rfl⟩;have n4:=True.intro;replace hm0:=hm0.trans hm;replace hp:=hp.k hm;replace hq:=hq.k hm;replace hr:=hr.k hm;replace b1:=b1.k hm;replace b2:=b2.k hm;replace b3:=b3.k hm;replace n1:=n1.k hm;replace n2:=n2.k hm;replace n3:=n3.k hm;clear hm hS;have hS:=zI (sP b1) (zI (sP b2) (sP b3)))
   | (go_at_call 157;(fail_if_success have _e:=n3);have _d:=n2;refine (yK n1 n2 (by omega)).mono ?_;rintro e w3 ⟨hm,z3,rfl,n3⟩;replace hm0:=hm0.trans hm;replace hp:=hp.k hm;replace hq:=hq.k hm;replace hr:=hr.k hm;replace b1:=b1.k hm;replace b2:=b2.k hm;replace b3:=b3.k hm;replace n1:=n1.k hm;replace n2:=n2.k hm;clear hm hS;have hS:=zI (sP b1) (zI (sP b2) (sP b3)))
   | (go_at_call 158;(fail_if_success have _e:=n2);have _d:=n1;refine (kr hp hr (by omega)).mono ?_;rintro e w2 ⟨hm,z2,rfl,n2⟩;replace hm0:=hm0.trans hm;replace hp:=hp.k hm;replace hq:=hq.k hm;replace hr:=hr.k hm;replace b1:=b1.k hm;replace b2:=b2.k hm;replace b3:=b3.k hm;replace n1:=n1.k hm;clear hm hS;have hS:=zI (sP b1) (zI (sP b2) (sP b3)))
   | (go_at_call 158;(fail_if_success have _e:=n1);refine (kr hp hq (by omega)).mono ?_;rintro e w1 ⟨hm,z1,rfl,n1⟩;replace hm0:=hm0.trans hm;replace hp:=hp.k hm;replace hq:=hq.k hm;replace hr:=hr.k hm;replace b1:=b1.k hm;replace b2:=b2.k hm;replace b3:=b3.k hm;clear hm hS;have hS:=zI (sP b1) (zI (sP b2) (sP b3))))
 go_wp2
 go_ret
 exact⟨hm0,rfl⟩
theorem YU {w:World} {p:PV} {t:T3} {l:LV} {r:RL} {a ml md:Nat} (hp:PI w p t a) (hl:LI w l r ml md) (h:a+ml+md<=900000000):Calls Tryz.prog 161 #[p.v,l.v] w (pR w (VB t r)):=by
 obtain⟨hm0,b1,b2⟩:=zm w p.r l.r 165 167
 have lp:=hp.x.lo
 have ll:=hl.p.x.lo;have ll2:=hl.x.lo
 replace hp:=hp.k hm0
 replace hl:=hl.k hm0
 go_in
 go_wp2_with fail
 generalize ((w.alloc (.cells p.r 165)).alloc (.cells l.r 167))=W at *
 have hT:=zI (sP b1) (sL b2)
 have hdw:Mod (fun _=>False) W W.drew:=(Mod.refl _ W).drew
 replace hm0:=hm0.trans hdw
 replace hp:=hp.k hdw;replace hl:=hl.k hdw;replace b1:=b1.k hdw;replace b2:=b2.k hdw
 clear hdw
 have hS:=zI (sP b1) (sL b2)
 go_region_held3 (fun w'=>BP (w.heap.size) p w'/\BL (w.heap.size+1) l w')
  (first | with_reducible exact hS | with_reducible exact hC | with_reducible exact hT)
  (first
   | (go_at_call 163;(fail_if_success have _e:=n4);have _d:=n3;refine (tJ n3 (by omega)).mono ?_;rintro e w4 ⟨hm,rfl⟩;have n4:=True.intro;replace hm0:=hm0.trans hm;replace hp:=hp.k hm;replace hl:=hl.k hm;replace b1:=b1.k hm;replace b2:=b2.k hm;replace n1:=n1.k hm;replace n2:=n2.k hm;replace n3:=n3.k hm;clear hm hS;have hS:=zI (sP b1) (sL b2))
   | (go_at_call 157;(fail_if_success have _e:=n3);have _d:=n2;refine (yK n1 n2 (by omega)).mono ?_;rintro e w3 ⟨hm,z3,rfl,n3⟩;replace hm0:=hm0.trans hm;replace hp:=hp.k hm;replace hl:=hl.k hm;replace b1:=b1.k hm;replace b2:=b2.k hm;replace n1:=n1.k hm;replace n2:=n2.k hm;clear hm hS;have hS:=zI (sP b1) (sL b2))
   | (go_at_call 165;(fail_if_success have _e:=n2);have _d:=n1;refine (oK hl).mono ?_;rintro e w2 ⟨hm,z2,rfl,n2⟩;replace hm0:=hm0.trans hm;replace hp:=hp.k hm;replace hl:=hl.k hm;replace b1:=b1.k hm;replace b2:=b2.k hm;replace n1:=n1.k hm;clear hm hS;have hS:=zI (sP b1) (sL b2))
   | (go_at_call 158;(fail_if_success have _e:=n1);refine (kr hl.p hp (by omega)).mono ?_;rintro e w1 ⟨hm,z1,rfl,n1⟩;replace hm0:=hm0.trans hm;replace hp:=hp.k hm;replace hl:=hl.k hm;replace b1:=b1.k hm;replace b2:=b2.k hm;clear hm hS;have hS:=zI (sP b1) (sL b2)))
 go_wp2
 go_ret
 exact⟨hm0,rfl⟩
theorem Kg {w:World} {l o:LV} {r s:RL} {ml md nl nd:Nat} (hl:LI w l r ml md) (ho:LI w o s nl nd) (h:md+nd<=900000000):Calls Tryz.prog 162 #[l.v,o.v] w (pR w (jf r s)):=by
 obtain⟨hm0,b1,b2⟩:=zm w l.r o.r 167 167
 have ll:=hl.p.x.lo;have ll2:=hl.x.lo
 have lo:=ho.p.x.lo;have lo2:=ho.x.lo
 replace hl:=hl.k hm0
 replace ho:=ho.k hm0
 go_in
 go_wp2_with fail
 generalize ((w.alloc (.cells l.r 167)).alloc (.cells o.r 167))=W at *
 have hT:=zI (sL b1) (sL b2)
 have hdw:Mod (fun _=>False) W W.drew:=(Mod.refl _ W).drew
 replace hm0:=hm0.trans hdw
 replace hl:=hl.k hdw;replace ho:=ho.k hdw;replace b1:=b1.k hdw;replace b2:=b2.k hdw
 clear hdw
 have hS:=zI (sL b1) (sL b2)
 go_region_held3 (fun w'=>BL (w.heap.size) l w'/\BL (w.heap.size+1) o w')
  (first | with_reducible exact hS | with_reducible exact hC | with_reducible exact hT)
  (first
   | (go_at_call 163;(fail_if_success have _e:=n4);have _d:=n3;refine (tJ n3 (by omega)).mono ?_;rintro e w4 ⟨hm,rfl⟩;have n4:=True.intro;replace hm0:=hm0.trans hm;replace hl:=hl.k hm;replace ho:=ho.k hm;replace b1:=b1.k hm;replace b2:=b2.k hm;replace n1:=n1.k hm;replace n2:=n2.k hm;replace n3:=n3.k hm;clear hm hS;have hS:=zI (sL b1) (sL b2))
   | (go_at_call 157;(fail_if_success have _e:=n3);have _d:=n2;refine (yK n1 n2 (by omega)).mono ?_;rintro e w3 ⟨hm,z3,rfl,n3⟩;replace hm0:=hm0.trans hm;replace hl:=hl.k hm;replace ho:=ho.k hm;replace b1:=b1.k hm;replace b2:=b2.k hm;replace n1:=n1.k hm;replace n2:=n2.k hm;clear hm hS;have hS:=zI (sL b1) (sL b2))
   | (go_at_call 165;(fail_if_success have _e:=n2);have _d:=n1;refine (oK ho).mono ?_;rintro e w2 ⟨hm,z2,rfl,n2⟩;replace hm0:=hm0.trans hm;replace hl:=hl.k hm;replace ho:=ho.k hm;replace b1:=b1.k hm;replace b2:=b2.k hm;replace n1:=n1.k hm;clear hm hS;have hS:=zI (sL b1) (sL b2))
   | (go_at_call 165;(fail_if_success have _e:=n1);refine (oK hl).mono ?_;rintro e w1 ⟨hm,z1,rfl,n1⟩;replace hm0:=hm0.trans hm;replace hl:=hl.k hm;replace ho:=ho.k hm;replace b1:=b1.k hm;replace b2:=b2.k hm;clear hm hS;have hS:=zI (sL b1) (sL b2)))
 go_wp2
 go_ret
 exact⟨hm0,rfl⟩
theorem Hu (i:Int):jF i=-1\/jF i=0\/jF i=1:=by
 unfold jF
 by_cases h:i < 0
 ·rw[if_pos h];exact .inl rfl
 ·rw[if_neg h];by_cases h0:i=0
  ·rw[if_pos h0];exact .inr (.inl rfl)
  ·rw[if_neg h0];exact .inr (.inr rfl)
theorem Ip {w:World} {xa xu xb xv xc xe:NV} {a u b v c e:Int} {m:Nat} (hxa:NI w xa a m) (hxu:NI w xu u m) (hxb:NI w xb b m) (hxv:NI w xv v m) (hxc:NI w xc c m) (hxe:NI w xe e m) (h:2*m<=900000000):Calls Tryz.prog 187 #[xa.v,xu.v,xb.v,xv.v,xc.v,xe.v] w (pR w (BX a u b v c e)):=by
 obtain⟨hm0,b1,b2,b3,b4,b5,b6⟩:=abI w xa.r xu.r xb.r xv.r xc.r xe.r 154 154 154 154 154 154
 have lxa:=hxa.lo
 have lxu:=hxu.lo
 have lxb:=hxb.lo
 have lxv:=hxv.lo
 have lxc:=hxc.lo
 have lxe:=hxe.lo
 replace hxa:=hxa.k hm0
 replace hxu:=hxu.k hm0
 replace hxb:=hxb.k hm0
 replace hxv:=hxv.k hm0
 replace hxc:=hxc.k hm0
 replace hxe:=hxe.k hm0
 go_in
 go_wp2_with fail
 generalize ((((((w.alloc (.cells xa.r 154)).alloc (.cells xu.r 154)).alloc (.cells xb.r 154)).alloc (.cells xv.r 154)).alloc (.cells xc.r 154)).alloc (.cells xe.r 154))=W at *
 have hT:=zI (sN b3) (zI (sN b2) (zI (sN b1) (sN b4)))
 have hdw:Mod (fun _=>False) W W.drew:=(Mod.refl _ W).drew
 replace hm0:=hm0.trans hdw
 replace hxa:=hxa.k hdw;replace hxu:=hxu.k hdw;replace hxb:=hxb.k hdw;replace hxv:=hxv.k hdw;replace hxc:=hxc.k hdw;replace hxe:=hxe.k hdw;replace b1:=b1.k hdw;replace b2:=b2.k hdw;replace b3:=b3.k hdw;replace b4:=b4.k hdw;replace b5:=b5.k hdw;replace b6:=b6.k hdw
 clear hdw
 have hS:=zI (sN b3) (zI (sN b2) (zI (sN b1) (sN b4)))
 go_region_held3 (fun w'=>BN (w.heap.size+1+1) xb w'/\BN (w.heap.size+1) xu w'/\BN (w.heap.size) xa w'/\BN (w.heap.size+1+1+1) xv w')
  (first | with_reducible exact hS | with_reducible exact hC | with_reducible exact hT)
  (first
   | (go_at_call 107;(fail_if_success have _e:=n4);have _d:=n3;refine (EC n3 (by omega)).mono ?_;rintro e w4 ⟨hm,rfl⟩;have n4:=True.intro;replace hm0:=hm0.trans hm;replace hxa:=hxa.k hm;replace hxu:=hxu.k hm;replace hxb:=hxb.k hm;replace hxv:=hxv.k hm;replace hxc:=hxc.k hm;replace hxe:=hxe.k hm;replace b1:=b1.k hm;replace b2:=b2.k hm;replace b3:=b3.k hm;replace b4:=b4.k hm;replace b5:=b5.k hm;replace b6:=b6.k hm;replace n1:=n1.k hm;replace n2:=n2.k hm;replace n3:=n3.k hm;clear hm hS;have hS:=zI (sN b3) (zI (sN b2) (zI (sN b1) (sN b4))))
   | (go_at_call 152;(fail_if_success have _e:=n3);have _d:=n2;refine (tV n1 n2 (by omega) (by omega) (k:=2*m - 4) (by omega) (by omega)).mono ?_;rintro e w3 ⟨hm,z3,rfl,n3⟩;replace hm0:=hm0.trans hm;replace hxa:=hxa.k hm;replace hxu:=hxu.k hm;replace hxb:=hxb.k hm;replace hxv:=hxv.k hm;replace hxc:=hxc.k hm;replace hxe:=hxe.k hm;replace b1:=b1.k hm;replace b2:=b2.k hm;replace b3:=b3.k hm;replace b4:=b4.k hm;replace b5:=b5.k hm;replace b6:=b6.k hm;replace n1:=n1.k hm;replace n2:=n2.k hm;clear hm hS;have hS:=zI (sN b3) (zI (sN b2) (zI (sN b1) (sN b4))))
   | (go_at_call 153;(fail_if_success have _e:=n2);have _d:=n1;refine (bM hxa hxv (by omega) (k:=2*m - 8) (by omega)).mono ?_;rintro e w2 ⟨hm,z2,rfl,n2⟩;replace hm0:=hm0.trans hm;replace hxa:=hxa.k hm;replace hxu:=hxu.k hm;replace hxb:=hxb.k hm;replace hxv:=hxv.k hm;replace hxc:=hxc.k hm;replace hxe:=hxe.k hm;replace b1:=b1.k hm;replace b2:=b2.k hm;replace b3:=b3.k hm;replace b4:=b4.k hm;replace b5:=b5.k hm;replace b6:=b6.k hm;replace n1:=n1.k hm;clear hm hS;have hS:=zI (sN b3) (zI (sN b2) (zI (sN b1) (sN b4))))
   | (go_at_call 153;(fail_if_success have _e:=n1);refine (bM hxb hxu (by omega) (k:=2*m - 8) (by omega)).mono ?_;rintro e w1 ⟨hm,z1,rfl,n1⟩;replace hm0:=hm0.trans hm;replace hxa:=hxa.k hm;replace hxu:=hxu.k hm;replace hxb:=hxb.k hm;replace hxv:=hxv.k hm;replace hxc:=hxc.k hm;replace hxe:=hxe.k hm;replace b1:=b1.k hm;replace b2:=b2.k hm;replace b3:=b3.k hm;replace b4:=b4.k hm;replace b5:=b5.k hm;replace b6:=b6.k hm;clear hm hS;have hS:=zI (sN b3) (zI (sN b2) (zI (sN b1) (sN b4)))))
 clear n1 n2 n3 n4 hS hT
 go_wp2_with fail
 have hT:=zI (sN b5) (zI (sN b4) (zI (sN b3) (sN b6)))
 have hdw:Mod (fun _=>False) w4 w4.drew:=(Mod.refl _ w4).drew
 replace hm0:=hm0.trans hdw
 replace hxa:=hxa.k hdw;replace hxu:=hxu.k hdw;replace hxb:=hxb.k hdw;replace hxv:=hxv.k hdw;replace hxc:=hxc.k hdw;replace hxe:=hxe.k hdw;replace b1:=b1.k hdw;replace b2:=b2.k hdw;replace b3:=b3.k hdw;replace b4:=b4.k hdw;replace b5:=b5.k hdw;replace b6:=b6.k hdw
 clear hdw
 have hS:=zI (sN b5) (zI (sN b4) (zI (sN b3) (sN b6)))
 go_region_held3 (fun w'=>BN (w.heap.size+1+1+1+1) xc w'/\BN (w.heap.size+1+1+1) xv w'/\BN (w.heap.size+1+1) xb w'/\BN (w.heap.size+1+1+1+1+1) xe w')
  (first | with_reducible exact hS | with_reducible exact hC | with_reducible exact hT)
  (first
   | (go_at_call 107;(fail_if_success have _e:=n4);have _d:=n3;refine (EC n3 (by omega)).mono ?_;rintro e w4 ⟨hm,rfl⟩;have n4:=True.intro;replace hm0:=hm0.trans hm;replace hxa:=hxa.k hm;replace hxu:=hxu.k hm;replace hxb:=hxb.k hm;replace hxv:=hxv.k hm;replace hxc:=hxc.k hm;replace hxe:=hxe.k hm;replace b1:=b1.k hm;replace b2:=b2.k hm;replace b3:=b3.k hm;replace b4:=b4.k hm;replace b5:=b5.k hm;replace b6:=b6.k hm;replace n1:=n1.k hm;replace n2:=n2.k hm;replace n3:=n3.k hm;clear hm hS;have hS:=zI (sN b5) (zI (sN b4) (zI (sN b3) (sN b6))))
   | (go_at_call 152;(fail_if_success have _e:=n3);have _d:=n2;refine (tV n1 n2 (by omega) (by omega) (k:=2*m - 4) (by omega) (by omega)).mono ?_;rintro e w3 ⟨hm,z3,rfl,n3⟩;replace hm0:=hm0.trans hm;replace hxa:=hxa.k hm;replace hxu:=hxu.k hm;replace hxb:=hxb.k hm;replace hxv:=hxv.k hm;replace hxc:=hxc.k hm;replace hxe:=hxe.k hm;replace b1:=b1.k hm;replace b2:=b2.k hm;replace b3:=b3.k hm;replace b4:=b4.k hm;replace b5:=b5.k hm;replace b6:=b6.k hm;replace n1:=n1.k hm;replace n2:=n2.k hm;clear hm hS;have hS:=zI (sN b5) (zI (sN b4) (zI (sN b3) (sN b6))))
   | (go_at_call 153;(fail_if_success have _e:=n2);have _d:=n1;refine (bM hxb hxe (by omega) (k:=2*m - 8) (by omega)).mono ?_;rintro e w2 ⟨hm,z2,rfl,n2⟩;replace hm0:=hm0.trans hm;replace hxa:=hxa.k hm;replace hxu:=hxu.k hm;replace hxb:=hxb.k hm;replace hxv:=hxv.k hm;replace hxc:=hxc.k hm;replace hxe:=hxe.k hm;replace b1:=b1.k hm;replace b2:=b2.k hm;replace b3:=b3.k hm;replace b4:=b4.k hm;replace b5:=b5.k hm;replace b6:=b6.k hm;replace n1:=n1.k hm;clear hm hS;have hS:=zI (sN b5) (zI (sN b4) (zI (sN b3) (sN b6))))
   | (go_at_call 153;(fail_if_success have _e:=n1);refine (bM hxc hxv (by omega) (k:=2*m - 8) (by omega)).mono ?_;rintro e w1 ⟨hm,z1,rfl,n1⟩;replace hm0:=hm0.trans hm;replace hxa:=hxa.k hm;replace hxu:=hxu.k hm;replace hxb:=hxb.k hm;replace hxv:=hxv.k hm;replace hxc:=hxc.k hm;replace hxe:=hxe.k hm;replace b1:=b1.k hm;replace b2:=b2.k hm;replace b3:=b3.k hm;replace b4:=b4.k hm;replace b5:=b5.k hm;replace b6:=b6.k hm;clear hm hS;have hS:=zI (sN b5) (zI (sN b4) (zI (sN b3) (sN b6)))))
 have HA:Hid (BX a u b v c e=decide (0<=jF (b*u - a*v)*jF (c*v - b*e))):=rfl
 have i1:=Hu (b*u - a*v)
 have i2:=Hu (c*v - b*e)
 generalize jF (b*u - a*v)=x1 at *
 generalize jF (c*v - b*e)=x2 at *
 clear n1 n2 n3 n4 hS hT hxa hxu hxb hxv hxc hxe b1 b2 b3 b4 b5 b6
 rcases i1 with rfl | rfl | rfl<;>rcases i2 with rfl | rfl | rfl<;>(go_wp2_with fail;go_ret;exact⟨hm0,by rw[HA.out];rfl⟩)
end Go.Proofs.YtmnfndpbblpjiabGreatDoor

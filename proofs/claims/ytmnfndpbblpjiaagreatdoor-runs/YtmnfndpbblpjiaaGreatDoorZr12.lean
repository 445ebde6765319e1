/- The document's plane: on one line, on a line, parallel, within. -/
import Derived.Test.YtmnfndpbblpjiaaGreatDoorZr11
namespace Go.Proofs.YtmnfndpbblpjiaaGreatDoor
open Go.RowKit Pu
set_option maxHeartbeats 3200000 in
set_option maxRecDepth 100000 in
theorem collinear_n {w:World} {p q r:PV} {t s v:T3} {a b c:Nat} (hp:PI w p t a) (hq:PI w q s b) (hr:PI w r v c) (h:2*a+b+c≤900000000):Calls Tryz.prog 123 #[p.v,q.v,r.v] w (BEnd w (colR t s v)):=by
 obtain ⟨hm0,b1,b2,b3⟩:=box3 w p.r q.r r.r 127 127 127
 have lp:=hp.x.lo
 have lq:=hq.x.lo
 have lr:=hr.x.lo
 replace hp:=hp.k hm0
 replace hq:=hq.k hm0
 replace hr:=hr.k hm0
 go_enter Tryz.func123,Tryz.ntmps123
 go_wp2_with fail
 generalize (((w.alloc (.cells p.r 127)).alloc (.cells q.r 127)).alloc (.cells r.r 127))=W at *
 have hT:=And.intro (sP b1) (And.intro (sP b2) (sP b3))
 have hdw:Mod (fun _=>False) W W.drew:=(Mod.refl _ W).drew
 replace hm0:=hm0.trans hdw
 replace hp:=hp.k hdw;replace hq:=hq.k hdw;replace hr:=hr.k hdw;replace b1:=b1.k hdw;replace b2:=b2.k hdw;replace b3:=b3.k hdw
 clear hdw
 have hS:=And.intro (sP b1) (And.intro (sP b2) (sP b3))
 go_region_held3 (fun w'=>BP (w.heap.size) p w'∧BP (w.heap.size+1) q w'∧BP (w.heap.size+1+1) r w')
  (first | with_reducible exact hS | with_reducible exact hC | with_reducible exact hT)
  (first
   | (go_at_call 130;(fail_if_success have _e:=n4);have _d:=n3;refine (zero_n n3 (by omega)).mono ?_;rintro e w4 ⟨hm,rfl⟩;have n4:=True.intro;replace hm0:=hm0.trans hm;replace hp:=hp.k hm;replace hq:=hq.k hm;replace hr:=hr.k hm;replace b1:=b1.k hm;replace b2:=b2.k hm;replace b3:=b3.k hm;replace n1:=n1.k hm;replace n2:=n2.k hm;replace n3:=n3.k hm;clear hm hS;have hS:=And.intro (sP b1) (And.intro (sP b2) (sP b3)))
   | (go_at_call 124;(fail_if_success have _e:=n3);have _d:=n2;refine (turn_n n1 n2 (by omega)).mono ?_;rintro e w3 ⟨hm,z3,rfl,n3⟩;replace hm0:=hm0.trans hm;replace hp:=hp.k hm;replace hq:=hq.k hm;replace hr:=hr.k hm;replace b1:=b1.k hm;replace b2:=b2.k hm;replace b3:=b3.k hm;replace n1:=n1.k hm;replace n2:=n2.k hm;clear hm hS;have hS:=And.intro (sP b1) (And.intro (sP b2) (sP b3)))
   | (go_at_call 125;(fail_if_success have _e:=n2);have _d:=n1;refine (from_n hp hr (by omega)).mono ?_;rintro e w2 ⟨hm,z2,rfl,n2⟩;replace hm0:=hm0.trans hm;replace hp:=hp.k hm;replace hq:=hq.k hm;replace hr:=hr.k hm;replace b1:=b1.k hm;replace b2:=b2.k hm;replace b3:=b3.k hm;replace n1:=n1.k hm;clear hm hS;have hS:=And.intro (sP b1) (And.intro (sP b2) (sP b3)))
   | (go_at_call 125;(fail_if_success have _e:=n1);refine (from_n hp hq (by omega)).mono ?_;rintro e w1 ⟨hm,z1,rfl,n1⟩;replace hm0:=hm0.trans hm;replace hp:=hp.k hm;replace hq:=hq.k hm;replace hr:=hr.k hm;replace b1:=b1.k hm;replace b2:=b2.k hm;replace b3:=b3.k hm;clear hm hS;have hS:=And.intro (sP b1) (And.intro (sP b2) (sP b3))))
 go_wp2_with fail
 go_ret
 exact ⟨hm0,rfl⟩
set_option maxHeartbeats 3200000 in
set_option maxRecDepth 100000 in
theorem on_n {w:World} {p:PV} {t:T3} {l:LV} {r:RL} {a ml md:Nat} (hp:PI w p t a) (hl:LI w l r ml md) (h:a+ml+md≤900000000):Calls Tryz.prog 128 #[p.v,l.v] w (BEnd w (onR t r)):=by
 obtain ⟨hm0,b1,b2⟩:=box2 w p.r l.r 127 129
 have lp:=hp.x.lo
 have ll:=hl.p.x.lo;have ll2:=hl.x.lo
 replace hp:=hp.k hm0
 replace hl:=hl.k hm0
 go_enter Tryz.func128,Tryz.ntmps128
 go_wp2_with fail
 generalize ((w.alloc (.cells p.r 127)).alloc (.cells l.r 129))=W at *
 have hT:=And.intro (sP b1) (sL b2)
 have hdw:Mod (fun _=>False) W W.drew:=(Mod.refl _ W).drew
 replace hm0:=hm0.trans hdw
 replace hp:=hp.k hdw;replace hl:=hl.k hdw;replace b1:=b1.k hdw;replace b2:=b2.k hdw
 clear hdw
 have hS:=And.intro (sP b1) (sL b2)
 go_region_held3 (fun w'=>BP (w.heap.size) p w'∧BL (w.heap.size+1) l w')
  (first | with_reducible exact hS | with_reducible exact hC | with_reducible exact hT)
  (first
   | (go_at_call 130;(fail_if_success have _e:=n4);have _d:=n3;refine (zero_n n3 (by omega)).mono ?_;rintro e w4 ⟨hm,rfl⟩;have n4:=True.intro;replace hm0:=hm0.trans hm;replace hp:=hp.k hm;replace hl:=hl.k hm;replace b1:=b1.k hm;replace b2:=b2.k hm;replace n1:=n1.k hm;replace n2:=n2.k hm;replace n3:=n3.k hm;clear hm hS;have hS:=And.intro (sP b1) (sL b2))
   | (go_at_call 124;(fail_if_success have _e:=n3);have _d:=n2;refine (turn_n n1 n2 (by omega)).mono ?_;rintro e w3 ⟨hm,z3,rfl,n3⟩;replace hm0:=hm0.trans hm;replace hp:=hp.k hm;replace hl:=hl.k hm;replace b1:=b1.k hm;replace b2:=b2.k hm;replace n1:=n1.k hm;replace n2:=n2.k hm;clear hm hS;have hS:=And.intro (sP b1) (sL b2))
   | (go_at_call 132;(fail_if_success have _e:=n2);have _d:=n1;refine (along_n hl).mono ?_;rintro e w2 ⟨hm,z2,rfl,n2⟩;replace hm0:=hm0.trans hm;replace hp:=hp.k hm;replace hl:=hl.k hm;replace b1:=b1.k hm;replace b2:=b2.k hm;replace n1:=n1.k hm;clear hm hS;have hS:=And.intro (sP b1) (sL b2))
   | (go_at_call 125;(fail_if_success have _e:=n1);refine (from_n hl.p hp (by omega)).mono ?_;rintro e w1 ⟨hm,z1,rfl,n1⟩;replace hm0:=hm0.trans hm;replace hp:=hp.k hm;replace hl:=hl.k hm;replace b1:=b1.k hm;replace b2:=b2.k hm;clear hm hS;have hS:=And.intro (sP b1) (sL b2)))
 go_wp2_with fail
 go_ret
 exact ⟨hm0,rfl⟩
set_option maxHeartbeats 3200000 in
set_option maxRecDepth 100000 in
theorem parallel_n {w:World} {l o:LV} {r s:RL} {ml md nl nd:Nat} (hl:LI w l r ml md) (ho:LI w o s nl nd) (h:md+nd≤900000000):Calls Tryz.prog 129 #[l.v,o.v] w (BEnd w (pllR r s)):=by
 obtain ⟨hm0,b1,b2⟩:=box2 w l.r o.r 129 129
 have ll:=hl.p.x.lo;have ll2:=hl.x.lo
 have lo:=ho.p.x.lo;have lo2:=ho.x.lo
 replace hl:=hl.k hm0
 replace ho:=ho.k hm0
 go_enter Tryz.func129,Tryz.ntmps129
 go_wp2_with fail
 generalize ((w.alloc (.cells l.r 129)).alloc (.cells o.r 129))=W at *
 have hT:=And.intro (sL b1) (sL b2)
 have hdw:Mod (fun _=>False) W W.drew:=(Mod.refl _ W).drew
 replace hm0:=hm0.trans hdw
 replace hl:=hl.k hdw;replace ho:=ho.k hdw;replace b1:=b1.k hdw;replace b2:=b2.k hdw
 clear hdw
 have hS:=And.intro (sL b1) (sL b2)
 go_region_held3 (fun w'=>BL (w.heap.size) l w'∧BL (w.heap.size+1) o w')
  (first | with_reducible exact hS | with_reducible exact hC | with_reducible exact hT)
  (first
   | (go_at_call 130;(fail_if_success have _e:=n4);have _d:=n3;refine (zero_n n3 (by omega)).mono ?_;rintro e w4 ⟨hm,rfl⟩;have n4:=True.intro;replace hm0:=hm0.trans hm;replace hl:=hl.k hm;replace ho:=ho.k hm;replace b1:=b1.k hm;replace b2:=b2.k hm;replace n1:=n1.k hm;replace n2:=n2.k hm;replace n3:=n3.k hm;clear hm hS;have hS:=And.intro (sL b1) (sL b2))
   | (go_at_call 124;(fail_if_success have _e:=n3);have _d:=n2;refine (turn_n n1 n2 (by omega)).mono ?_;rintro e w3 ⟨hm,z3,rfl,n3⟩;replace hm0:=hm0.trans hm;replace hl:=hl.k hm;replace ho:=ho.k hm;replace b1:=b1.k hm;replace b2:=b2.k hm;replace n1:=n1.k hm;replace n2:=n2.k hm;clear hm hS;have hS:=And.intro (sL b1) (sL b2))
   | (go_at_call 132;(fail_if_success have _e:=n2);have _d:=n1;refine (along_n ho).mono ?_;rintro e w2 ⟨hm,z2,rfl,n2⟩;replace hm0:=hm0.trans hm;replace hl:=hl.k hm;replace ho:=ho.k hm;replace b1:=b1.k hm;replace b2:=b2.k hm;replace n1:=n1.k hm;clear hm hS;have hS:=And.intro (sL b1) (sL b2))
   | (go_at_call 132;(fail_if_success have _e:=n1);refine (along_n hl).mono ?_;rintro e w1 ⟨hm,z1,rfl,n1⟩;replace hm0:=hm0.trans hm;replace hl:=hl.k hm;replace ho:=ho.k hm;replace b1:=b1.k hm;replace b2:=b2.k hm;clear hm hS;have hS:=And.intro (sL b1) (sL b2)))
 go_wp2_with fail
 go_ret
 exact ⟨hm0,rfl⟩
theorem sg_cases (i:Int):sgI i=-1∨sgI i=0∨sgI i=1:=by
 unfold sgI
 by_cases h:i < 0
 ·rw [if_pos h];exact .inl rfl
 ·rw [if_neg h];by_cases h0:i=0
  ·rw [if_pos h0];exact .inr (.inl rfl)
  ·rw [if_neg h0];exact .inr (.inr rfl)
set_option maxHeartbeats 3200000 in
set_option maxRecDepth 100000 in
theorem within_n {w:World} {xa xu xb xv xc xe:NV} {a u b v c e:Int} {m:Nat} (hxa:NI w xa a m) (hxu:NI w xu u m) (hxb:NI w xb b m) (hxv:NI w xv v m) (hxc:NI w xc c m) (hxe:NI w xe e m) (h:2*m≤900000000):Calls Tryz.prog 173 #[xa.v,xu.v,xb.v,xv.v,xc.v,xe.v] w (BEnd w (witR a u b v c e)):=by
 obtain ⟨hm0,b1,b2,b3,b4,b5,b6⟩:=box6 w xa.r xu.r xb.r xv.r xc.r xe.r 116 116 116 116 116 116
 have lxa:=hxa.lo
 have lxu:=hxu.lo
 have lxb:=hxb.lo
 have lxv:=hxv.lo
 have lxc:=hxc.lo
 have lxe:=hxe.lo
 replace hxa:=hxa.k hm0
 replace hxu:=hxu.k hm0
 replace hxb:=hxb.k hm0
 replace hxv:=hxv.k hm0
 replace hxc:=hxc.k hm0
 replace hxe:=hxe.k hm0
 go_enter Tryz.func173,Tryz.ntmps173
 go_wp2_with fail
 generalize ((((((w.alloc (.cells xa.r 116)).alloc (.cells xu.r 116)).alloc (.cells xb.r 116)).alloc (.cells xv.r 116)).alloc (.cells xc.r 116)).alloc (.cells xe.r 116))=W at *
 have hT:=And.intro (sN b3) (And.intro (sN b2) (And.intro (sN b1) (sN b4)))
 have hdw:Mod (fun _=>False) W W.drew:=(Mod.refl _ W).drew
 replace hm0:=hm0.trans hdw
 replace hxa:=hxa.k hdw;replace hxu:=hxu.k hdw;replace hxb:=hxb.k hdw;replace hxv:=hxv.k hdw;replace hxc:=hxc.k hdw;replace hxe:=hxe.k hdw;replace b1:=b1.k hdw;replace b2:=b2.k hdw;replace b3:=b3.k hdw;replace b4:=b4.k hdw;replace b5:=b5.k hdw;replace b6:=b6.k hdw
 clear hdw
 have hS:=And.intro (sN b3) (And.intro (sN b2) (And.intro (sN b1) (sN b4)))
 go_region_held3 (fun w'=>BN (w.heap.size+1+1) xb w'∧BN (w.heap.size+1) xu w'∧BN (w.heap.size) xa w'∧BN (w.heap.size+1+1+1) xv w')
  (first | with_reducible exact hS | with_reducible exact hC | with_reducible exact hT)
  (first
   | (go_at_call 77;(fail_if_success have _e:=n4);have _d:=n3;refine (sign_n n3 (by omega)).mono ?_;rintro e w4 ⟨hm,rfl⟩;have n4:=True.intro;replace hm0:=hm0.trans hm;replace hxa:=hxa.k hm;replace hxu:=hxu.k hm;replace hxb:=hxb.k hm;replace hxv:=hxv.k hm;replace hxc:=hxc.k hm;replace hxe:=hxe.k hm;replace b1:=b1.k hm;replace b2:=b2.k hm;replace b3:=b3.k hm;replace b4:=b4.k hm;replace b5:=b5.k hm;replace b6:=b6.k hm;replace n1:=n1.k hm;replace n2:=n2.k hm;replace n3:=n3.k hm;clear hm hS;have hS:=And.intro (sN b3) (And.intro (sN b2) (And.intro (sN b1) (sN b4))))
   | (go_at_call 119;(fail_if_success have _e:=n3);have _d:=n2;refine (minus_n n1 n2 (by omega) (by omega) (k:=2*m - 4) (by omega) (by omega)).mono ?_;rintro e w3 ⟨hm,z3,rfl,n3⟩;replace hm0:=hm0.trans hm;replace hxa:=hxa.k hm;replace hxu:=hxu.k hm;replace hxb:=hxb.k hm;replace hxv:=hxv.k hm;replace hxc:=hxc.k hm;replace hxe:=hxe.k hm;replace b1:=b1.k hm;replace b2:=b2.k hm;replace b3:=b3.k hm;replace b4:=b4.k hm;replace b5:=b5.k hm;replace b6:=b6.k hm;replace n1:=n1.k hm;replace n2:=n2.k hm;clear hm hS;have hS:=And.intro (sN b3) (And.intro (sN b2) (And.intro (sN b1) (sN b4))))
   | (go_at_call 120;(fail_if_success have _e:=n2);have _d:=n1;refine (times_n hxa hxv (by omega) (k:=2*m - 8) (by omega)).mono ?_;rintro e w2 ⟨hm,z2,rfl,n2⟩;replace hm0:=hm0.trans hm;replace hxa:=hxa.k hm;replace hxu:=hxu.k hm;replace hxb:=hxb.k hm;replace hxv:=hxv.k hm;replace hxc:=hxc.k hm;replace hxe:=hxe.k hm;replace b1:=b1.k hm;replace b2:=b2.k hm;replace b3:=b3.k hm;replace b4:=b4.k hm;replace b5:=b5.k hm;replace b6:=b6.k hm;replace n1:=n1.k hm;clear hm hS;have hS:=And.intro (sN b3) (And.intro (sN b2) (And.intro (sN b1) (sN b4))))
   | (go_at_call 120;(fail_if_success have _e:=n1);refine (times_n hxb hxu (by omega) (k:=2*m - 8) (by omega)).mono ?_;rintro e w1 ⟨hm,z1,rfl,n1⟩;replace hm0:=hm0.trans hm;replace hxa:=hxa.k hm;replace hxu:=hxu.k hm;replace hxb:=hxb.k hm;replace hxv:=hxv.k hm;replace hxc:=hxc.k hm;replace hxe:=hxe.k hm;replace b1:=b1.k hm;replace b2:=b2.k hm;replace b3:=b3.k hm;replace b4:=b4.k hm;replace b5:=b5.k hm;replace b6:=b6.k hm;clear hm hS;have hS:=And.intro (sN b3) (And.intro (sN b2) (And.intro (sN b1) (sN b4)))))
 clear n1 n2 n3 n4 hS hT
 go_wp2_with fail
 have hT:=And.intro (sN b5) (And.intro (sN b4) (And.intro (sN b3) (sN b6)))
 have hdw:Mod (fun _=>False) w4 w4.drew:=(Mod.refl _ w4).drew
 replace hm0:=hm0.trans hdw
 replace hxa:=hxa.k hdw;replace hxu:=hxu.k hdw;replace hxb:=hxb.k hdw;replace hxv:=hxv.k hdw;replace hxc:=hxc.k hdw;replace hxe:=hxe.k hdw;replace b1:=b1.k hdw;replace b2:=b2.k hdw;replace b3:=b3.k hdw;replace b4:=b4.k hdw;replace b5:=b5.k hdw;replace b6:=b6.k hdw
 clear hdw
 have hS:=And.intro (sN b5) (And.intro (sN b4) (And.intro (sN b3) (sN b6)))
 go_region_held3 (fun w'=>BN (w.heap.size+1+1+1+1) xc w'∧BN (w.heap.size+1+1+1) xv w'∧BN (w.heap.size+1+1) xb w'∧BN (w.heap.size+1+1+1+1+1) xe w')
  (first | with_reducible exact hS | with_reducible exact hC | with_reducible exact hT)
  (first
   | (go_at_call 77;(fail_if_success have _e:=n4);have _d:=n3;refine (sign_n n3 (by omega)).mono ?_;rintro e w4 ⟨hm,rfl⟩;have n4:=True.intro;replace hm0:=hm0.trans hm;replace hxa:=hxa.k hm;replace hxu:=hxu.k hm;replace hxb:=hxb.k hm;replace hxv:=hxv.k hm;replace hxc:=hxc.k hm;replace hxe:=hxe.k hm;replace b1:=b1.k hm;replace b2:=b2.k hm;replace b3:=b3.k hm;replace b4:=b4.k hm;replace b5:=b5.k hm;replace b6:=b6.k hm;replace n1:=n1.k hm;replace n2:=n2.k hm;replace n3:=n3.k hm;clear hm hS;have hS:=And.intro (sN b5) (And.intro (sN b4) (And.intro (sN b3) (sN b6))))
   | (go_at_call 119;(fail_if_success have _e:=n3);have _d:=n2;refine (minus_n n1 n2 (by omega) (by omega) (k:=2*m - 4) (by omega) (by omega)).mono ?_;rintro e w3 ⟨hm,z3,rfl,n3⟩;replace hm0:=hm0.trans hm;replace hxa:=hxa.k hm;replace hxu:=hxu.k hm;replace hxb:=hxb.k hm;replace hxv:=hxv.k hm;replace hxc:=hxc.k hm;replace hxe:=hxe.k hm;replace b1:=b1.k hm;replace b2:=b2.k hm;replace b3:=b3.k hm;replace b4:=b4.k hm;replace b5:=b5.k hm;replace b6:=b6.k hm;replace n1:=n1.k hm;replace n2:=n2.k hm;clear hm hS;have hS:=And.intro (sN b5) (And.intro (sN b4) (And.intro (sN b3) (sN b6))))
   | (go_at_call 120;(fail_if_success have _e:=n2);have _d:=n1;refine (times_n hxb hxe (by omega) (k:=2*m - 8) (by omega)).mono ?_;rintro e w2 ⟨hm,z2,rfl,n2⟩;replace hm0:=hm0.trans hm;replace hxa:=hxa.k hm;replace hxu:=hxu.k hm;replace hxb:=hxb.k hm;replace hxv:=hxv.k hm;replace hxc:=hxc.k hm;replace hxe:=hxe.k hm;replace b1:=b1.k hm;replace b2:=b2.k hm;replace b3:=b3.k hm;replace b4:=b4.k hm;replace b5:=b5.k hm;replace b6:=b6.k hm;replace n1:=n1.k hm;clear hm hS;have hS:=And.intro (sN b5) (And.intro (sN b4) (And.intro (sN b3) (sN b6))))
   | (go_at_call 120;(fail_if_success have _e:=n1);refine (times_n hxc hxv (by omega) (k:=2*m - 8) (by omega)).mono ?_;rintro e w1 ⟨hm,z1,rfl,n1⟩;replace hm0:=hm0.trans hm;replace hxa:=hxa.k hm;replace hxu:=hxu.k hm;replace hxb:=hxb.k hm;replace hxv:=hxv.k hm;replace hxc:=hxc.k hm;replace hxe:=hxe.k hm;replace b1:=b1.k hm;replace b2:=b2.k hm;replace b3:=b3.k hm;replace b4:=b4.k hm;replace b5:=b5.k hm;replace b6:=b6.k hm;clear hm hS;have hS:=And.intro (sN b5) (And.intro (sN b4) (And.intro (sN b3) (sN b6)))))
 have HA:Hid (witR a u b v c e=decide (0≤sgI (b*u - a*v)*sgI (c*v - b*e))):=rfl
 have i1:=sg_cases (b*u - a*v)
 have i2:=sg_cases (c*v - b*e)
 generalize sgI (b*u - a*v)=x1 at *
 generalize sgI (c*v - b*e)=x2 at *
 clear n1 n2 n3 n4 hS hT hxa hxu hxb hxv hxc hxe b1 b2 b3 b4 b5 b6
 rcases i1 with rfl | rfl | rfl <;> rcases i2 with rfl | rfl | rfl <;> (go_wp2_with fail;go_ret;exact ⟨hm0,by rw [HA.out];rfl⟩)
end Go.Proofs.YtmnfndpbblpjiaaGreatDoor

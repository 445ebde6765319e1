/- The document's questions. -/
import Derived.Test.YtmnfndpbblpjiaaGreatDoorZr17
namespace Go.Proofs.YtmnfndpbblpjiaaGreatDoor
open Go.RowKit Pu
def Cl (w:World) (g off:Nat) (cs:Array Value):Prop:=∀ (i:Nat) (c:Value),cs[i]?=some c→w.cell? ⟨g,off+i,none⟩=some c
theorem Cl.k {w w':World} {g off:Nat} {cs:Array Value} (h:Cl w g off cs) (hm:Mod (fun _=>False) w w'):Cl w' g off cs:=fun i c e=>hm.cell (h i c e)
theorem Cl.o {w:World} {g k off:Nat} {cs:Array Value} (h:Cl w g off cs) (hg:g≠k) (j:Nat) (y:Value):Cl (w.setCell ⟨k,j,none⟩ y) g off cs:=fun i c e=>by
 rw [World.cell?_of_block (Below.heap_setCell _ _ _ _ hg)];exact h i c e
theorem sg_pos (i:Int):decide (0 < sgI i)=decide (0 < i):=by
 unfold sgI
 by_cases h:i < 0
 ·rw [if_pos h];simp;omega
 ·rw [if_neg h];by_cases h0:i=0
  ·simp [h0]
  ·rw [if_neg h0];simp;omega
abbrev CP0 (g:Nat) (x:PV) (w:World):Prop:=w.cell? ⟨g,0,none⟩=some (.bool x.x.b)∧w.cell? ⟨g,1,none⟩=some (.slice x.x.a x.x.n x.x.c)∧w.cell? ⟨g,2,none⟩=some (.bool x.y.b)∧w.cell? ⟨g,3,none⟩=some (.slice x.y.a x.y.n x.y.c)∧w.cell? ⟨g,4,none⟩=some (.bool x.w.b)∧w.cell? ⟨g,5,none⟩=some (.slice x.w.a x.w.n x.w.c)
theorem cP0 {w:World} {g:Nat} {x:PV} (h:Cl w g 0 x.r):CP0 g x w:=⟨h 0 _ rfl,h 1 _ rfl,h 2 _ rfl,h 3 _ rfl,h 4 _ rfl,h 5 _ rfl⟩
abbrev CP16 (g:Nat) (x:PV) (w:World):Prop:=w.cell? ⟨g,16,none⟩=some (.bool x.x.b)∧w.cell? ⟨g,17,none⟩=some (.slice x.x.a x.x.n x.x.c)∧w.cell? ⟨g,18,none⟩=some (.bool x.y.b)∧w.cell? ⟨g,19,none⟩=some (.slice x.y.a x.y.n x.y.c)∧w.cell? ⟨g,20,none⟩=some (.bool x.w.b)∧w.cell? ⟨g,21,none⟩=some (.slice x.w.a x.w.n x.w.c)
theorem cP16 {w:World} {g:Nat} {x:PV} (h:Cl w g 16 x.r):CP16 g x w:=⟨h 0 _ rfl,h 1 _ rfl,h 2 _ rfl,h 3 _ rfl,h 4 _ rfl,h 5 _ rfl⟩
set_option maxHeartbeats 3200000 in
set_option maxRecDepth 100000 in
theorem holds_same {w:World} {p q:PV} {t s:T3} {g cap m:Nat} (b10:Cl w g 0 p.r) (b11:Cl w g 16 q.r) (hp:PI w p t m) (hq:PI w q s m) (h:24*m≤900000000):Calls Tryz.prog 83 #[.string ⟨#[115,97,109,101]⟩,.slice (some ⟨g,0,none⟩) 2 cap] w (BEnd w (samR t s)):=by
 have lo:=hp.x.lo
 have hm0:Mod (fun _=>False) w w:=Mod.refl _ w
 go_enter Tryz.func83,Tryz.ntmps83
 go_wp2_with fail
 have hT:=And.intro (cP0 b10) (cP16 b11)
 have hdw:Mod (fun _=>False) w w.drew:=(Mod.refl _ w).drew
 replace hm0:=hm0.trans hdw
 replace b10:=b10.k hdw;replace b11:=b11.k hdw;replace hp:=hp.k hdw;replace hq:=hq.k hdw
 clear hdw
 have hS:=And.intro (cP0 b10) (cP16 b11)
 go_region_held3 (fun w'=>CP0 g p w'∧CP16 g q w')
  (first | with_reducible exact hS | with_reducible exact hC | with_reducible exact hT)
  (first
   | (go_at_call 122;(fail_if_success have _e:=n1);refine (same_n hp hq (by omega)).mono ?_;rintro e w1 ⟨hm,rfl⟩;have n1:=True.intro;replace hm0:=hm0.trans hm;replace b10:=b10.k hm;replace b11:=b11.k hm;replace hp:=hp.k hm;replace hq:=hq.k hm;clear hm hS;have hS:=And.intro (cP0 b10) (cP16 b11)))
 clear hS hT b10 b11 hp hq
 go_wp2_with fail
 go_ret
 exact ⟨hm0,rfl⟩
abbrev CP32 (g:Nat) (x:PV) (w:World):Prop:=w.cell? ⟨g,32,none⟩=some (.bool x.x.b)∧w.cell? ⟨g,33,none⟩=some (.slice x.x.a x.x.n x.x.c)∧w.cell? ⟨g,34,none⟩=some (.bool x.y.b)∧w.cell? ⟨g,35,none⟩=some (.slice x.y.a x.y.n x.y.c)∧w.cell? ⟨g,36,none⟩=some (.bool x.w.b)∧w.cell? ⟨g,37,none⟩=some (.slice x.w.a x.w.n x.w.c)
theorem cP32 {w:World} {g:Nat} {x:PV} (h:Cl w g 32 x.r):CP32 g x w:=⟨h 0 _ rfl,h 1 _ rfl,h 2 _ rfl,h 3 _ rfl,h 4 _ rfl,h 5 _ rfl⟩
set_option maxHeartbeats 3200000 in
set_option maxRecDepth 100000 in
theorem holds_col {w:World} {p q r:PV} {t s v:T3} {g cap m:Nat} (b10:Cl w g 0 p.r) (b11:Cl w g 16 q.r) (b12:Cl w g 32 r.r) (hp:PI w p t m) (hq:PI w q s m) (hr:PI w r v m) (h:24*m≤900000000):Calls Tryz.prog 83 #[.string ⟨#[99,111,108]⟩,.slice (some ⟨g,0,none⟩) 3 cap] w (BEnd w (colR t s v)):=by
 have lo:=hp.x.lo
 have hm0:Mod (fun _=>False) w w:=Mod.refl _ w
 go_enter Tryz.func83,Tryz.ntmps83
 go_wp2_with fail
 have hT:=And.intro (cP0 b10) (And.intro (cP16 b11) (cP32 b12))
 have hdw:Mod (fun _=>False) w w.drew:=(Mod.refl _ w).drew
 replace hm0:=hm0.trans hdw
 replace b10:=b10.k hdw;replace b11:=b11.k hdw;replace b12:=b12.k hdw;replace hp:=hp.k hdw;replace hq:=hq.k hdw;replace hr:=hr.k hdw
 clear hdw
 have hS:=And.intro (cP0 b10) (And.intro (cP16 b11) (cP32 b12))
 go_region_held3 (fun w'=>CP0 g p w'∧CP16 g q w'∧CP32 g r w')
  (first | with_reducible exact hS | with_reducible exact hC | with_reducible exact hT)
  (first
   | (go_at_call 123;(fail_if_success have _e:=n1);refine (collinear_n hp hq hr (by omega)).mono ?_;rintro e w1 ⟨hm,rfl⟩;have n1:=True.intro;replace hm0:=hm0.trans hm;replace b10:=b10.k hm;replace b11:=b11.k hm;replace b12:=b12.k hm;replace hp:=hp.k hm;replace hq:=hq.k hm;replace hr:=hr.k hm;clear hm hS;have hS:=And.intro (cP0 b10) (And.intro (cP16 b11) (cP32 b12))))
 clear hS hT b10 b11 b12 hp hq hr
 go_wp2_with fail
 go_ret
 exact ⟨hm0,rfl⟩
set_option maxHeartbeats 3200000 in
set_option maxRecDepth 100000 in
theorem holds_ccw {w:World} {p q r:PV} {t s v:T3} {g cap m:Nat} (b10:Cl w g 0 p.r) (b11:Cl w g 16 q.r) (b12:Cl w g 32 r.r) (hp:PI w p t m) (hq:PI w q s m) (hr:PI w r v m) (h:24*m≤900000000):Calls Tryz.prog 83 #[.string ⟨#[99,99,119]⟩,.slice (some ⟨g,0,none⟩) 3 cap] w (BEnd w (decide (0 < turnR (frm t s) (frm t v)))):=by
 have lo:=hp.x.lo
 have hm0:Mod (fun _=>False) w w:=Mod.refl _ w
 go_enter Tryz.func83,Tryz.ntmps83
 go_wp2_with fail
 have hT:=And.intro (cP0 b10) (And.intro (cP16 b11) (cP32 b12))
 have hdw:Mod (fun _=>False) w w.drew:=(Mod.refl _ w).drew
 replace hm0:=hm0.trans hdw
 replace b10:=b10.k hdw;replace b11:=b11.k hdw;replace b12:=b12.k hdw;replace hp:=hp.k hdw;replace hq:=hq.k hdw;replace hr:=hr.k hdw
 clear hdw
 have hS:=And.intro (cP0 b10) (And.intro (cP16 b11) (cP32 b12))
 go_region_held3 (fun w'=>CP0 g p w'∧CP16 g q w'∧CP32 g r w')
  (first | with_reducible exact hS | with_reducible exact hC | with_reducible exact hT)
  (first
   | (go_at_call 77;(fail_if_success have _e:=n4);have _d:=n3;refine (sign_n n3 (by omega)).mono ?_;rintro e w4 ⟨hm,rfl⟩;have n4:=True.intro;replace hm0:=hm0.trans hm;replace b10:=b10.k hm;replace b11:=b11.k hm;replace b12:=b12.k hm;replace hp:=hp.k hm;replace hq:=hq.k hm;replace hr:=hr.k hm;replace n1:=n1.k hm;replace n2:=n2.k hm;replace n3:=n3.k hm;clear hm hS;have hS:=And.intro (cP0 b10) (And.intro (cP16 b11) (cP32 b12)))
   | (go_at_call 124;(fail_if_success have _e:=n3);have _d:=n2;refine (turn_n n1 n2 (by omega)).mono ?_;rintro e w3 ⟨hm,z3,rfl,n3⟩;replace hm0:=hm0.trans hm;replace b10:=b10.k hm;replace b11:=b11.k hm;replace b12:=b12.k hm;replace hp:=hp.k hm;replace hq:=hq.k hm;replace hr:=hr.k hm;replace n1:=n1.k hm;replace n2:=n2.k hm;clear hm hS;have hS:=And.intro (cP0 b10) (And.intro (cP16 b11) (cP32 b12)))
   | (go_at_call 125;(fail_if_success have _e:=n2);have _d:=n1;refine (from_n hp hr (by omega)).mono ?_;rintro e w2 ⟨hm,z2,rfl,n2⟩;replace hm0:=hm0.trans hm;replace b10:=b10.k hm;replace b11:=b11.k hm;replace b12:=b12.k hm;replace hp:=hp.k hm;replace hq:=hq.k hm;replace hr:=hr.k hm;replace n1:=n1.k hm;clear hm hS;have hS:=And.intro (cP0 b10) (And.intro (cP16 b11) (cP32 b12)))
   | (go_at_call 125;(fail_if_success have _e:=n1);refine (from_n hp hq (by omega)).mono ?_;rintro e w1 ⟨hm,z1,rfl,n1⟩;replace hm0:=hm0.trans hm;replace b10:=b10.k hm;replace b11:=b11.k hm;replace b12:=b12.k hm;replace hp:=hp.k hm;replace hq:=hq.k hm;replace hr:=hr.k hm;clear hm hS;have hS:=And.intro (cP0 b10) (And.intro (cP16 b11) (cP32 b12))))
 clear hS hT b10 b11 b12 hp hq hr n1 n2 n3
 go_wp2_with fail
 go_ret
 exact ⟨hm0,by rw [sg_pos];rfl⟩
set_option maxHeartbeats 3200000 in
set_option maxRecDepth 100000 in
theorem holds_btw {w:World} {p q r:PV} {t s v:T3} {g cap m:Nat} (b10:Cl w g 0 p.r) (b11:Cl w g 16 q.r) (b12:Cl w g 32 r.r) (hp:PI w p t m) (hq:PI w q s m) (hr:PI w r v m) (h:24*m≤900000000):Calls Tryz.prog 83 #[.string ⟨#[98,116,119]⟩,.slice (some ⟨g,0,none⟩) 3 cap] w (BEnd w (btwR t s v)):=by
 have lo:=hp.x.lo
 have hm0:Mod (fun _=>False) w w:=Mod.refl _ w
 go_enter Tryz.func83,Tryz.ntmps83
 go_wp2_with fail
 have hT:=And.intro (cP0 b10) (And.intro (cP16 b11) (cP32 b12))
 have hdw:Mod (fun _=>False) w w.drew:=(Mod.refl _ w).drew
 replace hm0:=hm0.trans hdw
 replace b10:=b10.k hdw;replace b11:=b11.k hdw;replace b12:=b12.k hdw;replace hp:=hp.k hdw;replace hq:=hq.k hdw;replace hr:=hr.k hdw
 clear hdw
 have hS:=And.intro (cP0 b10) (And.intro (cP16 b11) (cP32 b12))
 go_region_held3 (fun w'=>CP0 g p w'∧CP16 g q w'∧CP32 g r w')
  (first | with_reducible exact hS | with_reducible exact hC | with_reducible exact hT)
  (first
   | (go_at_call 126;(fail_if_success have _e:=n1);refine (between_n hp hq hr (by omega)).mono ?_;rintro e w1 ⟨hm,rfl⟩;have n1:=True.intro;replace hm0:=hm0.trans hm;replace b10:=b10.k hm;replace b11:=b11.k hm;replace b12:=b12.k hm;replace hp:=hp.k hm;replace hq:=hq.k hm;replace hr:=hr.k hm;clear hm hS;have hS:=And.intro (cP0 b10) (And.intro (cP16 b11) (cP32 b12))))
 clear hS hT b10 b11 b12 hp hq hr
 go_wp2_with fail
 go_ret
 exact ⟨hm0,rfl⟩
abbrev CP48 (g:Nat) (x:PV) (w:World):Prop:=w.cell? ⟨g,48,none⟩=some (.bool x.x.b)∧w.cell? ⟨g,49,none⟩=some (.slice x.x.a x.x.n x.x.c)∧w.cell? ⟨g,50,none⟩=some (.bool x.y.b)∧w.cell? ⟨g,51,none⟩=some (.slice x.y.a x.y.n x.y.c)∧w.cell? ⟨g,52,none⟩=some (.bool x.w.b)∧w.cell? ⟨g,53,none⟩=some (.slice x.w.a x.w.n x.w.c)
theorem cP48 {w:World} {g:Nat} {x:PV} (h:Cl w g 48 x.r):CP48 g x w:=⟨h 0 _ rfl,h 1 _ rfl,h 2 _ rfl,h 3 _ rfl,h 4 _ rfl,h 5 _ rfl⟩
set_option maxHeartbeats 3200000 in
set_option maxRecDepth 100000 in
theorem holds_con {w:World} {p q r y:PV} {t s v x:T3} {g cap m:Nat} (b10:Cl w g 0 p.r) (b11:Cl w g 16 q.r) (b12:Cl w g 32 r.r) (b13:Cl w g 48 y.r) (hp:PI w p t m) (hq:PI w q s m) (hr:PI w r v m) (hy:PI w y x m) (h:24*m≤900000000):Calls Tryz.prog 83 #[.string ⟨#[99,111,110]⟩,.slice (some ⟨g,0,none⟩) 4 cap] w (BEnd w (rndR t s v x)):=by
 have lo:=hp.x.lo
 have hm0:Mod (fun _=>False) w w:=Mod.refl _ w
 go_enter Tryz.func83,Tryz.ntmps83
 go_wp2_with fail
 have hT:=And.intro (cP0 b10) (And.intro (cP16 b11) (And.intro (cP32 b12) (cP48 b13)))
 have hdw:Mod (fun _=>False) w w.drew:=(Mod.refl _ w).drew
 replace hm0:=hm0.trans hdw
 replace b10:=b10.k hdw;replace b11:=b11.k hdw;replace b12:=b12.k hdw;replace b13:=b13.k hdw;replace hp:=hp.k hdw;replace hq:=hq.k hdw;replace hr:=hr.k hdw;replace hy:=hy.k hdw
 clear hdw
 have hS:=And.intro (cP0 b10) (And.intro (cP16 b11) (And.intro (cP32 b12) (cP48 b13)))
 go_region_held3 (fun w'=>CP0 g p w'∧CP16 g q w'∧CP32 g r w'∧CP48 g y w')
  (first | with_reducible exact hS | with_reducible exact hC | with_reducible exact hT)
  (first
   | (go_at_call 127;(fail_if_success have _e:=n1);refine (round_n hp hq hr hy (by omega)).mono ?_;rintro e w1 ⟨hm,rfl⟩;have n1:=True.intro;replace hm0:=hm0.trans hm;replace b10:=b10.k hm;replace b11:=b11.k hm;replace b12:=b12.k hm;replace b13:=b13.k hm;replace hp:=hp.k hm;replace hq:=hq.k hm;replace hr:=hr.k hm;replace hy:=hy.k hm;clear hm hS;have hS:=And.intro (cP0 b10) (And.intro (cP16 b11) (And.intro (cP32 b12) (cP48 b13)))))
 clear hS hT b10 b11 b12 b13 hp hq hr hy
 go_wp2_with fail
 go_ret
 exact ⟨hm0,rfl⟩
abbrev CL22 (g:Nat) (x:LV) (w:World):Prop:=w.cell? ⟨g,22,none⟩=some (.bool x.p.x.b)∧w.cell? ⟨g,23,none⟩=some (.slice x.p.x.a x.p.x.n x.p.x.c)∧w.cell? ⟨g,24,none⟩=some (.bool x.p.y.b)∧w.cell? ⟨g,25,none⟩=some (.slice x.p.y.a x.p.y.n x.p.y.c)∧w.cell? ⟨g,26,none⟩=some (.bool x.p.w.b)∧w.cell? ⟨g,27,none⟩=some (.slice x.p.w.a x.p.w.n x.p.w.c)∧w.cell? ⟨g,28,none⟩=some (.bool x.x.b)∧w.cell? ⟨g,29,none⟩=some (.slice x.x.a x.x.n x.x.c)∧w.cell? ⟨g,30,none⟩=some (.bool x.y.b)∧w.cell? ⟨g,31,none⟩=some (.slice x.y.a x.y.n x.y.c)
theorem cL22 {w:World} {g:Nat} {x:LV} (h:Cl w g 22 x.r):CL22 g x w:=⟨h 0 _ rfl,h 1 _ rfl,h 2 _ rfl,h 3 _ rfl,h 4 _ rfl,h 5 _ rfl,h 6 _ rfl,h 7 _ rfl,h 8 _ rfl,h 9 _ rfl⟩
set_option maxHeartbeats 3200000 in
set_option maxRecDepth 100000 in
theorem holds_on {w:World} {p:PV} {t:T3} {l:LV} {r:RL} {g cap m:Nat} (b10:Cl w g 0 p.r) (b11:Cl w g 22 l.r) (hp:PI w p t m) (hl:LI w l r m m) (h:24*m≤900000000):Calls Tryz.prog 83 #[.string ⟨#[111,110]⟩,.slice (some ⟨g,0,none⟩) 2 cap] w (BEnd w (onR t r)):=by
 have lo:=hp.x.lo
 have hm0:Mod (fun _=>False) w w:=Mod.refl _ w
 go_enter Tryz.func83,Tryz.ntmps83
 go_wp2_with fail
 have hT:=And.intro (cP0 b10) (cL22 b11)
 have hdw:Mod (fun _=>False) w w.drew:=(Mod.refl _ w).drew
 replace hm0:=hm0.trans hdw
 replace b10:=b10.k hdw;replace b11:=b11.k hdw;replace hp:=hp.k hdw;replace hl:=hl.k hdw
 clear hdw
 have hS:=And.intro (cP0 b10) (cL22 b11)
 go_region_held3 (fun w'=>CP0 g p w'∧CL22 g l w')
  (first | with_reducible exact hS | with_reducible exact hC | with_reducible exact hT)
  (first
   | (go_at_call 128;(fail_if_success have _e:=n1);refine (on_n hp hl (by omega)).mono ?_;rintro e w1 ⟨hm,rfl⟩;have n1:=True.intro;replace hm0:=hm0.trans hm;replace b10:=b10.k hm;replace b11:=b11.k hm;replace hp:=hp.k hm;replace hl:=hl.k hm;clear hm hS;have hS:=And.intro (cP0 b10) (cL22 b11)))
 clear hS hT b10 b11 hp hl
 go_wp2_with fail
 go_ret
 exact ⟨hm0,rfl⟩
abbrev CL6 (g:Nat) (x:LV) (w:World):Prop:=w.cell? ⟨g,6,none⟩=some (.bool x.p.x.b)∧w.cell? ⟨g,7,none⟩=some (.slice x.p.x.a x.p.x.n x.p.x.c)∧w.cell? ⟨g,8,none⟩=some (.bool x.p.y.b)∧w.cell? ⟨g,9,none⟩=some (.slice x.p.y.a x.p.y.n x.p.y.c)∧w.cell? ⟨g,10,none⟩=some (.bool x.p.w.b)∧w.cell? ⟨g,11,none⟩=some (.slice x.p.w.a x.p.w.n x.p.w.c)∧w.cell? ⟨g,12,none⟩=some (.bool x.x.b)∧w.cell? ⟨g,13,none⟩=some (.slice x.x.a x.x.n x.x.c)∧w.cell? ⟨g,14,none⟩=some (.bool x.y.b)∧w.cell? ⟨g,15,none⟩=some (.slice x.y.a x.y.n x.y.c)
theorem cL6 {w:World} {g:Nat} {x:LV} (h:Cl w g 6 x.r):CL6 g x w:=⟨h 0 _ rfl,h 1 _ rfl,h 2 _ rfl,h 3 _ rfl,h 4 _ rfl,h 5 _ rfl,h 6 _ rfl,h 7 _ rfl,h 8 _ rfl,h 9 _ rfl⟩
set_option maxHeartbeats 3200000 in
set_option maxRecDepth 100000 in
theorem holds_pll {w:World} {l o:LV} {r s:RL} {g cap m:Nat} (b10:Cl w g 6 l.r) (b11:Cl w g 22 o.r) (hl:LI w l r m m) (ho:LI w o s m m) (h:24*m≤900000000):Calls Tryz.prog 83 #[.string ⟨#[112,108,108]⟩,.slice (some ⟨g,0,none⟩) 2 cap] w (BEnd w (pllR r s)):=by
 have lo:=hl.p.x.lo
 have hm0:Mod (fun _=>False) w w:=Mod.refl _ w
 go_enter Tryz.func83,Tryz.ntmps83
 go_wp2_with fail
 have hT:=And.intro (cL6 b10) (cL22 b11)
 have hdw:Mod (fun _=>False) w w.drew:=(Mod.refl _ w).drew
 replace hm0:=hm0.trans hdw
 replace b10:=b10.k hdw;replace b11:=b11.k hdw;replace hl:=hl.k hdw;replace ho:=ho.k hdw
 clear hdw
 have hS:=And.intro (cL6 b10) (cL22 b11)
 go_region_held3 (fun w'=>CL6 g l w'∧CL22 g o w')
  (first | with_reducible exact hS | with_reducible exact hC | with_reducible exact hT)
  (first
   | (go_at_call 129;(fail_if_success have _e:=n1);refine (parallel_n hl ho (by omega)).mono ?_;rintro e w1 ⟨hm,rfl⟩;have n1:=True.intro;replace hm0:=hm0.trans hm;replace b10:=b10.k hm;replace b11:=b11.k hm;replace hl:=hl.k hm;replace ho:=ho.k hm;clear hm hS;have hS:=And.intro (cL6 b10) (cL22 b11)))
 clear hS hT b10 b11 hl ho
 go_wp2_with fail
 go_ret
 exact ⟨hm0,rfl⟩
set_option maxHeartbeats 3200000 in
set_option maxRecDepth 100000 in
theorem holds_prp {w:World} {l o:LV} {r s:RL} {g cap m:Nat} (b10:Cl w g 6 l.r) (b11:Cl w g 22 o.r) (hl:LI w l r m m) (ho:LI w o s m m) (h:24*m≤900000000):Calls Tryz.prog 83 #[.string ⟨#[112,114,112]⟩,.slice (some ⟨g,0,none⟩) 2 cap] w (BEnd w (decide (dotR r.d s.d=0))):=by
 have lo:=hl.p.x.lo
 have hm0:Mod (fun _=>False) w w:=Mod.refl _ w
 go_enter Tryz.func83,Tryz.ntmps83
 go_wp2_with fail
 have hT:=And.intro (cL6 b10) (cL22 b11)
 have hdw:Mod (fun _=>False) w w.drew:=(Mod.refl _ w).drew
 replace hm0:=hm0.trans hdw
 replace b10:=b10.k hdw;replace b11:=b11.k hdw;replace hl:=hl.k hdw;replace ho:=ho.k hdw
 clear hdw
 have hS:=And.intro (cL6 b10) (cL22 b11)
 go_region_held3 (fun w'=>CL6 g l w'∧CL22 g o w')
  (first | with_reducible exact hS | with_reducible exact hC | with_reducible exact hT)
  (first
   | (go_at_call 130;(fail_if_success have _e:=n4);have _d:=n3;refine (zero_n n3 (by omega)).mono ?_;rintro e w4 ⟨hm,rfl⟩;have n4:=True.intro;replace hm0:=hm0.trans hm;replace b10:=b10.k hm;replace b11:=b11.k hm;replace hl:=hl.k hm;replace ho:=ho.k hm;replace n1:=n1.k hm;replace n2:=n2.k hm;replace n3:=n3.k hm;clear hm hS;have hS:=And.intro (cL6 b10) (cL22 b11))
   | (go_at_call 131;(fail_if_success have _e:=n3);have _d:=n2;refine (dot_n n1 n2 (by omega)).mono ?_;rintro e w3 ⟨hm,z3,rfl,n3⟩;replace hm0:=hm0.trans hm;replace b10:=b10.k hm;replace b11:=b11.k hm;replace hl:=hl.k hm;replace ho:=ho.k hm;replace n1:=n1.k hm;replace n2:=n2.k hm;clear hm hS;have hS:=And.intro (cL6 b10) (cL22 b11))
   | (go_at_call 132;(fail_if_success have _e:=n2);have _d:=n1;refine (along_n ho).mono ?_;rintro e w2 ⟨hm,z2,rfl,n2⟩;replace hm0:=hm0.trans hm;replace b10:=b10.k hm;replace b11:=b11.k hm;replace hl:=hl.k hm;replace ho:=ho.k hm;replace n1:=n1.k hm;clear hm hS;have hS:=And.intro (cL6 b10) (cL22 b11))
   | (go_at_call 132;(fail_if_success have _e:=n1);refine (along_n hl).mono ?_;rintro e w1 ⟨hm,z1,rfl,n1⟩;replace hm0:=hm0.trans hm;replace b10:=b10.k hm;replace b11:=b11.k hm;replace hl:=hl.k hm;replace ho:=ho.k hm;clear hm hS;have hS:=And.intro (cL6 b10) (cL22 b11)))
 clear hS hT b10 b11 hl ho n1 n2 n3
 go_wp2_with fail
 go_ret
 exact ⟨hm0,rfl⟩
abbrev CL38 (g:Nat) (x:LV) (w:World):Prop:=w.cell? ⟨g,38,none⟩=some (.bool x.p.x.b)∧w.cell? ⟨g,39,none⟩=some (.slice x.p.x.a x.p.x.n x.p.x.c)∧w.cell? ⟨g,40,none⟩=some (.bool x.p.y.b)∧w.cell? ⟨g,41,none⟩=some (.slice x.p.y.a x.p.y.n x.p.y.c)∧w.cell? ⟨g,42,none⟩=some (.bool x.p.w.b)∧w.cell? ⟨g,43,none⟩=some (.slice x.p.w.a x.p.w.n x.p.w.c)∧w.cell? ⟨g,44,none⟩=some (.bool x.x.b)∧w.cell? ⟨g,45,none⟩=some (.slice x.x.a x.x.n x.x.c)∧w.cell? ⟨g,46,none⟩=some (.bool x.y.b)∧w.cell? ⟨g,47,none⟩=some (.slice x.y.a x.y.n x.y.c)
theorem cL38 {w:World} {g:Nat} {x:LV} (h:Cl w g 38 x.r):CL38 g x w:=⟨h 0 _ rfl,h 1 _ rfl,h 2 _ rfl,h 3 _ rfl,h 4 _ rfl,h 5 _ rfl,h 6 _ rfl,h 7 _ rfl,h 8 _ rfl,h 9 _ rfl⟩
set_option maxHeartbeats 3200000 in
set_option maxRecDepth 100000 in
theorem holds_cc {w:World} {l o z:LV} {r s u:RL} {g cap m:Nat} (b10:Cl w g 6 l.r) (b11:Cl w g 22 o.r) (b12:Cl w g 38 z.r) (hl:LI w l r m m) (ho:LI w o s m m) (hz:LI w z u m m) (h:24*m≤900000000):Calls Tryz.prog 83 #[.string ⟨#[99,99]⟩,.slice (some ⟨g,0,none⟩) 3 cap] w (BEnd w (bunR r s u)):=by
 have lo:=hl.p.x.lo
 have hm0:Mod (fun _=>False) w w:=Mod.refl _ w
 go_enter Tryz.func83,Tryz.ntmps83
 go_wp2_with fail
 have hT:=And.intro (cL6 b10) (And.intro (cL22 b11) (cL38 b12))
 have hdw:Mod (fun _=>False) w w.drew:=(Mod.refl _ w).drew
 replace hm0:=hm0.trans hdw
 replace b10:=b10.k hdw;replace b11:=b11.k hdw;replace b12:=b12.k hdw;replace hl:=hl.k hdw;replace ho:=ho.k hdw;replace hz:=hz.k hdw
 clear hdw
 have hS:=And.intro (cL6 b10) (And.intro (cL22 b11) (cL38 b12))
 go_region_held3 (fun w'=>CL6 g l w'∧CL22 g o w'∧CL38 g z w')
  (first | with_reducible exact hS | with_reducible exact hC | with_reducible exact hT)
  (first
   | (go_at_call 133;(fail_if_success have _e:=n1);refine (bundle_n hl ho hz (by omega)).mono ?_;rintro e w1 ⟨hm,rfl⟩;have n1:=True.intro;replace hm0:=hm0.trans hm;replace b10:=b10.k hm;replace b11:=b11.k hm;replace b12:=b12.k hm;replace hl:=hl.k hm;replace ho:=ho.k hm;replace hz:=hz.k hm;clear hm hS;have hS:=And.intro (cL6 b10) (And.intro (cL22 b11) (cL38 b12))))
 clear hS hT b10 b11 b12 hl ho hz
 go_wp2_with fail
 go_ret
 exact ⟨hm0,rfl⟩
end Go.Proofs.YtmnfndpbblpjiaaGreatDoor

/- The document's questions. -/
import Derived.Test.YtmnfndpbblpjiabGreatDoorZx39
set_option maxHeartbeats 3200000
set_option maxRecDepth 100000
namespace Go.Proofs.YtmnfndpbblpjiabGreatDoor
open Go.RowKit Pu
def Cl (w:World) (g off:Nat) (cs:Array Value):Prop:=∀ (i:Nat) (c:Value),cs[i]?=some c->w.cell? ⟨g,off+i,none⟩=some c
theorem Cl.k {w w':World} {g off:Nat} {cs:Array Value} (h:Cl w g off cs) (hm:Mod (fun _=>False) w w'):Cl w' g off cs:=fun i c e=>hm.cell (h i c e)
theorem Cl.o {w:World} {g k off:Nat} {cs:Array Value} (h:Cl w g off cs) (hg:g≠k) (j:Nat) (y:Value):Cl (w.setCell ⟨k,j,none⟩ y) g off cs:=fun i c e=>by
 rw[World.cell?_of_block (Below.heap_setCell _ _ _ _ hg)];exact h i c e
theorem Y9 (i:Int):decide (0 < jF i)=decide (0 < i):=by
 unfold jF
 by_cases h:i < 0
 ·rw[if_pos h];simp;omega
 ·rw[if_neg h];by_cases h0:i=0
  ·simp[h0]
  ·rw[if_neg h0];simp;omega
abbrev Ir (g:Nat) (x:PV) (w:World):Prop:=w.cell? ⟨g,0,none⟩=some (.bool x.x.b)/\w.cell? ⟨g,1,none⟩=some (.slice x.x.a x.x.n x.x.c)/\w.cell? ⟨g,2,none⟩=some (.bool x.y.b)/\w.cell? ⟨g,3,none⟩=some (.slice x.y.a x.y.n x.y.c)/\w.cell? ⟨g,4,none⟩=some (.bool x.w.b)/\w.cell? ⟨g,5,none⟩=some (.slice x.w.a x.w.n x.w.c)
theorem jS {w:World} {g:Nat} {x:PV} (h:Cl w g 0 x.r):Ir g x w:=⟨h 0 _ rfl,h 1 _ rfl,h 2 _ rfl,h 3 _ rfl,h 4 _ rfl,h 5 _ rfl⟩
abbrev Cc (g:Nat) (x:PV) (w:World):Prop:=w.cell? ⟨g,16,none⟩=some (.bool x.x.b)/\w.cell? ⟨g,17,none⟩=some (.slice x.x.a x.x.n x.x.c)/\w.cell? ⟨g,18,none⟩=some (.bool x.y.b)/\w.cell? ⟨g,19,none⟩=some (.slice x.y.a x.y.n x.y.c)/\w.cell? ⟨g,20,none⟩=some (.bool x.w.b)/\w.cell? ⟨g,21,none⟩=some (.slice x.w.a x.w.n x.w.c)
theorem gX {w:World} {g:Nat} {x:PV} (h:Cl w g 16 x.r):Cc g x w:=⟨h 0 _ rfl,h 1 _ rfl,h 2 _ rfl,h 3 _ rfl,h 4 _ rfl,h 5 _ rfl⟩
theorem JC {w:World} {p q:PV} {t s:T3} {g cap m:Nat} (b10:Cl w g 0 p.r) (b11:Cl w g 16 q.r) (hp:PI w p t m) (hq:PI w q s m) (h:24*m<=900000000):Calls Tryz.prog 113 #[.string ⟨#[115,97,109,101]⟩,.slice (some ⟨g,0,none⟩) 2 cap] w (pR w (cB t s)):=by
 have lo:=hp.x.lo
 have hm0:Mod (fun _=>False) w w:=Mod.refl _ w
 go_in
 go_wp2_with fail
 have hT:=zI (jS b10) (gX b11)
 have hdw:Mod (fun _=>False) w w.drew:=(Mod.refl _ w).drew
 replace hm0:=hm0.trans hdw
 replace b10:=b10.k hdw;replace b11:=b11.k hdw;replace hp:=hp.k hdw;replace hq:=hq.k hdw
 clear hdw
 have hS:=zI (jS b10) (gX b11)
 go_region_held3 (fun w'=>Ir g p w'/\Cc g q w')
  (first | with_reducible exact hS | with_reducible exact hC | with_reducible exact hT)
  (first
   | (go_at_call 155;(fail_if_success have _e:=n1);refine (mU hp hq (by omega)).mono ?_;rintro e w1 ⟨hm,rfl⟩;have n1:=True.intro;replace hm0:=hm0.trans hm;replace b10:=b10.k hm;replace b11:=b11.k hm;replace hp:=hp.k hm;replace hq:=hq.k hm;clear hm hS;have hS:=zI (jS b10) (gX b11)))
 clear hS hT b10 b11 hp hq
 go_wp2
 go_ret
 exact⟨hm0,rfl⟩
abbrev LJ (g:Nat) (x:PV) (w:World):Prop:=w.cell? ⟨g,32,none⟩=some (.bool x.x.b)/\w.cell? ⟨g,33,none⟩=some (.slice x.x.a x.x.n x.x.c)/\w.cell? ⟨g,34,none⟩=some (.bool x.y.b)/\w.cell? ⟨g,35,none⟩=some (.slice x.y.a x.y.n x.y.c)/\w.cell? ⟨g,36,none⟩=some (.bool x.w.b)/\w.cell? ⟨g,37,none⟩=some (.slice x.w.a x.w.n x.w.c)
theorem oF {w:World} {g:Nat} {x:PV} (h:Cl w g 32 x.r):LJ g x w:=⟨h 0 _ rfl,h 1 _ rfl,h 2 _ rfl,h 3 _ rfl,h 4 _ rfl,h 5 _ rfl⟩
theorem MP {w:World} {p q r:PV} {t s v:T3} {g cap m:Nat} (b10:Cl w g 0 p.r) (b11:Cl w g 16 q.r) (b12:Cl w g 32 r.r) (hp:PI w p t m) (hq:PI w q s m) (hr:PI w r v m) (h:24*m<=900000000):Calls Tryz.prog 113 #[.string ⟨#[99,111,108]⟩,.slice (some ⟨g,0,none⟩) 3 cap] w (pR w (iY t s v)):=by
 have lo:=hp.x.lo
 have hm0:Mod (fun _=>False) w w:=Mod.refl _ w
 go_in
 go_wp2_with fail
 have hT:=zI (jS b10) (zI (gX b11) (oF b12))
 have hdw:Mod (fun _=>False) w w.drew:=(Mod.refl _ w).drew
 replace hm0:=hm0.trans hdw
 replace b10:=b10.k hdw;replace b11:=b11.k hdw;replace b12:=b12.k hdw;replace hp:=hp.k hdw;replace hq:=hq.k hdw;replace hr:=hr.k hdw
 clear hdw
 have hS:=zI (jS b10) (zI (gX b11) (oF b12))
 go_region_held3 (fun w'=>Ir g p w'/\Cc g q w'/\LJ g r w')
  (first | with_reducible exact hS | with_reducible exact hC | with_reducible exact hT)
  (first
   | (go_at_call 156;(fail_if_success have _e:=n1);refine (jV hp hq hr (by omega)).mono ?_;rintro e w1 ⟨hm,rfl⟩;have n1:=True.intro;replace hm0:=hm0.trans hm;replace b10:=b10.k hm;replace b11:=b11.k hm;replace b12:=b12.k hm;replace hp:=hp.k hm;replace hq:=hq.k hm;replace hr:=hr.k hm;clear hm hS;have hS:=zI (jS b10) (zI (gX b11) (oF b12))))
 clear hS hT b10 b11 b12 hp hq hr
 go_wp2
 go_ret
 exact⟨hm0,rfl⟩
theorem MO {w:World} {p q r:PV} {t s v:T3} {g cap m:Nat} (b10:Cl w g 0 p.r) (b11:Cl w g 16 q.r) (b12:Cl w g 32 r.r) (hp:PI w p t m) (hq:PI w q s m) (hr:PI w r v m) (h:24*m<=900000000):Calls Tryz.prog 113 #[.string ⟨#[99,99,119]⟩,.slice (some ⟨g,0,none⟩) 3 cap] w (pR w (decide (0 < jK (iU t s) (iU t v)))):=by
 have lo:=hp.x.lo
 have hm0:Mod (fun _=>False) w w:=Mod.refl _ w
 go_in
 go_wp2_with fail
 have hT:=zI (jS b10) (zI (gX b11) (oF b12))
 have hdw:Mod (fun _=>False) w w.drew:=(Mod.refl _ w).drew
 replace hm0:=hm0.trans hdw
 replace b10:=b10.k hdw;replace b11:=b11.k hdw;replace b12:=b12.k hdw;replace hp:=hp.k hdw;replace hq:=hq.k hdw;replace hr:=hr.k hdw
 clear hdw
 have hS:=zI (jS b10) (zI (gX b11) (oF b12))
 go_region_held3 (fun w'=>Ir g p w'/\Cc g q w'/\LJ g r w')
  (first | with_reducible exact hS | with_reducible exact hC | with_reducible exact hT)
  (first
   | (go_at_call 107;(fail_if_success have _e:=n4);have _d:=n3;refine (EC n3 (by omega)).mono ?_;rintro e w4 ⟨hm,rfl⟩;have n4:=True.intro;replace hm0:=hm0.trans hm;replace b10:=b10.k hm;replace b11:=b11.k hm;replace b12:=b12.k hm;replace hp:=hp.k hm;replace hq:=hq.k hm;replace hr:=hr.k hm;replace n1:=n1.k hm;replace n2:=n2.k hm;replace n3:=n3.k hm;clear hm hS;have hS:=zI (jS b10) (zI (gX b11) (oF b12)))
   | (go_at_call 157;(fail_if_success have _e:=n3);have _d:=n2;refine (yK n1 n2 (by omega)).mono ?_;rintro e w3 ⟨hm,z3,rfl,n3⟩;replace hm0:=hm0.trans hm;replace b10:=b10.k hm;replace b11:=b11.k hm;replace b12:=b12.k hm;replace hp:=hp.k hm;replace hq:=hq.k hm;replace hr:=hr.k hm;replace n1:=n1.k hm;replace n2:=n2.k hm;clear hm hS;have hS:=zI (jS b10) (zI (gX b11) (oF b12)))
   | (go_at_call 158;(fail_if_success have _e:=n2);have _d:=n1;refine (kr hp hr (by omega)).mono ?_;rintro e w2 ⟨hm,z2,rfl,n2⟩;replace hm0:=hm0.trans hm;replace b10:=b10.k hm;replace b11:=b11.k hm;replace b12:=b12.k hm;replace hp:=hp.k hm;replace hq:=hq.k hm;replace hr:=hr.k hm;replace n1:=n1.k hm;clear hm hS;have hS:=zI (jS b10) (zI (gX b11) (oF b12)))
   | (go_at_call 158;(fail_if_success have _e:=n1);refine (kr hp hq (by omega)).mono ?_;rintro e w1 ⟨hm,z1,rfl,n1⟩;replace hm0:=hm0.trans hm;replace b10:=b10.k hm;replace b11:=b11.k hm;replace b12:=b12.k hm;replace hp:=hp.k hm;replace hq:=hq.k hm;replace hr:=hr.k hm;clear hm hS;have hS:=zI (jS b10) (zI (gX b11) (oF b12))))
 clear hS hT b10 b11 b12 hp hq hr n1 n2 n3
 go_wp2
 go_ret
 exact⟨hm0,by rw[Y9];rfl⟩
theorem MN {w:World} {p q r:PV} {t s v:T3} {g cap m:Nat} (b10:Cl w g 0 p.r) (b11:Cl w g 16 q.r) (b12:Cl w g 32 r.r) (hp:PI w p t m) (hq:PI w q s m) (hr:PI w r v m) (h:24*m<=900000000):Calls Tryz.prog 113 #[.string ⟨#[98,116,119]⟩,.slice (some ⟨g,0,none⟩) 3 cap] w (pR w (I9 t s v)):=by
 have lo:=hp.x.lo
 have hm0:Mod (fun _=>False) w w:=Mod.refl _ w
 go_in
 go_wp2_with fail
 have hT:=zI (jS b10) (zI (gX b11) (oF b12))
 have hdw:Mod (fun _=>False) w w.drew:=(Mod.refl _ w).drew
 replace hm0:=hm0.trans hdw
 replace b10:=b10.k hdw;replace b11:=b11.k hdw;replace b12:=b12.k hdw;replace hp:=hp.k hdw;replace hq:=hq.k hdw;replace hr:=hr.k hdw
 clear hdw
 have hS:=zI (jS b10) (zI (gX b11) (oF b12))
 go_region_held3 (fun w'=>Ir g p w'/\Cc g q w'/\LJ g r w')
  (first | with_reducible exact hS | with_reducible exact hC | with_reducible exact hT)
  (first
   | (go_at_call 159;(fail_if_success have _e:=n1);refine (L9 hp hq hr (by omega)).mono ?_;rintro e w1 ⟨hm,rfl⟩;have n1:=True.intro;replace hm0:=hm0.trans hm;replace b10:=b10.k hm;replace b11:=b11.k hm;replace b12:=b12.k hm;replace hp:=hp.k hm;replace hq:=hq.k hm;replace hr:=hr.k hm;clear hm hS;have hS:=zI (jS b10) (zI (gX b11) (oF b12))))
 clear hS hT b10 b11 b12 hp hq hr
 go_wp2
 go_ret
 exact⟨hm0,rfl⟩
abbrev ZE (g:Nat) (x:PV) (w:World):Prop:=w.cell? ⟨g,48,none⟩=some (.bool x.x.b)/\w.cell? ⟨g,49,none⟩=some (.slice x.x.a x.x.n x.x.c)/\w.cell? ⟨g,50,none⟩=some (.bool x.y.b)/\w.cell? ⟨g,51,none⟩=some (.slice x.y.a x.y.n x.y.c)/\w.cell? ⟨g,52,none⟩=some (.bool x.w.b)/\w.cell? ⟨g,53,none⟩=some (.slice x.w.a x.w.n x.w.c)
theorem XK {w:World} {g:Nat} {x:PV} (h:Cl w g 48 x.r):ZE g x w:=⟨h 0 _ rfl,h 1 _ rfl,h 2 _ rfl,h 3 _ rfl,h 4 _ rfl,h 5 _ rfl⟩
theorem MQ {w:World} {p q r y:PV} {t s v x:T3} {g cap m:Nat} (b10:Cl w g 0 p.r) (b11:Cl w g 16 q.r) (b12:Cl w g 32 r.r) (b13:Cl w g 48 y.r) (hp:PI w p t m) (hq:PI w q s m) (hr:PI w r v m) (hy:PI w y x m) (h:24*m<=900000000):Calls Tryz.prog 113 #[.string ⟨#[99,111,110]⟩,.slice (some ⟨g,0,none⟩) 4 cap] w (pR w (Kn t s v x)):=by
 have lo:=hp.x.lo
 have hm0:Mod (fun _=>False) w w:=Mod.refl _ w
 go_in
 go_wp2_with fail
 have hT:=zI (jS b10) (zI (gX b11) (zI (oF b12) (XK b13)))
 have hdw:Mod (fun _=>False) w w.drew:=(Mod.refl _ w).drew
 replace hm0:=hm0.trans hdw
 replace b10:=b10.k hdw;replace b11:=b11.k hdw;replace b12:=b12.k hdw;replace b13:=b13.k hdw;replace hp:=hp.k hdw;replace hq:=hq.k hdw;replace hr:=hr.k hdw;replace hy:=hy.k hdw
 clear hdw
 have hS:=zI (jS b10) (zI (gX b11) (zI (oF b12) (XK b13)))
 go_region_held3 (fun w'=>Ir g p w'/\Cc g q w'/\LJ g r w'/\ZE g y w')
  (first | with_reducible exact hS | with_reducible exact hC | with_reducible exact hT)
  (first
   | (go_at_call 160;(fail_if_success have _e:=n1);refine (VT hp hq hr hy (by omega)).mono ?_;rintro e w1 ⟨hm,rfl⟩;have n1:=True.intro;replace hm0:=hm0.trans hm;replace b10:=b10.k hm;replace b11:=b11.k hm;replace b12:=b12.k hm;replace b13:=b13.k hm;replace hp:=hp.k hm;replace hq:=hq.k hm;replace hr:=hr.k hm;replace hy:=hy.k hm;clear hm hS;have hS:=zI (jS b10) (zI (gX b11) (zI (oF b12) (XK b13)))))
 clear hS hT b10 b11 b12 b13 hp hq hr hy
 go_wp2
 go_ret
 exact⟨hm0,rfl⟩
abbrev Cb (g:Nat) (x:LV) (w:World):Prop:=w.cell? ⟨g,22,none⟩=some (.bool x.p.x.b)/\w.cell? ⟨g,23,none⟩=some (.slice x.p.x.a x.p.x.n x.p.x.c)/\w.cell? ⟨g,24,none⟩=some (.bool x.p.y.b)/\w.cell? ⟨g,25,none⟩=some (.slice x.p.y.a x.p.y.n x.p.y.c)/\w.cell? ⟨g,26,none⟩=some (.bool x.p.w.b)/\w.cell? ⟨g,27,none⟩=some (.slice x.p.w.a x.p.w.n x.p.w.c)/\w.cell? ⟨g,28,none⟩=some (.bool x.x.b)/\w.cell? ⟨g,29,none⟩=some (.slice x.x.a x.x.n x.x.c)/\w.cell? ⟨g,30,none⟩=some (.bool x.y.b)/\w.cell? ⟨g,31,none⟩=some (.slice x.y.a x.y.n x.y.c)
theorem iD {w:World} {g:Nat} {x:LV} (h:Cl w g 22 x.r):Cb g x w:=⟨h 0 _ rfl,h 1 _ rfl,h 2 _ rfl,h 3 _ rfl,h 4 _ rfl,h 5 _ rfl,h 6 _ rfl,h 7 _ rfl,h 8 _ rfl,h 9 _ rfl⟩
theorem Qn {w:World} {p:PV} {t:T3} {l:LV} {r:RL} {g cap m:Nat} (b10:Cl w g 0 p.r) (b11:Cl w g 22 l.r) (hp:PI w p t m) (hl:LI w l r m m) (h:24*m<=900000000):Calls Tryz.prog 113 #[.string ⟨#[111,110]⟩,.slice (some ⟨g,0,none⟩) 2 cap] w (pR w (VB t r)):=by
 have lo:=hp.x.lo
 have hm0:Mod (fun _=>False) w w:=Mod.refl _ w
 go_in
 go_wp2_with fail
 have hT:=zI (jS b10) (iD b11)
 have hdw:Mod (fun _=>False) w w.drew:=(Mod.refl _ w).drew
 replace hm0:=hm0.trans hdw
 replace b10:=b10.k hdw;replace b11:=b11.k hdw;replace hp:=hp.k hdw;replace hl:=hl.k hdw
 clear hdw
 have hS:=zI (jS b10) (iD b11)
 go_region_held3 (fun w'=>Ir g p w'/\Cb g l w')
  (first | with_reducible exact hS | with_reducible exact hC | with_reducible exact hT)
  (first
   | (go_at_call 161;(fail_if_success have _e:=n1);refine (YU hp hl (by omega)).mono ?_;rintro e w1 ⟨hm,rfl⟩;have n1:=True.intro;replace hm0:=hm0.trans hm;replace b10:=b10.k hm;replace b11:=b11.k hm;replace hp:=hp.k hm;replace hl:=hl.k hm;clear hm hS;have hS:=zI (jS b10) (iD b11)))
 clear hS hT b10 b11 hp hl
 go_wp2
 go_ret
 exact⟨hm0,rfl⟩
abbrev ZC (g:Nat) (x:LV) (w:World):Prop:=w.cell? ⟨g,6,none⟩=some (.bool x.p.x.b)/\w.cell? ⟨g,7,none⟩=some (.slice x.p.x.a x.p.x.n x.p.x.c)/\w.cell? ⟨g,8,none⟩=some (.bool x.p.y.b)/\w.cell? ⟨g,9,none⟩=some (.slice x.p.y.a x.p.y.n x.p.y.c)/\w.cell? ⟨g,10,none⟩=some (.bool x.p.w.b)/\w.cell? ⟨g,11,none⟩=some (.slice x.p.w.a x.p.w.n x.p.w.c)/\w.cell? ⟨g,12,none⟩=some (.bool x.x.b)/\w.cell? ⟨g,13,none⟩=some (.slice x.x.a x.x.n x.x.c)/\w.cell? ⟨g,14,none⟩=some (.bool x.y.b)/\w.cell? ⟨g,15,none⟩=some (.slice x.y.a x.y.n x.y.c)
theorem DL {w:World} {g:Nat} {x:LV} (h:Cl w g 6 x.r):ZC g x w:=⟨h 0 _ rfl,h 1 _ rfl,h 2 _ rfl,h 3 _ rfl,h 4 _ rfl,h 5 _ rfl,h 6 _ rfl,h 7 _ rfl,h 8 _ rfl,h 9 _ rfl⟩
theorem MR {w:World} {l o:LV} {r s:RL} {g cap m:Nat} (b10:Cl w g 6 l.r) (b11:Cl w g 22 o.r) (hl:LI w l r m m) (ho:LI w o s m m) (h:24*m<=900000000):Calls Tryz.prog 113 #[.string ⟨#[112,108,108]⟩,.slice (some ⟨g,0,none⟩) 2 cap] w (pR w (jf r s)):=by
 have lo:=hl.p.x.lo
 have hm0:Mod (fun _=>False) w w:=Mod.refl _ w
 go_in
 go_wp2_with fail
 have hT:=zI (DL b10) (iD b11)
 have hdw:Mod (fun _=>False) w w.drew:=(Mod.refl _ w).drew
 replace hm0:=hm0.trans hdw
 replace b10:=b10.k hdw;replace b11:=b11.k hdw;replace hl:=hl.k hdw;replace ho:=ho.k hdw
 clear hdw
 have hS:=zI (DL b10) (iD b11)
 go_region_held3 (fun w'=>ZC g l w'/\Cb g o w')
  (first | with_reducible exact hS | with_reducible exact hC | with_reducible exact hT)
  (first
   | (go_at_call 162;(fail_if_success have _e:=n1);refine (Kg hl ho (by omega)).mono ?_;rintro e w1 ⟨hm,rfl⟩;have n1:=True.intro;replace hm0:=hm0.trans hm;replace b10:=b10.k hm;replace b11:=b11.k hm;replace hl:=hl.k hm;replace ho:=ho.k hm;clear hm hS;have hS:=zI (DL b10) (iD b11)))
 clear hS hT b10 b11 hl ho
 go_wp2
 go_ret
 exact⟨hm0,rfl⟩
theorem MS {w:World} {l o:LV} {r s:RL} {g cap m:Nat} (b10:Cl w g 6 l.r) (b11:Cl w g 22 o.r) (hl:LI w l r m m) (ho:LI w o s m m) (h:24*m<=900000000):Calls Tryz.prog 113 #[.string ⟨#[112,114,112]⟩,.slice (some ⟨g,0,none⟩) 2 cap] w (pR w (decide (mG r.d s.d=0))):=by
 have lo:=hl.p.x.lo
 have hm0:Mod (fun _=>False) w w:=Mod.refl _ w
 go_in
 go_wp2_with fail
 have hT:=zI (DL b10) (iD b11)
 have hdw:Mod (fun _=>False) w w.drew:=(Mod.refl _ w).drew
 replace hm0:=hm0.trans hdw
 replace b10:=b10.k hdw;replace b11:=b11.k hdw;replace hl:=hl.k hdw;replace ho:=ho.k hdw
 clear hdw
 have hS:=zI (DL b10) (iD b11)
 go_region_held3 (fun w'=>ZC g l w'/\Cb g o w')
  (first | with_reducible exact hS | with_reducible exact hC | with_reducible exact hT)
  (first
   | (go_at_call 163;(fail_if_success have _e:=n4);have _d:=n3;refine (tJ n3 (by omega)).mono ?_;rintro e w4 ⟨hm,rfl⟩;have n4:=True.intro;replace hm0:=hm0.trans hm;replace b10:=b10.k hm;replace b11:=b11.k hm;replace hl:=hl.k hm;replace ho:=ho.k hm;replace n1:=n1.k hm;replace n2:=n2.k hm;replace n3:=n3.k hm;clear hm hS;have hS:=zI (DL b10) (iD b11))
   | (go_at_call 164;(fail_if_success have _e:=n3);have _d:=n2;refine (FH n1 n2 (by omega)).mono ?_;rintro e w3 ⟨hm,z3,rfl,n3⟩;replace hm0:=hm0.trans hm;replace b10:=b10.k hm;replace b11:=b11.k hm;replace hl:=hl.k hm;replace ho:=ho.k hm;replace n1:=n1.k hm;replace n2:=n2.k hm;clear hm hS;have hS:=zI (DL b10) (iD b11))
   | (go_at_call 165;(fail_if_success have _e:=n2);have _d:=n1;refine (oK ho).mono ?_;rintro e w2 ⟨hm,z2,rfl,n2⟩;replace hm0:=hm0.trans hm;replace b10:=b10.k hm;replace b11:=b11.k hm;replace hl:=hl.k hm;replace ho:=ho.k hm;replace n1:=n1.k hm;clear hm hS;have hS:=zI (DL b10) (iD b11))
   | (go_at_call 165;(fail_if_success have _e:=n1);refine (oK hl).mono ?_;rintro e w1 ⟨hm,z1,rfl,n1⟩;replace hm0:=hm0.trans hm;replace b10:=b10.k hm;replace b11:=b11.k hm;replace hl:=hl.k hm;replace ho:=ho.k hm;clear hm hS;have hS:=zI (DL b10) (iD b11)))
 clear hS hT b10 b11 hl ho n1 n2 n3
 go_wp2
 go_ret
 exact⟨hm0,rfl⟩
abbrev ZB (g:Nat) (x:LV) (w:World):Prop:=w.cell? ⟨g,38,none⟩=some (.bool x.p.x.b)/\w.cell? ⟨g,39,none⟩=some (.slice x.p.x.a x.p.x.n x.p.x.c)/\w.cell? ⟨g,40,none⟩=some (.bool x.p.y.b)/\w.cell? ⟨g,41,none⟩=some (.slice x.p.y.a x.p.y.n x.p.y.c)/\w.cell? ⟨g,42,none⟩=some (.bool x.p.w.b)/\w.cell? ⟨g,43,none⟩=some (.slice x.p.w.a x.p.w.n x.p.w.c)/\w.cell? ⟨g,44,none⟩=some (.bool x.x.b)/\w.cell? ⟨g,45,none⟩=some (.slice x.x.a x.x.n x.x.c)/\w.cell? ⟨g,46,none⟩=some (.bool x.y.b)/\w.cell? ⟨g,47,none⟩=some (.slice x.y.a x.y.n x.y.c)
theorem XJ {w:World} {g:Nat} {x:LV} (h:Cl w g 38 x.r):ZB g x w:=⟨h 0 _ rfl,h 1 _ rfl,h 2 _ rfl,h 3 _ rfl,h 4 _ rfl,h 5 _ rfl,h 6 _ rfl,h 7 _ rfl,h 8 _ rfl,h 9 _ rfl⟩
theorem Qm {w:World} {l o z:LV} {r s u:RL} {g cap m:Nat} (b10:Cl w g 6 l.r) (b11:Cl w g 22 o.r) (b12:Cl w g 38 z.r) (hl:LI w l r m m) (ho:LI w o s m m) (hz:LI w z u m m) (h:24*m<=900000000):Calls Tryz.prog 113 #[.string ⟨#[99,99]⟩,.slice (some ⟨g,0,none⟩) 3 cap] w (pR w (Mj r s u)):=by
 have lo:=hl.p.x.lo
 have hm0:Mod (fun _=>False) w w:=Mod.refl _ w
 go_in
 go_wp2_with fail
 have hT:=zI (DL b10) (zI (iD b11) (XJ b12))
 have hdw:Mod (fun _=>False) w w.drew:=(Mod.refl _ w).drew
 replace hm0:=hm0.trans hdw
 replace b10:=b10.k hdw;replace b11:=b11.k hdw;replace b12:=b12.k hdw;replace hl:=hl.k hdw;replace ho:=ho.k hdw;replace hz:=hz.k hdw
 clear hdw
 have hS:=zI (DL b10) (zI (iD b11) (XJ b12))
 go_region_held3 (fun w'=>ZC g l w'/\Cb g o w'/\ZB g z w')
  (first | with_reducible exact hS | with_reducible exact hC | with_reducible exact hT)
  (first
   | (go_at_call 166;(fail_if_success have _e:=n1);refine (Pj hl ho hz (by omega)).mono ?_;rintro e w1 ⟨hm,rfl⟩;have n1:=True.intro;replace hm0:=hm0.trans hm;replace b10:=b10.k hm;replace b11:=b11.k hm;replace b12:=b12.k hm;replace hl:=hl.k hm;replace ho:=ho.k hm;replace hz:=hz.k hm;clear hm hS;have hS:=zI (DL b10) (zI (iD b11) (XJ b12))))
 clear hS hT b10 b11 b12 hl ho hz
 go_wp2
 go_ret
 exact⟨hm0,rfl⟩
end Go.Proofs.YtmnfndpbblpjiabGreatDoor

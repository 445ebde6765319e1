/- The steps that are made are right ones. -/
import Derived.Test.YtmnfndpbblpjiaaGreatDoorZr19
import Derived.Test.YtmnfndpbblpjiaaGreatDoorZr37
namespace Go.Proofs.YtmnfndpbblpjiaaGreatDoor.Pu
def okG (n:Nat):(Nat→Bool)→List Stp→Prop
 | _,[]=>True
 | M,t :: l=>Small t∧properB t 128 n=true∧(∀ r∈readsOf t,r < 128∧M r=true)∧okG n (if t.op≤5 then upd t.x true M else M) l
theorem okG_okL {n:Nat}:∀ (l:List Stp) (M:Nat→Bool),okG n M l→okL 128 n M l
 | [],_,_=>trivial
 | _ :: l,_,h=>⟨h.2.1,h.2.2.1,okG_okL l _ h.2.2.2⟩
theorem okG_small {n:Nat}:∀ (l:List Stp) (M:Nat→Bool),okG n M l→∀ t∈l,Small t
 | [],_,_,_,ht=>by cases ht
 | _ :: l,_,h,u,hu=>by
  rcases List.mem_cons.1 hu with e | hu
  ·subst e;exact h.1
  ·exact okG_small l _ h.2.2.2 u hu
def Sub (M M':Nat→Bool):Prop:=∀ r,M r=true→M' r=true
theorem Sub.trans {A B C:Nat→Bool} (h:Sub A B) (k:Sub B C):Sub A C:=fun r hr=>k r (h r hr)
def Rs (M:Nat→Bool) (r:Nat):Prop:=r < 128∧M r=true
def Rt (M:Nat→Bool) (t:Tr):Prop:=Rs M t.x∧Rs M t.y∧Rs M t.w
theorem Rs.sub {M M':Nat→Bool} {r:Nat} (h:Rs M r) (k:Sub M M'):Rs M' r:=⟨h.1,k r h.2⟩
theorem Rt.sub {M M':Nat→Bool} {r:Tr} (h:Rt M r) (k:Sub M M'):Rt M' r:=⟨h.1.sub k,h.2.1.sub k,h.2.2.sub k⟩
theorem upd_sub (M:Nat→Bool) (x:Nat):Sub M (upd x true M):=fun r h=>by unfold upd;split <;> simp [h]
theorem upd_at (M:Nat→Bool) (x:Nat):upd x true M x=true:=by simp [upd]
section
variable {n s:Nat} {M:Nat→Bool} {l:List Stp}
theorem og_set {op x y z:Nat} (hs:x < 128) (hop:op≤5) (hsm:Small ⟨op,x,y,z⟩) (hp:properB ⟨op,x,y,z⟩ 128 n=true) (hr:∀ r∈readsOf ⟨op,x,y,z⟩,r < 128∧M r=true) (k:∀ M',Sub M M'→Rs M' x→okG n M' l):okG n M (⟨op,x,y,z⟩ :: l):=by
 refine ⟨hsm,hp,hr,?_⟩
 rw [if_pos hop]
 exact k _ (upd_sub M x) ⟨hs,upd_at M x⟩
theorem og_add {x y z:Nat} (hs:x < 128) (hy:Rs M y) (hz:Rs M z) (k:∀ M',Sub M M'→Rs M' x→okG n M' l):okG n M (⟨2,x,y,z⟩ :: l):=by
 have h1:=hy.1
 have h2:=hz.1
 refine og_set hs (by omega) ⟨by show 2 < 256;omega,by show x < 256;omega,by show y < 256;omega,by show z < 256;omega⟩ ?_ ?_ k
 ·simp [properB];omega
 ·intro r hr
  simp [readsOf] at hr
  rcases hr with rfl | rfl
  ·exact hy
  ·exact hz
theorem og_sub {x y z:Nat} (hs:x < 128) (hy:Rs M y) (hz:Rs M z) (k:∀ M',Sub M M'→Rs M' x→okG n M' l):okG n M (⟨3,x,y,z⟩ :: l):=by
 have h1:=hy.1
 have h2:=hz.1
 refine og_set hs (by omega) ⟨by show 3 < 256;omega,by show x < 256;omega,by show y < 256;omega,by show z < 256;omega⟩ ?_ ?_ k
 ·simp [properB];omega
 ·intro r hr
  simp [readsOf] at hr
  rcases hr with rfl | rfl
  ·exact hy
  ·exact hz
theorem og_mul {x y z:Nat} (hs:x < 128) (hy:Rs M y) (hz:Rs M z) (k:∀ M',Sub M M'→Rs M' x→okG n M' l):okG n M (⟨4,x,y,z⟩ :: l):=by
 have h1:=hy.1
 have h2:=hz.1
 refine og_set hs (by omega) ⟨by show 4 < 256;omega,by show x < 256;omega,by show y < 256;omega,by show z < 256;omega⟩ ?_ ?_ k
 ·simp [properB];omega
 ·intro r hr
  simp [readsOf] at hr
  rcases hr with rfl | rfl
  ·exact hy
  ·exact hz
theorem og_con {x y:Nat} (hs:x < 128) (hy:y < 256) (k:∀ M',Sub M M'→Rs M' x→okG n M' l):okG n M (⟨1,x,y,0⟩ :: l):=by
 refine og_set hs (by omega) ⟨by show 1 < 256;omega,by show x < 256;omega,hy,by show 0 < 256;omega⟩ ?_ ?_ k
 ·simp [properB];omega
 ·intro r hr
  simp [readsOf] at hr
theorem og_in {x y:Nat} (hs:x < 128) (hy:y < n) (hn:n≤32) (k:∀ M',Sub M M'→Rs M' x→okG n M' l):okG n M (⟨0,x,y,0⟩ :: l):=by
 refine og_set hs (by omega) ⟨by show 0 < 256;omega,by show x < 256;omega,by show y < 256;omega,by show 0 < 256;omega⟩ ?_ ?_ k
 ·simp [properB];omega
 ·intro r hr
  simp [readsOf] at hr
theorem og_sgn {x y:Nat} (hs:x < 128) (hy:Rs M y) (k:∀ M',Sub M M'→Rs M' x→okG n M' l):okG n M (⟨5,x,y,0⟩ :: l):=by
 have h1:=hy.1
 refine og_set hs (by omega) ⟨by show 5 < 256;omega,by show x < 256;omega,by show y < 256;omega,by show 0 < 256;omega⟩ ?_ ?_ k
 ·simp [properB];omega
 ·intro r hr
  simp [readsOf] at hr
  subst hr
  exact hy
theorem og_out {x:Nat} (hx:Rs M x) (k:okG n M l):okG n M (⟨6,x,0,0⟩ :: l):=by
 have h1:=hx.1
 refine ⟨⟨by show 6 < 256;omega,by show x < 256;omega,by show 0 < 256;omega,by show 0 < 256;omega⟩,by simp [properB];omega,?_,k⟩
 intro r hr
 simp [readsOf] at hr
 subst hr
 exact hx
theorem og_stop {x y z:Nat} (hx:Rs M x) (hy:y < 3) (hz:z < 16) (k:okG n M l):okG n M (⟨7,x,y,z⟩ :: l):=by
 have h1:=hx.1
 refine ⟨⟨by show 7 < 256;omega,by show x < 256;omega,by show y < 256;omega,by show z < 256;omega⟩,by simp [properB];omega,?_,k⟩
 intro r hr
 simp [readsOf] at hr
 subst hr
 exact hx
theorem og_prodS {p q r t:Nat} (hs:s+3≤128) (h_p:Rs M p) (h_q:Rs M q) (h_r:Rs M r) (h_t:Rs M t)
  (k:∀ M',Sub M M'→Rs M' (s+2)→okG n M' l):okG n M (prodS s p q r t++l):=by
 unfold prodS
 refine og_mul (by omega) h_p h_q ?_
 intro M1 s1 r1
 have g1_r:=Rs.sub h_r s1
 have g1_t:=Rs.sub h_t s1
 refine og_mul (by omega) g1_r g1_t ?_
 intro M2 s2 r2
 have g2_a:=Rs.sub r1 s2
 refine og_add (by omega) g2_a r2 ?_
 intro M3 s3 r3
 exact k _ ((s1.trans s2).trans s3) r3
theorem og_prodD {p q r t:Nat} (hs:s+3≤128) (h_p:Rs M p) (h_q:Rs M q) (h_r:Rs M r) (h_t:Rs M t)
  (k:∀ M',Sub M M'→Rs M' (s+2)→okG n M' l):okG n M (prodD s p q r t++l):=by
 unfold prodD
 refine og_mul (by omega) h_p h_q ?_
 intro M1 s1 r1
 have g1_r:=Rs.sub h_r s1
 have g1_t:=Rs.sub h_t s1
 refine og_mul (by omega) g1_r g1_t ?_
 intro M2 s2 r2
 have g2_a:=Rs.sub r1 s2
 refine og_sub (by omega) g2_a r2 ?_
 intro M3 s3 r3
 exact k _ ((s1.trans s2).trans s3) r3
theorem og_neg {y:Nat} (hs:s+2≤128) (h_y:Rs M y)
  (k:∀ M',Sub M M'→Rs M' (s+1)→okG n M' l):okG n M (negL s y++l):=by
 unfold negL
 refine og_con (by omega) (by omega) ?_
 intro M1 s1 r1
 have g1_y:=Rs.sub h_y s1
 refine og_sub (by omega) r1 g1_y ?_
 intro M2 s2 r2
 exact k _ (s1.trans s2) r2
theorem og_isn {y:Nat} (hs:s+4≤128) (h_y:Rs M y)
  (k:∀ M',Sub M M'→Rs M' (s+3)→okG n M' l):okG n M (isnL s y++l):=by
 unfold isnL
 refine og_sgn (by omega) h_y ?_
 intro M1 s1 r1
 refine og_mul (by omega) r1 r1 ?_
 intro M2 s2 r2
 refine og_con (by omega) (by omega) ?_
 intro M3 s3 r3
 have g3_b:=Rs.sub r2 s3
 refine og_sub (by omega) r3 g3_b ?_
 intro M4 s4 r4
 exact k _ (((s1.trans s2).trans s3).trans s4) r4
theorem og_cross {a b:Tr} (hs:s+9≤128) (h_a:Rt M a) (h_b:Rt M b)
  (k:∀ M',Sub M M'→Rt M' (crossR s)→okG n M' l):okG n M (crossL s a b++l):=by
 unfold crossL
 simp only [List.append_assoc]
 refine og_prodD (by omega) h_a.2.1 h_b.2.2 h_a.2.2 h_b.2.1 ?_
 intro M1 s1 r1
 have g1_a:=Rt.sub h_a s1
 have g1_b:=Rt.sub h_b s1
 refine og_prodD (by omega) g1_a.2.2 g1_b.1 g1_a.1 g1_b.2.2 ?_
 intro M2 s2 r2
 have g2_a:=Rt.sub g1_a s2
 have g2_b:=Rt.sub g1_b s2
 have g2_x:=Rs.sub r1 s2
 refine og_prodD (by omega) g2_a.1 g2_b.2.1 g2_a.2.1 g2_b.1 ?_
 intro M3 s3 r3
 have g3_x:=Rs.sub g2_x s3
 have g3_y:=Rs.sub r2 s3
 exact k _ ((s1.trans s2).trans s3) ⟨g3_x,g3_y,r3⟩
theorem og_dot {a b:Tr} (hs:s+5≤128) (h_a:Rt M a) (h_b:Rt M b)
  (k:∀ M',Sub M M'→Rs M' (s+4)→okG n M' l):okG n M (dotL s a b++l):=by
 unfold dotL
 simp only [List.append_assoc]
 refine og_prodS (by omega) h_a.1 h_b.1 h_a.2.1 h_b.2.1 ?_
 intro M1 s1 r1
 have g1_a:=Rt.sub h_a s1
 have g1_b:=Rt.sub h_b s1
 refine og_mul (by omega) g1_a.2.2 g1_b.2.2 ?_
 intro M2 s2 r2
 have g2_x:=Rs.sub r1 s2
 refine og_add (by omega) g2_x r2 ?_
 intro M3 s3 r3
 exact k _ ((s1.trans s2).trans s3) r3
theorem og_vol {a b c:Tr} (hs:s+14≤128) (h_a:Rt M a) (h_b:Rt M b) (h_c:Rt M c)
  (k:∀ M',Sub M M'→Rs M' (s+13)→okG n M' l):okG n M (volL s a b c++l):=by
 unfold volL
 simp only [List.append_assoc]
 refine og_cross (by omega) h_a h_b ?_
 intro M1 s1 r1
 have g1_c:=Rt.sub h_c s1
 refine og_dot (by omega) r1 g1_c ?_
 intro M2 s2 r2
 exact k _ (s1.trans s2) r2
theorem og_mid {a b:Tr} (hs:s+8≤128) (h_a:Rt M a) (h_b:Rt M b)
  (k:∀ M',Sub M M'→Rt M' (midR s)→okG n M' l):okG n M (midL s a b++l):=by
 unfold midL
 simp only [List.append_assoc]
 refine og_prodS (by omega) h_a.1 h_b.2.2 h_b.1 h_a.2.2 ?_
 intro M1 s1 r1
 have g1_a:=Rt.sub h_a s1
 have g1_b:=Rt.sub h_b s1
 refine og_prodS (by omega) g1_a.2.1 g1_b.2.2 g1_b.2.1 g1_a.2.2 ?_
 intro M2 s2 r2
 have g2_a:=Rt.sub g1_a s2
 have g2_b:=Rt.sub g1_b s2
 have g2_x:=Rs.sub r1 s2
 refine og_mul (by omega) g2_a.2.2 g2_b.2.2 ?_
 intro M3 s3 r3
 have g3_x:=Rs.sub g2_x s3
 have g3_y:=Rs.sub r2 s3
 refine og_add (by omega) r3 r3 ?_
 intro M4 s4 r4
 have g4_x:=Rs.sub g3_x s4
 have g4_y:=Rs.sub g3_y s4
 exact k _ (((s1.trans s2).trans s3).trans s4) ⟨g4_x,g4_y,r4⟩
theorem og_par {p m:Tr} (hs:s+7≤128) (h_p:Rt M p) (h_m:Rt M m)
  (k:∀ M',Sub M M'→Rt M' (parR s)→okG n M' l):okG n M (parL s p m++l):=by
 unfold parL
 simp only [List.append_assoc]
 refine og_mul (by omega) h_m.1 h_p.2.2 ?_
 intro M1 s1 r1
 have g1_p:=Rt.sub h_p s1
 have g1_m:=Rt.sub h_m s1
 refine og_mul (by omega) g1_m.2.1 g1_p.2.2 ?_
 intro M2 s2 r2
 have g2_p:=Rt.sub g1_p s2
 have g2_m:=Rt.sub g1_m s2
 have g2_x:=Rs.sub r1 s2
 refine og_prodS (by omega) g2_m.1 g2_p.1 g2_m.2.1 g2_p.2.1 ?_
 intro M3 s3 r3
 have g3_x:=Rs.sub g2_x s3
 have g3_y:=Rs.sub r2 s3
 refine og_neg (by omega) r3 ?_
 intro M4 s4 r4
 have g4_x:=Rs.sub g3_x s4
 have g4_y:=Rs.sub g3_y s4
 exact k _ (((s1.trans s2).trans s3).trans s4) ⟨g4_x,g4_y,r4⟩
theorem og_upr {p m:Tr} (hs:s+9≤128) (h_p:Rt M p) (h_m:Rt M m)
  (k:∀ M',Sub M M'→Rt M' (uprR s)→okG n M' l):okG n M (uprL s p m++l):=by
 unfold uprL
 simp only [List.append_assoc]
 refine og_neg (by omega) h_m.1 ?_
 intro M1 s1 r1
 have g1_p:=Rt.sub h_p s1
 have g1_m:=Rt.sub h_m s1
 refine og_par (by omega) g1_p ⟨g1_m.2.1,r1,g1_m.2.2⟩ ?_
 intro M2 s2 r2
 exact k _ (s1.trans s2) ⟨r2.1,r2.2.1,r2.2.2⟩
theorem og_foot {p m:Tr} (hs:s+18≤128) (h_p:Rt M p) (h_m:Rt M m)
  (k:∀ M',Sub M M'→Rt M' (footR s)→okG n M' l):okG n M (footL s p m++l):=by
 unfold footL
 simp only [List.append_assoc]
 refine og_upr (by omega) h_p h_m ?_
 intro M1 s1 r1
 have g1_m:=Rt.sub h_m s1
 refine og_cross (by omega) r1 g1_m ?_
 intro M2 s2 r2
 exact k _ (s1.trans s2) ⟨r2.1,r2.2.1,r2.2.2⟩
theorem og_mir {p m:Tr} (hs:s+27≤128) (h_p:Rt M p) (h_m:Rt M m)
  (k:∀ M',Sub M M'→Rt M' (mirR s)→okG n M' l):okG n M (mirL s p m++l):=by
 unfold mirL
 simp only [List.append_assoc]
 refine og_foot (by omega) h_p h_m ?_
 intro M1 s1 r1
 have g1_p:=Rt.sub h_p s1
 refine og_add (by omega) r1.1 r1.1 ?_
 intro M2 s2 r2
 have g2_p:=Rt.sub g1_p s2
 have g2_f:=Rt.sub r1 s2
 refine og_add (by omega) g2_f.2.1 g2_f.2.1 ?_
 intro M3 s3 r3
 have g3_p:=Rt.sub g2_p s3
 have g3_f:=Rt.sub g2_f s3
 have g3_tx:=Rs.sub r2 s3
 refine og_prodD (by omega) g3_tx g3_p.2.2 g3_p.1 g3_f.2.2 ?_
 intro M4 s4 r4
 have g4_p:=Rt.sub g3_p s4
 have g4_f:=Rt.sub g3_f s4
 have g4_ty:=Rs.sub r3 s4
 refine og_prodD (by omega) g4_ty g4_p.2.2 g4_p.2.1 g4_f.2.2 ?_
 intro M5 s5 r5
 have g5_p:=Rt.sub g4_p s5
 have g5_f:=Rt.sub g4_f s5
 have g5_x:=Rs.sub r4 s5
 refine og_mul (by omega) g5_f.2.2 g5_p.2.2 ?_
 intro M6 s6 r6
 have g6_x:=Rs.sub g5_x s6
 have g6_y:=Rs.sub r5 s6
 exact k _ (((((s1.trans s2).trans s3).trans s4).trans s5).trans s6) ⟨g6_x,g6_y,r6⟩
theorem og_hal {a b:Tr} (hs:s+26≤128) (h_a:Rt M a) (h_b:Rt M b)
  (k:∀ M',Sub M M'→Rt M' (halR s)→okG n M' l):okG n M (halL s a b++l):=by
 unfold halL
 simp only [List.append_assoc]
 refine og_mid (by omega) h_a h_b ?_
 intro M1 s1 r1
 have g1_a:=Rt.sub h_a s1
 have g1_b:=Rt.sub h_b s1
 refine og_cross (by omega) g1_a g1_b ?_
 intro M2 s2 r2
 have g2_m:=Rt.sub r1 s2
 refine og_upr (by omega) g2_m r2 ?_
 intro M3 s3 r3
 exact k _ ((s1.trans s2).trans s3) ⟨r3.1,r3.2.1,r3.2.2⟩
theorem og_cen {a b c:Tr} (hs:s+61≤128) (h_a:Rt M a) (h_b:Rt M b) (h_c:Rt M c)
  (k:∀ M',Sub M M'→Rt M' (cenR s)→okG n M' l):okG n M (cenL s a b c++l):=by
 unfold cenL
 simp only [List.append_assoc]
 refine og_hal (by omega) h_a h_b ?_
 intro M1 s1 r1
 have g1_a:=Rt.sub h_a s1
 have g1_c:=Rt.sub h_c s1
 refine og_hal (by omega) g1_a g1_c ?_
 intro M2 s2 r2
 have g2_f:=Rt.sub r1 s2
 refine og_cross (by omega) g2_f r2 ?_
 intro M3 s3 r3
 exact k _ ((s1.trans s2).trans s3) ⟨r3.1,r3.2.1,r3.2.2⟩
theorem og_way {a b:Tr} (hs:s+7≤128) (h_a:Rt M a) (h_b:Rt M b)
  (k:∀ M',Sub M M'→Rt M' (wayR s)→okG n M' l):okG n M (wayL s a b++l):=by
 unfold wayL
 simp only [List.append_assoc]
 refine og_prodD (by omega) h_b.1 h_a.2.2 h_a.1 h_b.2.2 ?_
 intro M1 s1 r1
 have g1_a:=Rt.sub h_a s1
 have g1_b:=Rt.sub h_b s1
 refine og_prodD (by omega) g1_b.2.1 g1_a.2.2 g1_a.2.1 g1_b.2.2 ?_
 intro M2 s2 r2
 have g2_a:=Rt.sub g1_a s2
 have g2_b:=Rt.sub g1_b s2
 have g2_x:=Rs.sub r1 s2
 refine og_mul (by omega) g2_a.2.2 g2_b.2.2 ?_
 intro M3 s3 r3
 have g3_x:=Rs.sub g2_x s3
 have g3_y:=Rs.sub r2 s3
 exact k _ ((s1.trans s2).trans s3) ⟨g3_x,g3_y,r3⟩
theorem og_lif {p:Tr} (hs:s+5≤128) (h_p:Rt M p)
  (k:∀ M',Sub M M'→Rt M' (lifR s)→okG n M' l):okG n M (lifL s p++l):=by
 unfold lifL
 simp only [List.append_assoc]
 refine og_mul (by omega) h_p.1 h_p.2.2 ?_
 intro M1 s1 r1
 have g1_p:=Rt.sub h_p s1
 refine og_mul (by omega) g1_p.2.1 g1_p.2.2 ?_
 intro M2 s2 r2
 have g2_p:=Rt.sub g1_p s2
 have g2_x:=Rs.sub r1 s2
 refine og_prodS (by omega) g2_p.1 g2_p.1 g2_p.2.1 g2_p.2.1 ?_
 intro M3 s3 r3
 have g3_x:=Rs.sub g2_x s3
 have g3_y:=Rs.sub r2 s3
 exact k _ ((s1.trans s2).trans s3) ⟨g3_x,g3_y,r3⟩
theorem og_btw {a b c:Tr} (hs:s+38≤128) (h_a:Rt M a) (h_b:Rt M b) (h_c:Rt M c)
  (k:∀ M',Sub M M'→Rs M' (s+37)→okG n M' l):okG n M (btwL s a b c++l):=by
 unfold btwL
 simp only [List.append_assoc]
 refine og_vol (by omega) h_a h_b h_c ?_
 intro M1 s1 r1
 have g1_a:=Rt.sub h_a s1
 have g1_b:=Rt.sub h_b s1
 have g1_c:=Rt.sub h_c s1
 refine og_isn (by omega) r1 ?_
 intro M2 s2 r2
 have g2_a:=Rt.sub g1_a s2
 have g2_b:=Rt.sub g1_b s2
 have g2_c:=Rt.sub g1_c s2
 refine og_way (by omega) g2_b g2_a ?_
 intro M3 s3 r3
 have g3_b:=Rt.sub g2_b s3
 have g3_c:=Rt.sub g2_c s3
 have g3_st:=Rs.sub r2 s3
 refine og_way (by omega) g3_b g3_c ?_
 intro M4 s4 r4
 have g4_st:=Rs.sub g3_st s4
 have g4_bk:=Rt.sub r3 s4
 refine og_prodS (by omega) g4_bk.1 r4.1 g4_bk.2.1 r4.2.1 ?_
 intro M5 s5 r5
 have g5_st:=Rs.sub g4_st s5
 refine og_neg (by omega) r5 ?_
 intro M6 s6 r6
 have g6_st:=Rs.sub g5_st s6
 refine og_mul (by omega) g6_st r6 ?_
 intro M7 s7 r7
 exact k _ ((((((s1.trans s2).trans s3).trans s4).trans s5).trans s6).trans s7) r7
theorem og_rnd {a b c d:Tr} (hs:s+50≤128) (h_a:Rt M a) (h_b:Rt M b) (h_c:Rt M c) (h_d:Rt M d)
  (k:∀ M',Sub M M'→Rs M' (s+49)→okG n M' l):okG n M (rndL s a b c d++l):=by
 unfold rndL
 simp only [List.append_assoc]
 refine og_way (by omega) h_a h_b ?_
 intro M1 s1 r1
 have g1_a:=Rt.sub h_a s1
 have g1_c:=Rt.sub h_c s1
 have g1_d:=Rt.sub h_d s1
 refine og_way (by omega) g1_a g1_c ?_
 intro M2 s2 r2
 have g2_a:=Rt.sub g1_a s2
 have g2_d:=Rt.sub g1_d s2
 have g2_tb:=Rt.sub r1 s2
 refine og_way (by omega) g2_a g2_d ?_
 intro M3 s3 r3
 have g3_tb:=Rt.sub g2_tb s3
 have g3_tc:=Rt.sub r2 s3
 refine og_lif (by omega) g3_tb ?_
 intro M4 s4 r4
 have g4_tc:=Rt.sub g3_tc s4
 have g4_td:=Rt.sub r3 s4
 refine og_lif (by omega) g4_tc ?_
 intro M5 s5 r5
 have g5_td:=Rt.sub g4_td s5
 have g5_lb:=Rt.sub r4 s5
 refine og_lif (by omega) g5_td ?_
 intro M6 s6 r6
 have g6_lb:=Rt.sub g5_lb s6
 have g6_lc:=Rt.sub r5 s6
 refine og_vol (by omega) g6_lb g6_lc r6 ?_
 intro M7 s7 r7
 exact k _ ((((((s1.trans s2).trans s3).trans s4).trans s5).trans s6).trans s7) r7
theorem og_sam {a b:Tr} (hs:s+10≤128) (h_a:Rt M a) (h_b:Rt M b)
  (k:∀ M',Sub M M'→Rs M' (s+9)→okG n M' l):okG n M (samL s a b++l):=by
 unfold samL
 simp only [List.append_assoc]
 refine og_way (by omega) h_a h_b ?_
 intro M1 s1 r1
 refine og_prodS (by omega) r1.1 r1.1 r1.2.1 r1.2.1 ?_
 intro M2 s2 r2
 exact k _ (s1.trans s2) r2
theorem og_kp3 {m:Tr} {f k:Nat} (hk:k < 16) (hm':Rt M m) (hf:Rs M f) (kk:∀ M',Sub M M'→Rt M' (hm k)→okG n M' l):okG n M (kp3 f m k++l):=by
 refine og_mul (by omega) hm'.1 hf ?_
 intro M1 s1 r1
 refine og_mul (by omega) (hm'.2.1.sub s1) (hf.sub s1) ?_
 intro M2 s2 r2
 refine og_mul (by omega) ((hm'.2.2.sub s1).sub s2) ((hf.sub s1).sub s2) ?_
 intro M3 s3 r3
 exact kk _ ((s1.trans s2).trans s3) ⟨(r1.sub s2).sub s3,r2.sub s3,r3⟩
theorem og_kpP {m:Tr} {f k:Nat} (hs:f < 128) (hk:k < 16) (hm':Rt M m) (kk:∀ M',Sub M M'→Rt M' (hm k)→okG n M' l):okG n M (kpP f m k++l):=by
 refine og_sgn hs hm'.2.2 ?_
 intro M1 s1 r1
 exact og_kp3 hk (hm'.sub s1) r1 (fun M2 s2 r2=>kk _ (s1.trans s2) r2)
theorem og_kpL {m:Tr} {f k:Nat} (hs:f < 128) (hk:k < 16) (hm':Rt M m) (kk:∀ M',Sub M M'→Rt M' (hm k)→okG n M' l):okG n M (kpL f m k++l):=by
 refine og_con hs (by omega) ?_
 intro M1 s1 r1
 exact og_kp3 hk (hm'.sub s1) r1 (fun M2 s2 r2=>kk _ (s1.trans s2) r2)
def Homes (C:List Cmd) (M:Nat→Bool):Prop:=∀ j (h:j < C.length),srt C[j]≠63→Rt M (hm j)
theorem Homes.P {C:List Cmd} (h:Homes C M) {j:Nat} (hj:isP C j):Rt M (hm j):=h j hj.1 (by rw [hj.2];omega)
theorem Homes.L {C:List Cmd} (h:Homes C M) {j:Nat} (hj:isLn C j):Rt M (hm j):=h j hj.1 (by rw [hj.2];omega)
theorem Homes.next {C:List Cmd} {c:Cmd} {M':Nat→Bool} (h:Homes C M) (k:Sub M M') (hc:srt c≠63→Rt M' (hm C.length)):Homes (C++[c]) M':=by
 intro j hj hs
 by_cases hl:j < C.length
 ·rw [List.getElem_append_left hl] at hs;exact (h j hl hs).sub k
 ·have:j=C.length:=by simp at hj;omega
  subst this
  exact hc (by simpa using hs)
theorem og_cmd {C:List Cmd} {i:Nat} (c:Cmd) (hk:C.length < 16) (hn:n≤32) (hi:i+insC c≤n) (h:Homes C M) (hok:okC C c) (kk:∀ M',Sub M M'→(srt c≠63→Rt M' (hm C.length))→okG n M' l):okG n M (cmdL C.length i c++l):=by
 cases c using Cmd.el with
 | pt =>
  have hi2:i+2≤n:=hi
  refine og_in (by omega) (by omega) hn ?_
  intro M1 s1 r1
  refine og_in (by omega) (by omega) hn ?_
  intro M2 s2 r2
  refine og_con (by omega) (by omega) ?_
  intro M3 s3 r3
  refine og_kpP (m:=givenR 48) (by omega) hk ⟨(r1.sub s2).sub s3,r2.sub s3,r3⟩ ?_
  intro M4 s4 r4
  exact kk _ (((s1.trans s2).trans s3).trans s4) (fun _=>r4)
 | mid a b =>
  unfold okC at hok
  unfold cmdL
  simp only [List.append_assoc]
  refine og_mid (by omega) (h.P hok.1) (h.P hok.2) ?_
  intro M1 s1 r1
  refine og_kpP (by omega) hk r1 ?_
  intro M2 s2 r2
  exact kk _ (s1.trans s2) (fun _=>r2)
 | line a b =>
  unfold okC at hok
  unfold cmdL
  simp only [List.append_assoc,List.cons_append]
  refine og_cross (by omega) (h.P hok.1) (h.P hok.2) ?_
  intro M1 s1 r1
  refine og_prodS (by omega) r1.1 r1.1 r1.2.1 r1.2.1 ?_
  intro M2 s2 r2
  refine og_stop r2 (by omega) hk ?_
  refine og_kpL (by omega) hk (r1.sub s2) ?_
  intro M3 s3 r3
  exact kk _ ((s1.trans s2).trans s3) (fun _=>r3)
 | par a b =>
  unfold okC at hok
  unfold cmdL
  simp only [List.append_assoc]
  refine og_par (by omega) (h.P hok.1) (h.L hok.2) ?_
  intro M1 s1 r1
  refine og_kpL (by omega) hk r1 ?_
  intro M2 s2 r2
  exact kk _ (s1.trans s2) (fun _=>r2)
 | perp a b =>
  unfold okC at hok
  unfold cmdL
  simp only [List.append_assoc]
  refine og_upr (by omega) (h.P hok.1) (h.L hok.2) ?_
  intro M1 s1 r1
  refine og_kpL (by omega) hk r1 ?_
  intro M2 s2 r2
  exact kk _ (s1.trans s2) (fun _=>r2)
 | meet a b =>
  unfold okC at hok
  unfold cmdL
  simp only [List.append_assoc,List.cons_append]
  refine og_cross (by omega) (h.L hok.1) (h.L hok.2) ?_
  intro M1 s1 r1
  refine og_stop r1.2.2 (by omega) hk ?_
  refine og_kpP (by omega) hk r1 ?_
  intro M2 s2 r2
  exact kk _ (s1.trans s2) (fun _=>r2)
 | foot a b =>
  unfold okC at hok
  unfold cmdL
  simp only [List.append_assoc]
  refine og_foot (by omega) (h.P hok.1) (h.L hok.2) ?_
  intro M1 s1 r1
  refine og_kpP (by omega) hk r1 ?_
  intro M2 s2 r2
  exact kk _ (s1.trans s2) (fun _=>r2)
 | mirror a b =>
  unfold okC at hok
  unfold cmdL
  simp only [List.append_assoc]
  refine og_mir (by omega) (h.P hok.1) (h.L hok.2) ?_
  intro M1 s1 r1
  refine og_kpP (by omega) hk r1 ?_
  intro M2 s2 r2
  exact kk _ (s1.trans s2) (fun _=>r2)
 | centre a b c =>
  unfold okC at hok
  unfold cmdL
  simp only [List.append_assoc,List.cons_append]
  refine og_cen (by omega) (h.P hok.1) (h.P hok.2.1) (h.P hok.2.2) ?_
  intro M1 s1 r1
  refine og_stop r1.2.2 (by omega) hk ?_
  refine og_kpP (by omega) hk r1 ?_
  intro M2 s2 r2
  exact kk _ (s1.trans s2) (fun _=>r2)
 | same a b =>
  unfold okC at hok
  unfold cmdL
  simp only [List.append_assoc]
  refine og_sam (by omega) (h.P hok.1) (h.P hok.2) ?_
  intro M1 s1 r1
  refine og_isn (by omega) r1 ?_
  intro M2 s2 r2
  refine og_out r2 ?_
  exact kk _ (s1.trans s2) (fun hh=>absurd rfl hh)
 | col a b c =>
  unfold okC at hok
  unfold cmdL
  simp only [List.append_assoc]
  refine og_vol (by omega) (h.P hok.1) (h.P hok.2.1) (h.P hok.2.2) ?_
  intro M1 s1 r1
  refine og_isn (by omega) r1 ?_
  intro M2 s2 r2
  refine og_out r2 ?_
  exact kk _ (s1.trans s2) (fun hh=>absurd rfl hh)
 | ccw a b c =>
  unfold okC at hok
  unfold cmdL
  simp only [List.append_assoc]
  refine og_vol (by omega) (h.P hok.1) (h.P hok.2.1) (h.P hok.2.2) ?_
  intro M1 s1 r1
  refine og_out r1 ?_
  exact kk _ s1 (fun hh=>absurd rfl hh)
 | btw a b c =>
  unfold okC at hok
  unfold cmdL
  simp only [List.append_assoc]
  refine og_btw (by omega) (h.P hok.1) (h.P hok.2.1) (h.P hok.2.2) ?_
  intro M1 s1 r1
  refine og_out r1 ?_
  exact kk _ s1 (fun hh=>absurd rfl hh)
 | con a b c d =>
  unfold okC at hok
  unfold cmdL
  simp only [List.append_assoc]
  refine og_rnd (by omega) (h.P hok.1) (h.P hok.2.1) (h.P hok.2.2.1) (h.P hok.2.2.2) ?_
  intro M1 s1 r1
  refine og_isn (by omega) r1 ?_
  intro M2 s2 r2
  refine og_out r2 ?_
  exact kk _ (s1.trans s2) (fun hh=>absurd rfl hh)
 | on a b =>
  unfold okC at hok
  unfold cmdL
  simp only [List.append_assoc]
  refine og_dot (by omega) (h.P hok.1) (h.L hok.2) ?_
  intro M1 s1 r1
  refine og_isn (by omega) r1 ?_
  intro M2 s2 r2
  refine og_out r2 ?_
  exact kk _ (s1.trans s2) (fun hh=>absurd rfl hh)
 | cc a b c =>
  unfold okC at hok
  unfold cmdL
  simp only [List.append_assoc]
  refine og_vol (by omega) (h.L hok.1) (h.L hok.2.1) (h.L hok.2.2) ?_
  intro M1 s1 r1
  refine og_isn (by omega) r1 ?_
  intro M2 s2 r2
  refine og_out r2 ?_
  exact kk _ (s1.trans s2) (fun hh=>absurd rfl hh)
 | pll a b =>
  unfold okC at hok
  unfold cmdL
  simp only [List.append_assoc]
  refine og_prodD (by omega) (h.L hok.1).1 (h.L hok.2).2.1 (h.L hok.1).2.1 (h.L hok.2).1 ?_
  intro M1 s1 r1
  refine og_isn (by omega) r1 ?_
  intro M2 s2 r2
  refine og_out r2 ?_
  exact kk _ (s1.trans s2) (fun hh=>absurd rfl hh)
 | prp a b =>
  unfold okC at hok
  unfold cmdL
  simp only [List.append_assoc]
  refine og_prodS (by omega) (h.L hok.1).1 (h.L hok.2).1 (h.L hok.1).2.1 (h.L hok.2).2.1 ?_
  intro M1 s1 r1
  refine og_isn (by omega) r1 ?_
  intro M2 s2 r2
  refine og_out r2 ?_
  exact kk _ (s1.trans s2) (fun hh=>absurd rfl hh)
end
theorem og_cmds {n:Nat} (hn:n≤32):∀ (r C:List Cmd) (W:List Nat) (i:Nat) (M:Nat→Bool),Homes C M→Wf C W r→C.length+r.length≤16→i+cntI r≤n→okG n M (cmdsL r C.length i)
 | [],_,_,_,_,_,_,_,_=>trivial
 | c :: r,C,W,i,M,h,hw,hl,hi=>by
  obtain ⟨h1,-,h3⟩:=hw
  simp only [cntI,List.map_cons,List.sum_cons] at hi
  simp only [List.length_cons] at hl
  refine og_cmd c (by omega) hn (by omega) h h1 ?_
  intro M' s' hc
  have:=og_cmds hn r (C++[c]) _ (i+insC c) M' (h.next s' hc) h3 (by simp;omega) (by unfold cntI;omega)
  simpa using this
theorem cmdL_len (k i:Nat) (c:Cmd):(cmdL k i c).length≤70:=by cases c using Cmd.el <;> exact Nat.le_of_ble_eq_true rfl
theorem cmdsL_len:∀ (r:List Cmd) (k i:Nat),(cmdsL r k i).length≤70*r.length
 | [],_,_=>Nat.le_refl _
 | c :: r,k,i=>by
  have h1:=cmdL_len k i c
  have h2:=cmdsL_len r (k+1) (i+insC c)
  simp only [cmdsL,List.length_append,List.length_cons]
  omega
structure Made (l:List St):Prop where
 len:(cmdsL (cmds l) 0 0).length≤1120
 ok:okG (cntI (cmds l)) (fun _=>false) (cmdsL (cmds l) 0 0)
 n32:cntI (cmds l)≤32
theorem cntI_le:∀ r:List Cmd,cntI r≤2*r.length
 | []=>Nat.le_refl _
 | c :: r=>by
  have h1:insC c≤2:=by cases c using Cmd.el <;> exact Nat.le_of_ble_eq_true rfl
  have h2:=cntI_le r
  simp only [cntI,List.map_cons,List.sum_cons,List.length_cons] at *
  omega
theorem made_any {p:List (St × Nat)} (h:Ok p) (hl:p.length≤16):Made (sts p):=by
 have e:=cmds_len (p:=p)
 have h32:cntI (cmds (sts p))≤32:=by have:=cntI_le (cmds (sts p));omega
 refine ⟨by have:=cmdsL_len (cmds (sts p)) 0 0;omega,?_,h32⟩
 exact og_cmds h32 (cmds (sts p)) [] [] 0 _ (fun j hj=>by simp at hj) (wf_cmds h) (by simp;omega) (by omega)
end Go.Proofs.YtmnfndpbblpjiaaGreatDoor.Pu

/- What the program's reader reads as a number: plain. -/
namespace Go.Proofs.YtmnfndpbblpjiaaGreatDoor.Pu
def rdN (s:ByteArray) (f:Nat):Option (Int × Nat) :=
 if g s f=48 then some (0,f+1)
 else if g s f=45 then
  (if 49≤g s (f+1)∧g s (f+1)≤57 then
   (if 48≤g s (f+2)∧g s (f+2)≤57 then some (-((10*(g s (f+1) - 48)+(g s (f+2) - 48):Nat):Int),f+3) else some (-((g s (f+1) - 48:Nat):Int),f+2))
   else none)
 else if 49≤g s f∧g s f≤57 then
  (if 48≤g s (f+1)∧g s (f+1)≤57 then some (((10*(g s f - 48)+(g s (f+1) - 48):Nat):Int),f+2) else some (((g s f - 48:Nat):Int),f+1))
 else none
theorem ext_get {s:ByteArray} {f e:Nat} {l:List UInt8} (he:e≤s.size) (h:s.extract f e=⟨l.toArray⟩) (hf:f≤e):e=f+l.length∧∀ j (hj:j < l.length),g s (f+j)=l[j].toNat:=by
 have hsz:(s.extract f e).size=l.length:=by rw [h];rfl
 rw [ByteArray.size_extract] at hsz
 refine ⟨by omega,fun j hj=>?_⟩
 have hfj:f+j < s.size:=by omega
 rw [g_in hfj]
 have h1:(s.extract f e)[j]'(by rw [ByteArray.size_extract];omega)=s[f+j]:=by
  rw [ByteArray.getElem_extract]
 have h2:∀ hh,(⟨l.toArray⟩:ByteArray)[j]'hh=l[j]:=fun _=>rfl
 rw [← h1]
 congr 1
 simp only [h]
 exact h2 _
theorem ofNat_toNat {n:Nat} (h:n < 256):(UInt8.ofNat n).toNat=n:=UInt8.toNat_ofNat_of_lt' (by simpa using h)
theorem decN_get {n:Nat} (h:n≤99):(n≤9∧decN n=[UInt8.ofNat (48+n)])∨(9 < n∧decN n=[UInt8.ofNat (48+n / 10),UInt8.ofNat (48+n % 10)]):=by
 unfold decN
 by_cases h9:9 < n
 ·exact .inr ⟨h9,by rw [if_pos h9]⟩
 ·refine .inl ⟨by omega,?_⟩
  rw [if_neg h9,Nat.mod_eq_of_lt (by omega)]
theorem rdN_of {s:ByteArray} {f e:Nat} {n:Int} (hf:f≤e) (he:e≤s.size) (hb:e=s.size∨g s e=44) (h:s.extract f e=dec n) (h1:-99≤n) (h2:n≤99):rdN s f=some (n,e):=by
 have hend:¬ (48≤g s e∧g s e≤57):=by
  rcases hb with hb | hb
  ·rw [g_out (by omega)];omega
  ·omega
 by_cases hn:n < 0
 ·obtain ⟨m,rfl⟩:∃ m:Nat,n=-(m:Int):=⟨n.natAbs,by omega⟩
  rw [dec_neg m (by omega)] at h
  obtain ⟨hlen,hget⟩:=ext_get he h hf
  rcases decN_get (show m≤99 by omega) with ⟨hm,hd⟩ | ⟨hm,hd⟩
  ·rw [hd] at hlen hget
   have g0:g s f=45:=by simpa using hget 0 (by simp)
   have g1:g s (f+1)=48+m:=by have:=hget 1 (by simp);rw [this];exact ofNat_toNat (by omega)
   have hl:e=f+2:=by simpa using hlen
   subst hl
   unfold rdN
   rw [if_neg (by omega),if_pos g0,if_pos (by omega),if_neg hend,g1]
   congr 3
   omega
  ·rw [hd] at hlen hget
   have g0:g s f=45:=by simpa using hget 0 (by simp)
   have g1:g s (f+1)=48+m / 10:=by have:=hget 1 (by simp);rw [this];exact ofNat_toNat (by omega)
   have g2:g s (f+2)=48+m % 10:=by have:=hget 2 (by simp);rw [this];exact ofNat_toNat (by omega)
   have hl:e=f+3:=by simpa using hlen
   subst hl
   unfold rdN
   rw [if_neg (by omega),if_pos g0,if_pos (by omega),if_pos (by omega),g1,g2]
   congr 3
   omega
 ·obtain ⟨m,rfl⟩:∃ m:Nat,n=(m:Int):=⟨n.toNat,by omega⟩
  rw [dec_nat m] at h
  obtain ⟨hlen,hget⟩:=ext_get he h hf
  rcases decN_get (show m≤99 by omega) with ⟨hm,hd⟩ | ⟨hm,hd⟩
  ·rw [hd] at hlen hget
   have g0:g s f=48+m:=by have:=hget 0 (by simp);rw [Nat.add_zero] at this;rw [this];exact ofNat_toNat (by omega)
   have hl:e=f+1:=by simpa using hlen
   subst hl
   unfold rdN
   by_cases hz:m=0
   ·subst hz;rw [if_pos (by omega)];rfl
   ·rw [if_neg (by omega),if_neg (by omega),if_pos (by omega),if_neg hend,g0]
    congr 3
    omega
  ·rw [hd] at hlen hget
   have g0:g s f=48+m / 10:=by have:=hget 0 (by simp);rw [Nat.add_zero] at this;rw [this];exact ofNat_toNat (by omega)
   have g1:g s (f+1)=48+m % 10:=by have:=hget 1 (by simp);rw [this];exact ofNat_toNat (by omega)
   have hl:e=f+2:=by simpa using hlen
   subst hl
   unfold rdN
   rw [if_neg (by omega),if_neg (by omega),if_pos (by omega),if_pos (by omega),g0,g1]
   congr 3
   omega
theorem ext_mk {s:ByteArray} {f:Nat} {l:List UInt8} (hl:f+l.length≤s.size) (h:∀ j (hj:j < l.length),g s (f+j)=l[j].toNat):s.extract f (f+l.length)=⟨l.toArray⟩:=by
 have hsz:(s.extract f (f+l.length)).size=l.length:=by rw [ByteArray.size_extract];omega
 apply ByteArray.ext
 apply Array.ext
 ·show (s.extract f (f+l.length)).size=_
  rw [hsz];simp
 ·intro i h1 h2
  have hi:i < l.length:=by simpa using h2
  have h3:=h i hi
  rw [g_in (by omega)] at h3
  have h4:s[f+i]'(by omega)=l[i]:=UInt8.toNat_inj.1 h3
  have h5:(s.extract f (f+l.length))[i]'(by rw [hsz];exact hi)=s[f+i]'(by omega):=by rw [ByteArray.getElem_extract]
  show (s.extract f (f+l.length))[i]'(by rw [hsz];exact hi)=_
  rw [h5,h4];simp
theorem in_of {s:ByteArray} {i:Nat} (h:g s i≠0):i < s.size:=by
 refine Nat.lt_of_not_le fun hh=>h (g_out hh)
theorem rdN_dec {s:ByteArray} {f p:Nat} {n:Int} (h:rdN s f=some (n,p)):f < p∧p≤s.size∧s.extract f p=dec n∧-99≤n∧n≤99∧∀ i,f≤i→i < p→g s i≠44:=by
 unfold rdN at h
 split at h
 ·rename_i h0
  simp at h
  obtain ⟨rfl,rfl⟩:=h
  have hs:=in_of (s:=s) (i:=f) (by omega)
  refine ⟨by omega,by omega,?_,by omega,by omega,fun i a b=>by rw [show i=f by omega];omega⟩
  refine ext_mk (l:=[48]) (by simp;omega) (fun j hj=>?_)
  have:j=0:=by simpa using hj
  subst this
  simpa using h0
 ·split at h
  ·rename_i h45
   split at h
   ·rename_i h1
    have hs1:=in_of (s:=s) (i:=f+1) (by omega)
    split at h
    ·rename_i h2
     have hs2:=in_of (s:=s) (i:=f+2) (by omega)
     simp only [Option.some.injEq,Prod.mk.injEq] at h
     obtain ⟨rfl,rfl⟩:=h
     generalize hm:10*(g s (f+1) - 48)+(g s (f+2) - 48)=m
     refine ⟨by omega,by omega,?_,by omega,by omega,fun i a b=>by
      have:i=f∨i=f+1∨i=f+2:=by omega
      rcases this with rfl | rfl | rfl <;> omega⟩
     rw [dec_neg m (by omega)]
     have hd:decN m=[UInt8.ofNat (48+m / 10),UInt8.ofNat (48+m % 10)]:=by unfold decN;rw [if_pos (by omega)]
     rw [hd]
     refine ext_mk (l:=[45,UInt8.ofNat (48+m / 10),UInt8.ofNat (48+m % 10)]) (by simp;omega) (fun j hj=>?_)
     have:j=0∨j=1∨j=2:=by simp at hj;omega
     rcases this with rfl | rfl | rfl
     ·simpa using h45
     ·show g s (f+1)=(UInt8.ofNat (48+m / 10)).toNat
      rw [ofNat_toNat (by omega)];omega
     ·show g s (f+2)=(UInt8.ofNat (48+m % 10)).toNat
      rw [ofNat_toNat (by omega)];omega
    ·simp only [Option.some.injEq,Prod.mk.injEq] at h
     obtain ⟨rfl,rfl⟩:=h
     generalize hm:g s (f+1) - 48=m
     refine ⟨by omega,by omega,?_,by omega,by omega,fun i a b=>by
      have:i=f∨i=f+1:=by omega
      rcases this with rfl | rfl <;> omega⟩
     rw [dec_neg m (by omega)]
     have hd:decN m=[UInt8.ofNat (48+m)]:=by unfold decN;rw [if_neg (by omega),Nat.mod_eq_of_lt (by omega)]
     rw [hd]
     refine ext_mk (l:=[45,UInt8.ofNat (48+m)]) (by simp;omega) (fun j hj=>?_)
     have:j=0∨j=1:=by simp at hj;omega
     rcases this with rfl | rfl
     ·simpa using h45
     ·show g s (f+1)=(UInt8.ofNat (48+m)).toNat
      rw [ofNat_toNat (by omega)];omega
   ·cases h
  ·split at h
   ·rename_i h1
    have hs1:=in_of (s:=s) (i:=f) (by omega)
    split at h
    ·rename_i h2
     have hs2:=in_of (s:=s) (i:=f+1) (by omega)
     simp only [Option.some.injEq,Prod.mk.injEq] at h
     obtain ⟨rfl,rfl⟩:=h
     generalize hm:10*(g s f - 48)+(g s (f+1) - 48)=m
     refine ⟨by omega,by omega,?_,by omega,by omega,fun i a b=>by
      have:i=f∨i=f+1:=by omega
      rcases this with rfl | rfl <;> omega⟩
     rw [dec_nat m]
     have hd:decN m=[UInt8.ofNat (48+m / 10),UInt8.ofNat (48+m % 10)]:=by unfold decN;rw [if_pos (by omega)]
     rw [hd]
     refine ext_mk (l:=[UInt8.ofNat (48+m / 10),UInt8.ofNat (48+m % 10)]) (by simp;omega) (fun j hj=>?_)
     have:j=0∨j=1:=by simp at hj;omega
     rcases this with rfl | rfl
     ·show g s (f+0)=(UInt8.ofNat (48+m / 10)).toNat
      rw [ofNat_toNat (by omega),Nat.add_zero];omega
     ·show g s (f+1)=(UInt8.ofNat (48+m % 10)).toNat
      rw [ofNat_toNat (by omega)];omega
    ·simp only [Option.some.injEq,Prod.mk.injEq] at h
     obtain ⟨rfl,rfl⟩:=h
     generalize hm:g s f - 48=m
     refine ⟨by omega,by omega,?_,by omega,by omega,fun i a b=>by rw [show i=f by omega];omega⟩
     rw [dec_nat m]
     have hd:decN m=[UInt8.ofNat (48+m)]:=by unfold decN;rw [if_neg (by omega),Nat.mod_eq_of_lt (by omega)]
     rw [hd]
     refine ext_mk (l:=[UInt8.ofNat (48+m)]) (by simp;omega) (fun j hj=>?_)
     have:j=0:=by simpa using hj
     subst this
     show g s (f+0)=(UInt8.ofNat (48+m)).toNat
     rw [ofNat_toNat (by omega),Nat.add_zero];omega
   ·cases h
theorem numer_dec {t:ByteArray} {n:Int} (h:numer t=some n):t=dec n∧-99≤n∧n≤99:=by
 have hr:=numer_range h
 refine ⟨?_,hr⟩
 unfold numer at h
 obtain ⟨i,hi,rfl⟩:=Option.map_eq_some_iff.1 h
 simpa using List.find?_some hi
theorem numer_at {s:ByteArray} {f p:Nat} {n:Int} (h:rdN s f=some (n,p)) (hb:p=s.size∨g s p=44):numer (s.extract f p)=some n:=by
 obtain ⟨h1,h2,h3,h4,h5,-⟩:=rdN_dec h
 cases hn:numer (s.extract f p) with
 | none =>
  exfalso
  unfold numer at hn
  rw [Option.map_eq_none_iff,List.find?_eq_none] at hn
  have:=hn (n+99).toNat (by simp;omega)
  simp at this
  exact this (by rw [h3];congr 1;omega)
 | some m =>
  obtain ⟨k1,k2,k3⟩:=numer_dec hn
  have:=rdN_of (by omega) h2 hb k1 k2 k3
  rw [h] at this
  simp at this
  rw [this]
theorem next_comma {s:ByteArray} (f:Nat) (hf:f≤s.size):∃ e,f≤e∧e≤s.size∧(e=s.size∨g s e=44)∧∀ i,f≤i→i < e→g s i≠44:=by
 obtain ⟨d,hd⟩:∃ d,s.size - f=d:=⟨_,rfl⟩
 induction d generalizing f with
 | zero=>exact ⟨f,by omega,hf,.inl (by omega),fun i a b=>by omega⟩
 | succ d ih =>
  by_cases h:g s f=44
  ·exact ⟨f,by omega,hf,.inr h,fun i a b=>by omega⟩
  ·obtain ⟨e,h1,h2,h3,h4⟩:=ih (f+1) (by omega) (by omega)
   refine ⟨e,by omega,h2,h3,fun i a b=>?_⟩
   by_cases e1:i=f
   ·subst e1;exact h
   ·exact h4 i (by omega) b
theorem inpSt_stay {s:ByteArray} {f:Nat} {l:List Int} (h:inpSt s f=some (f,l)):∀ e,f≤e→e≤s.size→(∀ i,f≤i→i < e→g s i≠44)→inpSt s e=some (f,l):=by
 intro e
 induction e with
 | zero =>
  intro h1 _ _;have:f=0:=by omega
  subst this;exact h
 | succ e ih =>
  intro h1 h2 h3
  by_cases e1:f=e+1
  ·subst e1;exact h
  ·exact inpSt_on (ih (by omega) (by omega) (fun i a b=>h3 i a (by omega))) (by have:=h3 e (by omega) (by omega);omega)
theorem inp_comma {s:ByteArray} {f p:Nat} {n:Int} {l:List Int} (h:inpSt s f=some (f,l)) (hr:rdN s f=some (n,p)) (hc:g s p=44):inpSt s (p+1)=some (p+1,l++[n]):=by
 obtain ⟨h1,h2,-,-,-,h6⟩:=rdN_dec hr
 exact inpSt_num (inpSt_stay h p (by omega) h2 h6) (.inr hc) (numer_at hr (.inr hc))
theorem inp_last {s:ByteArray} {f:Nat} {n:Int} {l:List Int} (h0:s.size≠0) (h:inpSt s f=some (f,l)) (hr:rdN s f=some (n,s.size)):inps s=some (l++[n]):=by
 obtain ⟨h1,h2,-,-,-,h6⟩:=rdN_dec hr
 exact inps_good h0 (inpSt_num (inpSt_stay h s.size (by omega) h2 h6) (.inl rfl) (numer_at hr (.inl rfl)))
theorem inp_bad {s:ByteArray} {f:Nat} {l:List Int} (h0:s.size≠0) (hf:f≤s.size) (h:inpSt s f=some (f,l)) (hr:∀ n p,rdN s f=some (n,p)→p≠s.size∧g s p≠44):inps s=none:=by
 obtain ⟨e,h1,h2,h3,h4⟩:=next_comma f hf
 refine inps_bad h0 h2 (inpSt_stay h e h1 h2 h4) h3 ?_
 cases hn:numer (s.extract f e) with
 | none=>rfl
 | some m =>
  exfalso
  obtain ⟨k1,k2,k3⟩:=numer_dec hn
  have:=hr m e (rdN_of h1 h2 h3 k1 k2 k3)
  rcases h3 with h3 | h3
  ·exact this.1 h3
  ·exact this.2 h3
end Go.Proofs.YtmnfndpbblpjiaaGreatDoor.Pu

/- Right steps are good ones; the range of inputs: plain. -/
namespace Go.Proofs.YtmnfndpbblpjiaaGreatDoor
open Go.RowKit Pu
theorem Pu.right_good {l:List Stp} {k:Nat} {t:Stp} {regs ins:Nat} (hs:Small t) (hr:regs≤128) (h:rightB l k t regs ins=true):Good ins t:=by
 unfold rightB at h
 rw [proper_fit] at h
 simp only [Bool.and_eq_true,decide_eq_true_eq,List.all_eq_true] at h
 obtain ⟨⟨ho,hx⟩,hr2⟩:=h
 have h7:t.op≤7:=by
  refine Nat.le_of_not_lt fun hh=>?_
  simp [opFit,show ¬ t.op=0 by omega,show ¬ t.op=1 by omega,show ¬ t.op=2 by omega,show ¬ t.op=3 by omega,show ¬ t.op=4 by omega,show ¬ t.op=5 by omega,show ¬ t.op=6 by omega,show ¬ t.op=7 by omega] at ho
 refine ⟨hs,h7,by omega,fun h=>?_,fun h=>?_,fun h=>?_,fun h=>?_⟩
 ·have:=(hr2 t.y (by simp [readsOf,h])).1;omega
 ·have:=(hr2 t.z (by simp [readsOf,h])).1;omega
 ·simp [opFit,h] at ho;exact ho.1
 ·simp [opFit,h] at ho;exact ho
theorem Pu.inpSt_range {s:ByteArray}:∀ (k f:Nat) (l:List Int),inpSt s k=some (f,l)→∀ x∈l,-99≤x∧x≤99:=by
 intro k
 induction k with
 | zero=>intro f l h;simp [inpSt] at h;rw [h.2];intro x hx;cases hx
 | succ k ih =>
  intro f l h
  simp only [inpSt] at h
  split at h
  ·cases h
  ·rename_i f' l' hk
   split at h
   ·split at h
    ·rename_i n hn
     simp at h
     obtain ⟨-,rfl⟩:=h
     intro x hx
     rcases List.mem_append.1 hx with hx | hx
     ·exact ih f' l' hk x hx
     ·simp at hx;subst hx;exact numer_range hn
    ·cases h
   ·simp at h
    obtain ⟨-,rfl⟩:=h
    exact ih f' l' hk
theorem Pu.inps_range {s:ByteArray} {l:List Int} (h:inps s=some l):∀ x∈l,-100 < x∧x < 100:=by
 unfold inps at h
 split at h
 ·simp at h;subst h;intro x hx;cases hx
 ·simp at h
  obtain ⟨f,hf⟩:=h
  intro x hx
  have:=inpSt_range _ f l hf x hx
  omega
end Go.Proofs.YtmnfndpbblpjiaaGreatDoor

/- Of the statements of a source: how many there are, and that their words stand in it: plain. -/
namespace Go.Proofs.YtmnfndpbblpjiaaGreatDoor.Pu
theorem nx_inv {y x:Sc} {c:Nat} (h:nx y c=some x) :
  (y.st=0∧y.n≠16∧c=63∧x=⟨2,y.n,y.le,y.ar⟩)∨(y.st=0∧y.n≠16∧isL c=true∧x=⟨1,y.n,y.le,y.ar⟩)∨(y.st=1∧c=61∧x=⟨2,y.n,y.le,y.ar⟩)∨(y.st=2∧isL c=true∧x=⟨3,y.n,1,y.ar⟩) ∨
  (y.st=3∧isL c=true∧x=⟨3,y.n,y.le+1,y.ar⟩)∨(y.st=3∧c=40∧x=⟨4,y.n,y.le,0⟩)∨(y.st=4∧isL c=true∧x=⟨5,y.n,y.le,y.ar+1⟩)∨(y.st=4∧c=41∧x=⟨7,y.n,y.le,y.ar⟩) ∨
  (y.st=5∧c=41∧x=⟨7,y.n,y.le,y.ar⟩)∨(y.st=5∧c=44∧x=⟨6,y.n,y.le,y.ar⟩)∨(y.st=6∧isL c=true∧x=⟨5,y.n,y.le,y.ar+1⟩)∨(y.st=7∧c=59∧x=⟨0,y.n+1,y.le,y.ar⟩):=by
 unfold nx at h
 by_cases h0:y.st=0
 ·rw [if_pos h0] at h
  by_cases h1:y.n=16
  ·simp [h1] at h
  ·by_cases h2:c=63
   ·simp [h1,h2] at h;simp [h0,h1,h2,h]
   ·by_cases h3:isL c=true
    ·simp [h1,h2,h3] at h;simp [h0,h1,h3,h]
    ·simp [h1,h2,h3] at h
 rw [if_neg h0] at h
 by_cases h1:y.st=1
 ·rw [if_pos h1] at h
  by_cases h2:c=61
  ·simp [h2] at h;simp [h1,h2,h]
  ·simp [h2] at h
 rw [if_neg h1] at h
 by_cases h2:y.st=2
 ·rw [if_pos h2] at h
  by_cases h3:isL c=true
  ·simp [h3] at h;simp [h2,h3,h]
  ·simp [h3] at h
 rw [if_neg h2] at h
 by_cases h3:y.st=3
 ·rw [if_pos h3] at h
  by_cases h4:isL c && decide (y.le < 6)
  ·rw [if_pos h4] at h
   simp at h4 h
   simp [h3,h4.1,h]
  ·rw [if_neg h4] at h
   by_cases h5:c=40
   ·simp [h5] at h;simp [h3,h5,h]
   ·simp [h5] at h
 rw [if_neg h3] at h
 by_cases h4:y.st=4
 ·rw [if_pos h4] at h
  by_cases h5:isL c=true
  ·simp [h5] at h;simp [h4,h5,h]
  ·by_cases h6:c=41
   ·simp [h6,isL] at h;simp [h4,h6,h]
   ·simp [h5,h6] at h
 rw [if_neg h4] at h
 by_cases h5:y.st=5
 ·rw [if_pos h5] at h
  by_cases h6:c=41
  ·simp [h6] at h;simp [h5,h6,h]
  ·by_cases h7:c=44∧y.ar < 4
   ·simp [h7] at h;simp [h5,h7.1,h]
   ·rw [if_neg h6,if_neg h7] at h;cases h
 rw [if_neg h5] at h
 by_cases h6:y.st=6
 ·rw [if_pos h6] at h
  by_cases h7:isL c=true
  ·simp [h7] at h;simp [h6,h7,h]
  ·simp [h7] at h
 rw [if_neg h6] at h
 by_cases h7:y.st=7
 ·rw [if_pos h7] at h
  by_cases h8:c=59
  ·simp [h8] at h;simp [h7,h8,h]
  ·simp [h8] at h
 ·rw [if_neg h7] at h;cases h
def InS (s:ByteArray) (i:Nat) (wd:List UInt8):Prop:=i+wd.length≤s.size∧∀ j (hj:j < wd.length),bt s (i+j)=wd[j]
theorem InS.nil (s:ByteArray) {i:Nat} (h:i≤s.size):InS s i []:=⟨by simpa using h,fun j hj=>by simp at hj⟩
theorem InS.snoc {s:ByteArray} {i:Nat} {wd:List UInt8} (h:InS s i wd) (hk:i+wd.length < s.size):InS s i (wd++[bt s (i+wd.length)]):=by
 refine ⟨by simp;omega,fun j hj=>?_⟩
 by_cases e:j < wd.length
 ·rw [List.getElem_append_left e];exact h.2 j e
 ·have:j=wd.length:=by simp at hj;omega
  subst this
  simp
structure GaI (s:ByteArray) (k:Nat) (x:Sc):Prop where
 cnt:(gaA s k).l.length=x.n
 n16:x.n≤16∧(x.st≠0→x.n < 16)
 ins:(gaA s k).ins=true↔(x.st=4∨x.st=5∨x.st=6)
 old:∀ y∈(gaA s k).l,∃ i,InS s i y.word
 wd2:x.st=2→(gaA s k).x.word=[]
 wd3:x.st=3→(gaA s k).x.word.length≤k∧InS s (k - (gaA s k).x.word.length) (gaA s k).x.word
 wd4:4≤x.st→∃ i,InS s i (gaA s k).x.word
theorem ga_inv (s:ByteArray):∀ (k:Nat) (x:Sc),k≤s.size→stA s k=some x→GaI s k x:=by
 intro k
 induction k with
 | zero =>
  intro x _ h
  have:x=⟨0,0,0,0⟩:=(Option.some.inj h).symm
  subst this
  exact ⟨rfl,⟨by decide,fun h=>absurd rfl h⟩,by simp [gaA],fun y hy=>by simp [gaA] at hy,fun h=>by simp at h,fun h=>by simp at h,fun h=>by simp at h⟩
 | succ k ih =>
  intro x hk h
  obtain ⟨y,hy,hn⟩:=stA_back h
  obtain ⟨c1,c2,c3,c4,c5,c6,c7⟩:=ih y (by omega) hy
  have hl:isL (g s k)=true→97≤g s k∧g s k≤122:=(isL_iff _).1
  have hA:gaA s (k+1)=gaStep s k (gaA s k):=rfl
  rcases nx_inv hn with ⟨a,b,c,rfl⟩ | ⟨a,b,c,rfl⟩ | ⟨a,c,rfl⟩ | ⟨a,c,rfl⟩ | ⟨a,c,rfl⟩ | ⟨a,c,rfl⟩ | ⟨a,c,rfl⟩ | ⟨a,c,rfl⟩ | ⟨a,c,rfl⟩ | ⟨a,c,rfl⟩ | ⟨a,c,rfl⟩ | ⟨a,c,rfl⟩
  ·have hG:gaStep s k (gaA s k)=⟨(gaA s k).l,⟨(gaA s k).x.name,[],(gaA s k).x.args⟩,(gaA s k).ins⟩:=by simp [gaStep,c]
   constructor
   all_goals (simp only [hA,hG])
   ·exact c1
   ·exact ⟨c2.1,fun _=>by omega⟩
   ·rw [c3];simp [a]
   ·exact c4
   ·intro _;trivial
   ·intro h;simp at h
   ·intro h;simp at h
  ·have hc:=hl c
   have hi:(gaA s k).ins=false:=by
    cases hh:(gaA s k).ins with
    | false=>rfl
    | true=>rw [hh] at c3;simp [a] at c3
   have hG:gaStep s k (gaA s k)=⟨(gaA s k).l,⟨(gaA s k).x.name,(gaA s k).x.word++[bt s k],(gaA s k).x.args⟩,false⟩:=by
    simp [gaStep,c,hi,show g s k≠61 by omega,show g s k≠63 by omega,show g s k≠40 by omega,show g s k≠41 by omega,show g s k≠59 by omega]
   constructor
   all_goals (simp only [hA,hG])
   ·exact c1
   ·exact ⟨c2.1,fun _=>by omega⟩
   ·simp
   ·exact c4
   ·intro h;simp at h
   ·intro h;simp at h
   ·intro h;simp at h
  ·have hG:gaStep s k (gaA s k)=⟨(gaA s k).l,⟨g s (k - 1),[],(gaA s k).x.args⟩,(gaA s k).ins⟩:=by simp [gaStep,c]
   constructor
   all_goals (simp only [hA,hG])
   ·exact c1
   ·exact ⟨c2.1,fun _=>c2.2 (by omega)⟩
   ·rw [c3];simp [a]
   ·exact c4
   ·intro _;trivial
   ·intro h;simp at h
   ·intro h;simp at h
  ·have hc:=hl c
   have hi:(gaA s k).ins=false:=by
    cases hh:(gaA s k).ins with
    | false=>rfl
    | true=>rw [hh] at c3;simp [a] at c3
   have hw:=c5 a
   have hG:gaStep s k (gaA s k)=⟨(gaA s k).l,⟨(gaA s k).x.name,[bt s k],(gaA s k).x.args⟩,false⟩:=by
    simp [gaStep,c,hi,hw,show g s k≠61 by omega,show g s k≠63 by omega,show g s k≠40 by omega,show g s k≠41 by omega,show g s k≠59 by omega]
   constructor
   all_goals (simp only [hA,hG])
   ·exact c1
   ·exact ⟨c2.1,fun _=>c2.2 (by omega)⟩
   ·simp
   ·exact c4
   ·intro h;simp at h
   ·intro _
    have:=(InS.nil s (i:=k) (by omega)).snoc (by simp;omega)
    simpa using this
   ·intro h;simp at h
  ·have hc:=hl c
   have hi:(gaA s k).ins=false:=by
    cases hh:(gaA s k).ins with
    | false=>rfl
    | true=>rw [hh] at c3;simp [a] at c3
   obtain ⟨w1,w2⟩:=c6 a
   have hG:gaStep s k (gaA s k)=⟨(gaA s k).l,⟨(gaA s k).x.name,(gaA s k).x.word++[bt s k],(gaA s k).x.args⟩,false⟩:=by
    simp [gaStep,c,hi,show g s k≠61 by omega,show g s k≠63 by omega,show g s k≠40 by omega,show g s k≠41 by omega,show g s k≠59 by omega]
   constructor
   all_goals (simp only [hA,hG])
   ·exact c1
   ·exact ⟨c2.1,fun _=>c2.2 (by omega)⟩
   ·simp
   ·exact c4
   ·intro h;simp at h
   ·intro _
    have e:k - (gaA s k).x.word.length+(gaA s k).x.word.length=k:=by omega
    have:=w2.snoc (by omega)
    rw [e] at this
    refine ⟨by simp;omega,?_⟩
    rw [show k+1 - ((gaA s k).x.word++[bt s k]).length=k - (gaA s k).x.word.length by simp]
    exact this
   ·intro h;simp at h
  ·have hG:gaStep s k (gaA s k)=⟨(gaA s k).l,(gaA s k).x,true⟩:=by simp [gaStep,c]
   constructor
   all_goals (simp only [hA,hG])
   ·exact c1
   ·exact ⟨c2.1,fun _=>c2.2 (by omega)⟩
   ·simp
   ·exact c4
   ·intro h;simp at h
   ·intro h;simp at h
   ·intro _;exact ⟨_,(c6 a).2⟩
  ·have hc:=hl c
   have hi:(gaA s k).ins=true:=c3.2 (.inl a)
   have hG:gaStep s k (gaA s k)=⟨(gaA s k).l,⟨(gaA s k).x.name,(gaA s k).x.word,(gaA s k).x.args++[bt s k]⟩,true⟩:=by
    simp [gaStep,c,hi,show g s k≠61 by omega,show g s k≠63 by omega,show g s k≠40 by omega,show g s k≠41 by omega,show g s k≠59 by omega]
   constructor
   all_goals (simp only [hA,hG])
   ·exact c1
   ·exact ⟨c2.1,fun _=>c2.2 (by omega)⟩
   ·simp
   ·exact c4
   ·intro h;simp at h
   ·intro h;simp at h
   ·intro _;exact c7 (by omega)
  ·have hG:gaStep s k (gaA s k)=⟨(gaA s k).l,(gaA s k).x,false⟩:=by simp [gaStep,c]
   constructor
   all_goals (simp only [hA,hG])
   ·exact c1
   ·exact ⟨c2.1,fun _=>c2.2 (by omega)⟩
   ·simp
   ·exact c4
   ·intro h;simp at h
   ·intro h;simp at h
   ·intro _;exact c7 (by omega)
  ·have hG:gaStep s k (gaA s k)=⟨(gaA s k).l,(gaA s k).x,false⟩:=by simp [gaStep,c]
   constructor
   all_goals (simp only [hA,hG])
   ·exact c1
   ·exact ⟨c2.1,fun _=>c2.2 (by omega)⟩
   ·simp
   ·exact c4
   ·intro h;simp at h
   ·intro h;simp at h
   ·intro _;exact c7 (by omega)
  ·have hG:gaStep s k (gaA s k)=gaA s k:=by simp [gaStep,c,isL]
   constructor
   all_goals (simp only [hA,hG])
   ·exact c1
   ·exact ⟨c2.1,fun _=>c2.2 (by omega)⟩
   ·rw [c3];simp [a]
   ·exact c4
   ·intro h;simp at h
   ·intro h;simp at h
   ·intro _;exact c7 (by omega)
  ·have hc:=hl c
   have hi:(gaA s k).ins=true:=c3.2 (.inr (.inr a))
   have hG:gaStep s k (gaA s k)=⟨(gaA s k).l,⟨(gaA s k).x.name,(gaA s k).x.word,(gaA s k).x.args++[bt s k]⟩,true⟩:=by
    simp [gaStep,c,hi,show g s k≠61 by omega,show g s k≠63 by omega,show g s k≠40 by omega,show g s k≠41 by omega,show g s k≠59 by omega]
   constructor
   all_goals (simp only [hA,hG])
   ·exact c1
   ·exact ⟨c2.1,fun _=>c2.2 (by omega)⟩
   ·simp
   ·exact c4
   ·intro h;simp at h
   ·intro h;simp at h
   ·intro _;exact c7 (by omega)
  ·have hG:gaStep s k (gaA s k)=⟨(gaA s k).l++[(gaA s k).x],⟨0,[],[]⟩,(gaA s k).ins⟩:=by simp [gaStep,c]
   have h15:=c2.2 (by omega)
   constructor
   all_goals (simp only [hA,hG])
   ·simp [c1]
   ·exact ⟨by omega,fun h=>absurd rfl h⟩
   ·rw [c3];simp [a]
   ·intro z hz
    rcases List.mem_append.1 hz with hz | hz
    ·exact c4 z hz
    ·simp at hz;subst hz;exact c7 (by omega)
   ·intro h;simp at h
   ·intro h;simp at h
   ·intro h;simp at h
theorem whole_count {s:ByteArray} (h:Whole s):(gaA s s.size).l.length≤16∧∀ y∈(gaA s s.size).l,∃ i,InS s i y.word:=by
 obtain ⟨x,hx,-⟩:=h
 have hi:=ga_inv s s.size x (Nat.le_refl _) hx
 exact ⟨by rw [hi.cnt];exact hi.n16.1,hi.old⟩
end Go.Proofs.YtmnfndpbblpjiaaGreatDoor.Pu

/- Four points on a circle or a line: the document's way, held against the program's. -/
import Derived.Test.YtmnfndpbblpjiaaGreatDoorZr06
namespace Go.Proofs.YtmnfndpbblpjiaaGreatDoor.Pu
def crs (a b:T3):Int:=a.x*b.y - a.y*b.x
def inn (a b:T3):Int:=a.x*b.x+a.y*b.y
def rnd3 (U V S:T3):Int:=volV (lifV U) (lifV V) (lifV S)
theorem rnd3_exp (U V S:T3):rnd3 U V S=inn S S*(U.w*V.w*crs U V) - inn V V*(U.w*S.w*crs U S)+inn U U*(V.w*S.w*crs V S):=by
 simp only [rnd3,volV,dotV,crossV,lifV,inn,crs];grind
def dif (U V:T3):T3:=⟨U.w*V.x - V.w*U.x,U.w*V.y - V.w*U.y,1⟩
theorem dif_x (p q r:T3):(dif (wayV p q) (wayV p r)).x=(wayV q r).x*(p.w*p.w):=by simp only [dif,wayV];grind
theorem dif_y (p q r:T3):(dif (wayV p q) (wayV p r)).y=(wayV q r).y*(p.w*p.w):=by simp only [dif,wayV];grind
theorem dif_ne {p q r:T3} (hp:0 < p.w) (h:samR q r=false):(dif (wayV p q) (wayV p r)).x≠0∨(dif (wayV p q) (wayV p r)).y≠0:=by
 rw [dif_x,dif_y]
 rcases way_ne h with h | h
 ·exact .inl (m_ne h (m_ne (p_ne hp) (p_ne hp)))
 ·exact .inr (m_ne h (m_ne (p_ne hp) (p_ne hp)))
theorem caseA {U V S:T3} (h:crs U V=0):rnd3 U V S=S.w*crs U S*inn V (dif V U):=by
 rw [rnd3_exp,h]
 have e:U.x*V.y=U.y*V.x:=by unfold crs at h;omega
 simp only [inn,crs,dif]
 grind
theorem caseB {U V S:T3} (h:crs U S=0):rnd3 U V S=V.w*crs U V*inn S (dif U S):=by
 rw [rnd3_exp,h]
 have e:U.x*S.y=U.y*S.x:=by unfold crs at h;omega
 simp only [inn,crs,dif]
 grind
theorem caseC {U V S:T3} (h:crs V S=0):rnd3 U V S=U.w*crs U V*inn S (dif V S):=by
 rw [rnd3_exp,h]
 have e:V.x*S.y=V.y*S.x:=by unfold crs at h;omega
 simp only [inn,crs,dif]
 grind
theorem caseD1 (U V S:T3):U.w*U.w*rnd3 U V S=V.w*crs U (dif U V)*(inn (dif U S) (dif U S)+2*S.w*inn (dif U S) U) - S.w*crs U (dif U S)*(inn (dif U V) (dif U V)+2*V.w*inn (dif U V) U)+inn U U*V.w*S.w*crs (dif U V) (dif U S):=by
 rw [rnd3_exp]
 simp only [inn,crs,dif]
 grind
theorem caseD2 {U X Y:T3} (vw sw:Int) (h:crs Y X=0):inn Y Y*(vw*crs U Y*(inn X X+2*sw*inn X U) - sw*crs U X*(inn Y Y+2*vw*inn Y U))=crs U Y*inn X Y*(vw*inn X Y - sw*inn Y Y):=by
 have e:Y.x*X.y=Y.y*X.x:=by unfold crs at h;omega
 have e1:inn Y Y*X.x=inn X Y*Y.x:=by simp only [inn];grind
 have e2:inn Y Y*X.y=inn X Y*Y.y:=by simp only [inn];grind
 have f1:inn Y Y*inn X X=inn X Y*inn X Y:=by
  have:inn Y Y*inn X X=(inn Y Y*X.x)*X.x+(inn Y Y*X.y)*X.y:=by simp only [inn];grind
  rw [this,e1,e2];simp only [inn];grind
 have f2:inn Y Y*inn X U=inn X Y*inn Y U:=by
  have:inn Y Y*inn X U=(inn Y Y*X.x)*U.x+(inn Y Y*X.y)*U.y:=by simp only [inn];grind
  rw [this,e1,e2];simp only [inn];grind
 have f3:inn Y Y*crs U X=inn X Y*crs U Y:=by
  have:inn Y Y*crs U X=U.x*(inn Y Y*X.y) - U.y*(inn Y Y*X.x):=by simp only [inn,crs];grind
  rw [this,e1,e2];simp only [inn,crs];grind
 generalize inn Y Y=a at *
 generalize inn X X=b at *
 generalize inn X Y=c at *
 generalize inn X U=d at *
 generalize inn Y U=f at *
 generalize crs U X=g at *
 generalize crs U Y=j at *
 grind
theorem crs_lin {X Y:T3} (a b:Int) (h:crs Y X=0):crs Y ⟨a*X.x - b*Y.x,a*X.y - b*Y.y,1⟩=0:=by
 have e:Y.x*X.y=Y.y*X.x:=by unfold crs at h;omega
 simp only [crs];grind
theorem inn_ne {A B:T3} (hp:crs A B=0) (h1:A.x≠0∨A.y≠0) (h2:B.x≠0∨B.y≠0):inn A B≠0:=dots_ne (by unfold crs at hp;omega) h1 h2
theorem crs_dif (U V W:T3) (h:crs U V=0) (k:crs U W=0):crs U (dif V W)=0:=by
 have e1:U.x*V.y=U.y*V.x:=by unfold crs at h;omega
 have e2:U.x*W.y=U.y*W.x:=by unfold crs at k;omega
 simp only [crs,dif]
 grind
theorem crs_self (U:T3):crs U U=0:=by unfold crs;grind
theorem crs_sym {U V:T3} (h:crs U V=0):crs V U=0:=by unfold crs at *;grind
theorem dif_sym {U V:T3} (h:(dif U V).x≠0∨(dif U V).y≠0):(dif V U).x≠0∨(dif V U).y≠0:=by
 simp only [dif] at *
 rcases h with h | h
 ·exact .inl (by omega)
 ·exact .inr (by omega)
theorem prop_zero {A B C:T3} {a b:Int} (ha:a≠0) (h:mul3 A a=mul3 B b):volV A B C=0:=by
 have e:=h_vol A B C a 1 1
 rw [h,mul3_one,mul3_one] at e
 have z:volV (mul3 B b) B C=0:=by simp only [volV,dotV,crossV,mul3];grind
 rw [z] at e
 rcases Int.mul_eq_zero.1 e.symm with h | h
 ·exact h
 ·simp at h;exact absurd h ha
theorem same_prop {p q r:T3} (h:samR q r=true):mul3 (wayV p q) (r.w)=mul3 (wayV p r) (q.w):=by
 obtain ⟨h1,h2⟩:=way_zero h
 have e1:r.x*q.w=q.x*r.w:=by have:r.x*q.w - q.x*r.w=0:=h1;omega
 have e2:r.y*q.w=q.y*r.w:=by have:r.y*q.w - q.y*r.w=0:=h2;omega
 refine T3.ext' ?_ ?_ ?_ <;> simp only [mul3,wayV] <;> grind
theorem lif_prop {A B:T3} {a b:Int} (h:mul3 A a=mul3 B b):mul3 (lifV A) (a*a)=mul3 (lifV B) (b*b):=by rw [← h_lif,h,h_lif]
theorem vol_rot (A B C:T3):volV A B C=volV B C A:=by simp only [volV,dotV,crossV];grind
theorem lif_zero {A:T3} (h:A.x=0∧A.y=0):lifV A=t0:=by refine T3.ext' ?_ ?_ ?_ <;> simp [lifV,h.1,h.2,t0]
theorem vol_t0 (B C:T3):volV t0 B C=0:=by simp [volV,dotV,crossV,t0]
section
variable {p q r s:T3}
theorem col_crs:colR p q r=true↔crs (wayV p q) (wayV p r)=0:=by unfold colR;rw [decide_eq_true_eq];exact Iff.rfl
theorem col_crs' (hp:0 < p.w):colR q r s=true↔crs (dif (wayV p q) (wayV p r)) (dif (wayV p q) (wayV p s))=0:=by
 rw [col_crs]
 unfold crs
 rw [dif_x,dif_y,dif_x,dif_y]
 have hne:=m_ne (m_ne (p_ne hp) (p_ne hp)) (m_ne (p_ne hp) (p_ne hp))
 exact zero_fac hne (by decide:(1:Int)≠0) (by grind)
def lin (p L:T3):T3:=⟨2*p.w*L.x,2*p.w*L.y,-(2*p.x*L.x) - 2*p.y*L.y - p.w*L.w⟩
theorem hal_lin (p q:T3):mul3 (halV p q) p.w=lin p (lifV (wayV p q)):=by refine T3.ext' ?_ ?_ ?_ <;> simp only [mul3,halV,uprV,parV,midV,crossV,lin,lifV,wayV] <;> grind
theorem vol_lin (p A B C:T3):volV (lin p A) (lin p B) (lin p C)=volV A B C*(-4*(p.w*p.w*p.w)):=by simp only [volV,dotV,crossV,lin];grind
theorem vol_hal (hp:0 < p.w):volV (halV p q) (halV p r) (halV p s)=0↔rndV p q r s=0:=by
 have e:=h_vol (halV p q) (halV p r) (halV p s) p.w p.w p.w
 rw [hal_lin,hal_lin,hal_lin,vol_lin] at e
 have hne:=m_ne (m_ne (p_ne hp) (p_ne hp)) (p_ne hp)
 exact zero_fac hne (m_ne (by decide:(-4:Int)≠0) hne) e.symm
theorem alk_id (x p q:T3):dotR (frm x p) (frm x p)*(q.w*q.w) - dotR (frm x q) (frm x q)*(p.w*p.w)=x.w*dotV x (halV p q):=by
 simp only [dotR,frm,dotV,halV,uprV,parV,midV,crossV];grind
theorem alk_iff {o:T3} (ho:o.w≠0):alkR o p s=true↔dotV o (halV p s)=0:=by
 unfold alkR
 rw [decide_eq_true_eq,alk_id]
 constructor
 ·intro h;rcases Int.mul_eq_zero.1 h with h | h
  ·exact absurd h ho
  ·exact h
 ·intro h;rw [h,Int.mul_zero]
theorem Pq.same {p:T3} (h:0 < p.w):Pq p p:=⟨Qq.refl p,h,h⟩
theorem cen_w (hp:0 < p.w) (hq:0 < q.w) (hr:0 < r.w) (h:colR p q r=false):(cenV p q r).w≠0:=by
 intro e
 have e1:(cenV p q r).w*(p.w*p.w)=(lin p (lifV (wayV p q))).x*(lin p (lifV (wayV p r))).y - (lin p (lifV (wayV p q))).y*(lin p (lifV (wayV p r))).x:=by
  rw [← hal_lin,← hal_lin];simp only [cenV,mul3,crossV];grind
 rw [e,Int.zero_mul] at e1
 have e2:crs (wayV p q) (wayV p r)*(4*(p.w*p.w)*((wayV p q).w*(wayV p r).w))=0:=by
  rw [e1];simp only [lin,lifV,crs];grind
 have hne:4*(p.w*p.w)*((wayV p q).w*(wayV p r).w)≠0:=m_ne (m_ne (by decide) (m_ne (p_ne hp) (p_ne hp))) (m_ne (m_ne (p_ne hp) (p_ne hq)) (m_ne (p_ne hp) (p_ne hr)))
 rcases Int.mul_eq_zero.1 e2 with h2 | h2
 ·rw [col_crs.2 h2] at h;cases h
 ·exact hne h2
theorem rnd_doc (hp:0 < p.w) (hq:0 < q.w) (hr:0 < r.w) (hs:0 < s.w):rndV p q r s=0↔rndR p q r s=true:=by
 have hd:rndV p q r s=rnd3 (wayV p q) (wayV p r) (wayV p s):=rfl
 have uw:(wayV p q).w≠0:=m_ne (p_ne hp) (p_ne hq)
 have vw:(wayV p r).w≠0:=m_ne (p_ne hp) (p_ne hr)
 have sw:(wayV p s).w≠0:=m_ne (p_ne hp) (p_ne hs)
 unfold rndR
 cases h1:samR p q with
 | true=>simp only [Bool.true_or,if_true,iff_true];rw [hd,rnd3,lif_zero (way_zero h1),vol_t0]
 | false =>
 cases h2:samR p r with
 | true=>simp only [Bool.or_true,Bool.true_or,if_true,iff_true];rw [hd,rnd3,lif_zero (way_zero h2),vol_rot,vol_t0]
 | false =>
 cases h3:samR p s with
 | true=>simp only [Bool.or_true,Bool.true_or,if_true,iff_true];rw [hd,rnd3,lif_zero (way_zero h3),vol_rot,vol_rot,vol_t0]
 | false =>
 cases h4:samR q r with
 | true=>simp only [Bool.or_true,Bool.true_or,if_true,iff_true];rw [hd,rnd3];exact prop_zero (m_ne (p_ne hr) (p_ne hr)) (lif_prop (same_prop h4))
 | false =>
 cases h5:samR q s with
 | true=>simp only [Bool.or_true,Bool.true_or,if_true,iff_true];rw [hd,rnd3,vol_rot,vol_rot];exact prop_zero (m_ne (p_ne hq) (p_ne hq)) (lif_prop (same_prop h5).symm)
 | false =>
 cases h6:samR r s with
 | true=>simp only [Bool.or_true,if_true,iff_true];rw [hd,rnd3,vol_rot];exact prop_zero (m_ne (p_ne hs) (p_ne hs)) (lif_prop (same_prop h6))
 | false =>
 simp only [Bool.or_false,Bool.false_eq_true,if_false]
 have n1:=way_ne h1
 have n2:=way_ne h2
 have n3:=way_ne h3
 have n4:=dif_ne hp h4
 have n5:=dif_ne hp h5
 have n6:=dif_ne hp h6
 cases ca:colR p q r with
 | true =>
  simp only [Bool.true_or,if_true,Bool.true_and]
  have c1:=col_crs.1 ca
  rw [hd,caseA c1,col_crs]
  have k:=inn_ne (A:=wayV p r) (B:=dif (wayV p r) (wayV p q)) (crs_dif _ _ _ (crs_self _) (crs_sym c1)) n2 (dif_sym n4)
  exact zero_fac (by decide:(1:Int)≠0) (m_ne sw k) (by grind)
 | false =>
 have k1:crs (wayV p q) (wayV p r)≠0:=fun e=>by rw [col_crs.2 e] at ca;cases ca
 cases cb:colR p q s with
 | true =>
  simp only [Bool.or_true,Bool.true_or,if_true,Bool.false_and,Bool.false_eq_true,iff_false]
  have c1:=col_crs.1 cb
  rw [hd,caseB c1]
  have k:=inn_ne (A:=wayV p s) (B:=dif (wayV p q) (wayV p s)) (crs_dif _ _ _ (crs_sym c1) (crs_self _)) n3 n5
  exact m_ne (m_ne vw k1) k
 | false =>
 cases cc:colR p r s with
 | true =>
  simp only [Bool.or_true,Bool.true_or,if_true,Bool.false_and,Bool.false_eq_true,iff_false]
  have c1:=col_crs.1 cc
  rw [hd,caseC c1]
  have k:=inn_ne (A:=wayV p s) (B:=dif (wayV p r) (wayV p s)) (crs_dif _ _ _ (crs_sym c1) (crs_self _)) n3 n6
  exact m_ne (m_ne uw k1) k
 | false =>
 cases cd:colR q r s with
 | true =>
  simp only [Bool.or_true,if_true,Bool.false_and,Bool.false_eq_true,iff_false]
  have c1:=(col_crs' hp).1 cd
  intro h0
  rw [hd] at h0
  have e1:=caseD1 (wayV p q) (wayV p r) (wayV p s)
  rw [h0,c1,Int.mul_zero,Int.mul_zero,Int.add_zero] at e1
  have e2:=caseD2 (U:=wayV p q) (wayV p r).w (wayV p s).w c1
  rw [← e1,Int.mul_zero] at e2
  have kx:=inn_ne (crs_sym c1) n5 n4
  have ku:crs (wayV p q) (dif (wayV p q) (wayV p r))≠0:=by
   have:crs (wayV p q) (dif (wayV p q) (wayV p r))=(wayV p q).w*crs (wayV p q) (wayV p r):=by simp only [crs,dif];grind
   rw [this];exact m_ne uw k1
  generalize hX:dif (wayV p q) (wayV p s)=X at *
  generalize hY:dif (wayV p q) (wayV p r)=Y at *
  have kz:(wayV p r).w*inn X Y - (wayV p s).w*inn Y Y=inn Y ⟨(wayV p r).w*X.x - (wayV p s).w*Y.x,(wayV p r).w*X.y - (wayV p s).w*Y.y,1⟩:=by simp only [inn];grind
  have kd:((wayV p r).w*X.x - (wayV p s).w*Y.x)=(wayV p q).w*(dif (wayV p r) (wayV p s)).x∧((wayV p r).w*X.y - (wayV p s).w*Y.y)=(wayV p q).w*(dif (wayV p r) (wayV p s)).y:=by
   rw [← hX,← hY];simp only [dif];constructor <;> grind
  have kc:crs Y ⟨(wayV p r).w*X.x - (wayV p s).w*Y.x,(wayV p r).w*X.y - (wayV p s).w*Y.y,1⟩=0:=crs_lin _ _ c1
  have kn:=inn_ne kc n4 (by
   rw [kd.1,kd.2]
   rcases n6 with n6 | n6
   ·exact .inl (m_ne uw n6)
   ·exact .inr (m_ne uw n6))
  rw [← kz] at kn
  exact m_ne (m_ne ku kx) kn e2.symm
 | false =>
  simp only [Bool.or_false,Bool.false_eq_true,if_false]
  have hw:=cen_w hp hq hr ca
  have hok:cenOk p q r=true:=by
   cases h:cenOk p q r with
   | true=>rfl
   | false=>exact absurd ((cen_stop (Pq.same hp) (Pq.same hq) (Pq.same hr)).2 h) hw
  have hP:=Pq.cen (Pq.same hp) (Pq.same hq) (Pq.same hr) hok
  rw [cenV',if_pos hok,alk_iff (p_ne hP.v0),← vol_hal hp]
  have hq2:Qq (cenV p q r) (cenP p q r):=(Qq.fac (sgn_ne hw) rfl).symm.trans hP.q
  obtain ⟨a,b,ha,hb,e⟩:=hq2
  have f:=h_dot (cenV p q r) (halV p s) a 1
  rw [e,h_dot] at f
  exact zero_fac (m_ne ha (by decide:(1:Int)≠0)) (m_ne hb (by decide:(1:Int)≠0)) f.symm
end
theorem q_con {u v u' v' u'' v'' u3 v3:T3} (h:Pq u v) (j:Pq u' v') (i:Pq u'' v'') (g:Pq u3 v3):(0 < isnV (rndV u u' u'' u3))↔rndR v v' v'' v3=true:=by
 rw [isn_pos,← rnd_doc h.v0 j.v0 i.v0 g.v0]
 obtain ⟨a,b,ha,hb,e⟩:=h.q
 obtain ⟨c,d,hc,hd,f⟩:=j.q
 obtain ⟨x,y,hx,hy,k⟩:=i.q
 obtain ⟨z,t,hz,ht,m⟩:=g.q
 have n:=h_rnd u u' u'' u3 a c x z
 rw [e,f,k,m,h_rnd] at n
 exact zero_fac (m_ne (m_ne (m_ne (m_ne ha hc) (m_ne ha hc)) (m_ne (m_ne ha hx) (m_ne ha hx))) (m_ne (m_ne ha hz) (m_ne ha hz))) (m_ne (m_ne (m_ne (m_ne hb hd) (m_ne hb hd)) (m_ne (m_ne hb hy) (m_ne hb hy))) (m_ne (m_ne hb ht) (m_ne hb ht))) n.symm
end Go.Proofs.YtmnfndpbblpjiaaGreatDoor.Pu

/- The document's report, plainly, held against the program's. -/
namespace Go.Proofs.YtmnfndpbblpjiaaGreatDoor.Pu
structure Thg where
 P:T3
 L:RL
def l0:RL:=⟨t0,⟨0,0⟩⟩
def g0:Thg:=⟨t0,l0⟩
def thg (A:List Thg) (j:Nat):Thg:=A[j]?.getD g0
def valR (A:List Thg) (ins:List Int) (i:Nat):Cmd→Thg
 | .inl (.inl (.inl (.inl (.inl ()))))=>⟨⟨inp ins i,inp ins (i+1),1⟩,l0⟩
 | .inl (.inl (.inl (.inl (.inr (a,b)))))=>⟨ptN (hlf (thg A a).P (thg A b).P),l0⟩
 | .inl (.inl (.inl (.inr (a,b))))=>⟨t0,⟨(thg A a).P,frm (thg A a).P (thg A b).P⟩⟩
 | .inl (.inl (.inr (.inl (p,l))))=>⟨t0,⟨(thg A p).P,(thg A l).L.d⟩⟩
 | .inl (.inl (.inr (.inr (p,l))))=>⟨t0,⟨(thg A p).P,⟨-(thg A l).L.d.y,(thg A l).L.d.x⟩⟩⟩
 | .inl (.inr (.inl (.inl (l,m))))=>⟨if pllR (thg A l).L (thg A m).L then t0 else ptN (meetU (thg A l).L (thg A m).L),l0⟩
 | .inl (.inr (.inl (.inr (p,l))))=>⟨ptN (footU (thg A p).P (thg A l).L),l0⟩
 | .inl (.inr (.inr (.inl (p,l))))=>⟨ptN (mirU (thg A p).P (ptN (footU (thg A p).P (thg A l).L))),l0⟩
 | .inl (.inr (.inr (.inr (a,b,c))))=>⟨cenV' (thg A a).P (thg A b).P (thg A c).P,l0⟩
 | .inr _=>g0
def stopR (A:List Thg):Cmd→Bool
 | .inl (.inl (.inl (.inl _)))=>false
 | .inl (.inl (.inl (.inr (a,b))))=>samR (thg A a).P (thg A b).P
 | .inl (.inl (.inr _))=>false
 | .inl (.inr (.inl (.inl (l,m))))=>pllR (thg A l).L (thg A m).L
 | .inl (.inr (.inl (.inr _)))=>false
 | .inl (.inr (.inr (.inl _)))=>false
 | .inl (.inr (.inr (.inr (a,b,c))))=>!cenOk (thg A a).P (thg A b).P (thg A c).P
 | .inr _=>false
def askR (A:List Thg):Cmd→Bool
 | .inl _=>false
 | .inr (.inl (.inl (.inl (.inl (a,b)))))=>samR (thg A a).P (thg A b).P
 | .inr (.inl (.inl (.inl (.inr (a,b,c)))))=>colR (thg A a).P (thg A b).P (thg A c).P
 | .inr (.inl (.inl (.inr (a,b,c))))=>decide (0 < turnR (frm (thg A a).P (thg A b).P) (frm (thg A a).P (thg A c).P))
 | .inr (.inl (.inr (.inl (a,b,c))))=>btwR (thg A a).P (thg A b).P (thg A c).P
 | .inr (.inl (.inr (.inr (a,b,c,d))))=>rndR (thg A a).P (thg A b).P (thg A c).P (thg A d).P
 | .inr (.inr (.inl (.inl (p,l))))=>onR (thg A p).P (thg A l).L
 | .inr (.inr (.inl (.inr (l,m))))=>pllR (thg A l).L (thg A m).L
 | .inr (.inr (.inr (.inl (l,m))))=>decide (dotR (thg A l).L.d (thg A m).L.d=0)
 | .inr (.inr (.inr (.inr (l,m,n))))=>bunR (thg A l).L (thg A m).L (thg A n).L
def repR (ins:List Int):List Cmd→Nat→Nat→List Thg→ByteArray→ByteArray
 | [],_,_,_,s=>s
 | c :: r,k,i,A,s =>
  if srt c=63 then repR ins r (k+1) i (A++[g0]) (s++⟨#[if askR A c then 49 else 48]⟩)
  else if stopR A c then s++⟨#[lettC c]⟩++dec (k:Int)
  else repR ins r (k+1) (i+insC c) (A++[valR A ins i c]) s
structure RelR (C:List Cmd) (D:List T3) (A:List Thg):Prop where
 l:D.length=C.length
 a:A.length=C.length
 p:∀ j,isP C j→Pq (th D j) (thg A j).P
 n:∀ j,isLn C j→Lq (th D j) (thg A j).L
theorem thg_snoc {A:List Thg} {v:Thg} {j:Nat} (h:j < A.length):thg (A++[v]) j=thg A j:=by simp [thg,List.getElem?_append_left h]
theorem thg_last (A:List Thg) (v:Thg):thg (A++[v]) A.length=v:=by simp [thg]
section
variable {C:List Cmd} {D:List T3} {A:List Thg}
theorem RelR.old (h:RelR C D A) {c:Cmd} {v:T3} {t:Thg} (hP:srt c=80→Pq v t.P) (hL:srt c=76→Lq v t.L):RelR (C++[c]) (D++[v]) (A++[t]):=by
 have e1:th (D++[v]) C.length=v:=by rw [← h.l];exact th_last _ _
 have e2:thg (A++[t]) C.length=t:=by rw [← h.a];exact thg_last _ _
 refine ⟨by simp [h.l],by simp [h.a],fun j hj=>?_,fun j hj=>?_⟩
 ·rcases isP_snoc hj with hj | ⟨rfl,hc⟩
  ·rw [th_snoc (by rw [h.l];exact hj.1),thg_snoc (by rw [h.a];exact hj.1)];exact h.p j hj
  ·rw [e1,e2];exact hP hc
 ·rcases isL_snoc hj with hj | ⟨rfl,hc⟩
  ·rw [th_snoc (by rw [h.l];exact hj.1),thg_snoc (by rw [h.a];exact hj.1)];exact h.n j hj
  ·rw [e1,e2];exact hL hc
theorem RelR.ask (h:RelR C D A) {c:Cmd} (hc:srt c=63):RelR (C++[c]) (D++[t0]) (A++[g0]):=h.old (fun e=>by omega) (fun e=>by omega)
theorem facP {c:Cmd} (h:srt c=80) (m:T3):mul3 m (facC m c)=mul3 m (sgn m.w):=by rw [facC,if_pos h]
theorem facL' {c:Cmd} (h:srt c=76) (m:T3):mul3 m (facC m c)=m:=by rw [facC,if_neg (by omega),mul3_one]
theorem rep_ask {ins:List Int} {c:Cmd} {r:List Cmd} {k i:Nat} {s:ByteArray} (h:srt c=63):repR ins (c :: r) k i A s=repR ins r (k+1) i (A++[g0]) (s++⟨#[if askR A c then 49 else 48]⟩):=by simp [repR,h]
theorem rep_stop {ins:List Int} {c:Cmd} {r:List Cmd} {k i:Nat} {s:ByteArray} (h:srt c≠63) (h0:stopR A c=true):repR ins (c :: r) k i A s=s++⟨#[lettC c]⟩++dec (k:Int):=by simp [repR,h,h0]
theorem rep_made {ins:List Int} {c:Cmd} {r:List Cmd} {k i:Nat} {s:ByteArray} (h:srt c≠63) (h0:stopR A c=false):repR ins (c :: r) k i A s=repR ins r (k+1) (i+insC c) (A++[valR A ins i c]) s:=by simp [repR,h,h0]
end
theorem if_iff {p:Prop} [Decidable p] {b:Bool} (h:p↔b=true):(if p then (49:UInt8) else 48)=if b then 49 else 48:=by
 cases b with
 | true=>rw [if_pos (h.2 rfl)];rfl
 | false=>rw [if_neg (fun e=>by have:=h.1 e;cases this)];rfl
theorem rep_sem (ins:List Int) (r:List Cmd):∀ (C:List Cmd) (W:List Nat) (D:List T3) (A:List Thg) (k i:Nat) (s:ByteArray),RelR C D A→Wf C W r→repR ins r k i A s=semC ins r k i D s:=by
 induction r with
 | nil=>intros;rfl
 | cons c r ih =>
  intro C W D A k i s h hwf
  obtain ⟨hok,-,hwr⟩:=hwf
  cases c using Cmd.el with
  | pt =>
   rw [rep_made (by decide) rfl,sem_made (by decide) (by simp [stopC])]
   refine ih _ _ _ _ _ _ _ (h.old (fun _=>?_) (fun e=>by cases e)) hwr
   rw [facP rfl]
   have e1:sgn (1:Int)=1:=by decide
   have e2:mul3 (valC D ins i .pt) (sgn (valC D ins i .pt).w)=valC D ins i .pt:=by show mul3 _ (sgn 1)=_;rw [e1,mul3_one]
   rw [e2]
   exact ⟨Qq.refl _,(show (0:Int) < 1 by decide),(show (0:Int) < 1 by decide)⟩
  | mid a b =>
   rw [rep_made (by simp [srt]) rfl,sem_made (by simp [srt]) (by simp [stopC])]
   refine ih _ _ _ _ _ _ _ (h.old (fun e=>?_) (fun e=>by cases e)) hwr
   rw [facP rfl]
   exact Pq.mid (h.p _ hok.1) (h.p _ hok.2)
  | par p l =>
   rw [rep_made (by simp [srt]) rfl,sem_made (by simp [srt]) (by simp [stopC])]
   refine ih _ _ _ _ _ _ _ (h.old (fun e=>by cases e) (fun e=>?_)) hwr
   rw [facL' rfl]
   exact Lq.par (h.p _ hok.1) (h.n _ hok.2)
  | perp p l =>
   rw [rep_made (by simp [srt]) rfl,sem_made (by simp [srt]) (by simp [stopC])]
   refine ih _ _ _ _ _ _ _ (h.old (fun e=>by cases e) (fun e=>?_)) hwr
   rw [facL' rfl]
   exact Lq.perp (h.p _ hok.1) (h.n _ hok.2)
  | foot p l =>
   rw [rep_made (by simp [srt]) rfl,sem_made (by simp [srt]) (by simp [stopC])]
   refine ih _ _ _ _ _ _ _ (h.old (fun e=>?_) (fun e=>by cases e)) hwr
   rw [facP rfl]
   exact Pq.foot (h.p _ hok.1) (h.n _ hok.2)
  | mirror p l =>
   rw [rep_made (by simp [srt]) rfl,sem_made (by simp [srt]) (by simp [stopC])]
   refine ih _ _ _ _ _ _ _ (h.old (fun e=>?_) (fun e=>by cases e)) hwr
   rw [facP rfl]
   exact Pq.mir (h.p _ hok.1) (h.n _ hok.2)
  | line a b =>
   have hst:stopC (valC D ins i (.line a b)) (.line a b)=0↔samR (thg A a).P (thg A b).P=true:=line_stop (h.p _ hok.1) (h.p _ hok.2)
   cases h0:samR (thg A a).P (thg A b).P with
   | true =>
    rw [rep_stop (c:=.line a b) (by simp [srt]) h0,sem_stop (by simp [srt]) (hst.2 h0)]
   | false =>
    rw [rep_made (c:=.line a b) (by simp [srt]) h0,sem_made (by simp [srt]) (fun e=>by rw [hst.1 e] at h0;cases h0)]
    refine ih _ _ _ _ _ _ _ (h.old (fun e=>by cases e) (fun e=>?_)) hwr
    rw [facL' rfl]
    exact Lq.line (h.p _ hok.1) (h.p _ hok.2) h0
  | meet l m =>
   have hst:stopC (valC D ins i (.meet l m)) (.meet l m)=0↔pllR (thg A l).L (thg A m).L=true:=meet_stop (h.n _ hok.1) (h.n _ hok.2)
   cases h0:pllR (thg A l).L (thg A m).L with
   | true =>
    rw [rep_stop (c:=.meet l m) (by simp [srt]) h0,sem_stop (by simp [srt]) (hst.2 h0)]
   | false =>
    rw [rep_made (c:=.meet l m) (by simp [srt]) h0,sem_made (by simp [srt]) (fun e=>by rw [hst.1 e] at h0;cases h0)]
    refine ih _ _ _ _ _ _ _ (h.old (fun e=>?_) (fun e=>by cases e)) hwr
    rw [facP rfl]
    have e2:(valR A ins i (.meet l m)).P=ptN (meetU (thg A l).L (thg A m).L):=by show (if _ then _ else _)=_;rw [if_neg (by rw [h0];decide)]
    rw [e2]
    exact Pq.meet (h.n _ hok.1) (h.n _ hok.2) h0
  | centre a b c =>
   have hst:stopC (valC D ins i (.centre a b c)) (.centre a b c)=0↔cenOk (thg A a).P (thg A b).P (thg A c).P=false:=cen_stop (h.p _ hok.1) (h.p _ hok.2.1) (h.p _ hok.2.2)
   cases h0:cenOk (thg A a).P (thg A b).P (thg A c).P with
   | false =>
    rw [rep_stop (by simp [srt]) (by show (!cenOk _ _ _)=true;rw [h0];rfl),sem_stop (by simp [srt]) (hst.2 h0)]
   | true =>
    rw [rep_made (by simp [srt]) (by show (!cenOk _ _ _)=false;rw [h0];rfl),sem_made (by simp [srt]) (fun e=>by rw [hst.1 e] at h0;cases h0)]
    refine ih _ _ _ _ _ _ _ (h.old (fun e=>?_) (fun e=>by cases e)) hwr
    rw [facP rfl]
    have e2:(valR A ins i (.centre a b c)).P=cenP (thg A a).P (thg A b).P (thg A c).P:=by show cenV' _ _ _=_;rw [cenV',if_pos h0]
    rw [e2]
    exact Pq.cen (h.p _ hok.1) (h.p _ hok.2.1) (h.p _ hok.2.2) h0
  | same a b =>
   have ha:(0 < askC D (.same a b))↔askR A (.same a b)=true:=q_same (h.p _ hok.1) (h.p _ hok.2)
   rw [rep_ask (by simp [srt]),sem_ask (by simp [srt]),if_iff ha]
   exact ih _ _ _ _ _ _ _ (h.ask rfl) hwr
  | col a b c =>
   have ha:(0 < askC D (.col a b c))↔askR A (.col a b c)=true:=q_col (h.p _ hok.1) (h.p _ hok.2.1) (h.p _ hok.2.2)
   rw [rep_ask (by simp [srt]),sem_ask (by simp [srt]),if_iff ha]
   exact ih _ _ _ _ _ _ _ (h.ask rfl) hwr
  | btw a b c =>
   have ha:(0 < askC D (.btw a b c))↔askR A (.btw a b c)=true:=q_btw (h.p _ hok.1) (h.p _ hok.2.1) (h.p _ hok.2.2)
   rw [rep_ask (by simp [srt]),sem_ask (by simp [srt]),if_iff ha]
   exact ih _ _ _ _ _ _ _ (h.ask rfl) hwr
  | con a b c d =>
   have ha:(0 < askC D (.con a b c d))↔askR A (.con a b c d)=true:=q_con (h.p _ hok.1) (h.p _ hok.2.1) (h.p _ hok.2.2.1) (h.p _ hok.2.2.2)
   rw [rep_ask (by simp [srt]),sem_ask (by simp [srt]),if_iff ha]
   exact ih _ _ _ _ _ _ _ (h.ask rfl) hwr
  | pll l m =>
   have ha:(0 < askC D (.pll l m))↔askR A (.pll l m)=true:=q_pll (h.n _ hok.1) (h.n _ hok.2)
   rw [rep_ask (by simp [srt]),sem_ask (by simp [srt]),if_iff ha]
   exact ih _ _ _ _ _ _ _ (h.ask rfl) hwr
  | cc l m n =>
   have ha:(0 < askC D (.cc l m n))↔askR A (.cc l m n)=true:=q_cc (h.n _ hok.1) (h.n _ hok.2.1) (h.n _ hok.2.2)
   rw [rep_ask (by simp [srt]),sem_ask (by simp [srt]),if_iff ha]
   exact ih _ _ _ _ _ _ _ (h.ask rfl) hwr
  | on p l =>
   have ha:(0 < askC D (.on p l))↔askR A (.on p l)=true:=q_on (h.p _ hok.1).q (h.n _ hok.2)
   rw [rep_ask (by simp [srt]),sem_ask (by simp [srt]),if_iff ha]
   exact ih _ _ _ _ _ _ _ (h.ask rfl) hwr
  | ccw a b c =>
   have ha:(0 < askC D (.ccw a b c))↔askR A (.ccw a b c)=true:=(q_ccw (h.p _ hok.1) (h.p _ hok.2.1) (h.p _ hok.2.2)).trans (by show _↔decide _=true;rw [decide_eq_true_eq])
   rw [rep_ask (by simp [srt]),sem_ask (by simp [srt]),if_iff ha]
   exact ih _ _ _ _ _ _ _ (h.ask rfl) hwr
  | prp l m =>
   have ha:(0 < askC D (.prp l m))↔askR A (.prp l m)=true:=(q_prp (h.n _ hok.1) (h.n _ hok.2)).trans (by show _↔decide _=true;rw [decide_eq_true_eq])
   rw [rep_ask (by simp [srt]),sem_ask (by simp [srt]),if_iff ha]
   exact ih _ _ _ _ _ _ _ (h.ask rfl) hwr
theorem report_same (ins:List Int) (r:List Cmd) (hw:Wf [] [] r):repR ins r 0 0 [] ⟨#[]⟩=semC ins r 0 0 [] ⟨#[]⟩ :=
 rep_sem ins r [] [] [] [] 0 0 _ ⟨rfl,rfl,fun j h=>by have:=h.1;simp at this,fun j h=>by have:=h.1;simp at this⟩ hw
end Go.Proofs.YtmnfndpbblpjiaaGreatDoor.Pu

/- Weights and faults: plain functions over the statements ahead and their weights. -/
namespace Go.Proofs.YtmnfndpbblpjiaaGreatDoor.Pu
def sts (p:List (St × Nat)):List St:=p.map Prod.fst
theorem sts_len (p:List (St × Nat)):(sts p).length=p.length:=by simp [sts]
def who (p:List (St × Nat)) (nm:Nat):Option (St × Nat):=p.find? (fun y=>y.1.name == nm)
def argW (p:List (St × Nat)) (nm:Nat):Nat:=((who p nm).map Prod.snd).getD 0
def argWord (p:List (St × Nat)) (nm:Nat):List UInt8:=((who p nm).map (fun y=>y.1.word)).getD []
theorem who_of {p:List (St × Nat)} {nm k:Nat} (hk:k < p.length) (h:gvI (sts p) nm=(k:Int)):who p nm=some p[k]:=by
 rcases gvI_cases (sts p) nm with ⟨h1,_⟩ | ⟨k',hk',h1,h2,h3⟩
 ·omega
 ·have:k'=k:=by omega
  subst this
  unfold who
  rw [List.find?_eq_some_iff_getElem]
  refine ⟨by simpa [sts] using h2,k',hk,rfl,fun j hj=>?_⟩
  simpa [sts] using h3 j hj
theorem given_lt {p:List (St × Nat)} {nm:Nat} (h:gvI (sts p) nm≠-1):∃ k,∃ hk:k < p.length,gvI (sts p) nm=(k:Int)∧p[k].1.name=nm:=by
 rcases gvI_cases (sts p) nm with ⟨h1,_⟩ | ⟨k',hk',h1,h2,h3⟩
 ·exact absurd h1 h
 ·exact ⟨k',by simpa [sts] using hk',h1,by simpa [sts] using h2⟩
def sumW (p:List (St × Nat)) (ag:List UInt8):Nat:=(ag.map fun a=>argW p a.toNat).sum
def lastW (p:List (St × Nat)) (ag:List UInt8):Nat:=(ag.getLast?.map fun a=>argW p a.toNat).getD 0
theorem sumW_snoc (p:List (St × Nat)) (ag:List UInt8) (a:UInt8):sumW p (ag++[a])=sumW p ag+argW p a.toNat:=by simp [sumW]
theorem lastW_snoc (p:List (St × Nat)) (ag:List UInt8) (a:UInt8):lastW p (ag++[a])=argW p a.toNat:=by simp [lastW]
def wgh (p:List (St × Nat)) (x:St):Nat:=if x.name=0 then 0 else wG x.word (sumW p x.args) (lastW p x.args)
def namesOk (l:List St) (x:St):Bool:=x.args.all (fun a=>gvI l a.toNat != -1) && (x.name == 0 || gvI l x.name == -1)
def sortsOk (p:List (St × Nat)) (ag so:List UInt8):Bool:=(ag.zip so).all fun y=>(fm (argWord p y.1.toNat)).2 == y.2.toNat
def sortsOkG (p:List (St × Nat)) (ag so:List UInt8):Bool:=(ag.zip so).all fun y=>sG (argWord p y.1.toNat) == y.2.toNat
def known (x:St):Bool:=(fm x.word).2 != 0 && (decide ((fm x.word).2=63) == decide (x.name=0))
def err (p:List (St × Nat)) (x:St):Nat :=
 if known x=false then 3
 else if x.args.length≠(fm x.word).1.length then 4
 else if namesOk (sts p) x=false then 5
 else if sortsOk p x.args (fm x.word).1=false then 6
 else if 64 < wgh p x then 7
 else 0
def Ok (p:List (St × Nat)):Prop:=∀ j (hj:j < p.length),err (p.take j) p[j].1=0∧p[j].2=wgh (p.take j) p[j].1
theorem Ok.nil:Ok []:=fun j hj=>by simp at hj
theorem Ok.snoc {p:List (St × Nat)} {x:St} (h:Ok p) (he:err p x=0):Ok (p++[(x,wgh p x)]):=by
 intro j hj
 by_cases hl:j < p.length
 ·have:=h j hl
  rw [List.take_append_of_le_length (by omega),List.getElem_append_left hl]
  exact this
 ·have:j=p.length:=by simp at hj;omega
  subst this
  simp [he]
theorem err_zero {p:List (St × Nat)} {x:St} (h:err p x=0):known x=true∧x.args.length=(fm x.word).1.length∧namesOk (sts p) x=true∧sortsOk p x.args (fm x.word).1=true∧wgh p x≤64:=by
 unfold err at h
 by_cases h1:known x=false
 ·simp [h1] at h
 ·by_cases h2:x.args.length≠(fm x.word).1.length
  ·simp [h1,h2] at h
  ·by_cases h3:namesOk (sts p) x=false
   ·simp [h1,h2,h3] at h
   ·by_cases h4:sortsOk p x.args (fm x.word).1=false
    ·simp [h1,h2,h3,h4] at h
    ·by_cases h5:64 < wgh p x
     ·simp [h1,h2,h3,h4,h5] at h
     ·exact ⟨by simpa using h1,by simpa using h2,by simpa using h3,by simpa using h4,by omega⟩
theorem Ok.weight {p:List (St × Nat)} (h:Ok p) {j:Nat} (hj:j < p.length):p[j].2≤64:=by
 obtain ⟨h1,h2⟩:=h j hj
 rw [h2];exact (err_zero h1).2.2.2.2
theorem Ok.argW {p:List (St × Nat)} (h:Ok p) (nm:Nat):argW p nm≤64:=by
 unfold Pu.argW who
 cases hf:p.find? (fun y=>y.1.name == nm) with
 | none=>simp
 | some y =>
  obtain ⟨j,hj,rfl⟩:=List.getElem_of_mem (List.mem_of_find?_eq_some hf)
  simpa using h.weight hj
theorem Ok.sumW {p:List (St × Nat)} (h:Ok p) (ag:List UInt8):sumW p ag≤64*ag.length:=by
 induction ag with
 | nil=>simp [Pu.sumW]
 | cons a ag ih =>
  have:=h.argW a.toNat
  simp only [Pu.sumW,List.map_cons,List.sum_cons,List.length_cons] at *
  omega
theorem Ok.lastW {p:List (St × Nat)} (h:Ok p) (ag:List UInt8):lastW p ag≤64:=by
 unfold Pu.lastW
 cases ag.getLast? with
 | none=>simp
 | some a=>simpa using h.argW a.toNat
theorem fm_len (w:List UInt8):(fm w).1.length≤4:=by
 have key:∀ (b:Bool) (x y:List UInt8 × Nat),x.1.length≤4→y.1.length≤4→(if b then x else y).1.length≤4:=fun b x y hx hy=>by cases b <;> simp [hx,hy]
 unfold fm
 repeat' (refine key _ _ _ ?_ ?_)
 all_goals decide
theorem sorts_same {p:List (St × Nat)} (h:Ok p) {ag so:List UInt8} (hg:∀ a∈ag,gvI (sts p) a.toNat≠-1) (hz:∀ a∈ag,a.toNat≠0):sortsOkG p ag so=sortsOk p ag so:=by
 unfold sortsOkG sortsOk
 rw [Bool.eq_iff_iff,List.all_eq_true,List.all_eq_true]
 have key:∀ y∈ag.zip so,sG (argWord p y.1.toNat)=(fm (argWord p y.1.toNat)).2:=by
  intro y hy
  have ha:y.1∈ag:=(List.of_mem_zip hy).1
  obtain ⟨k,hk,h1,h2⟩:=given_lt (hg _ ha)
  have hw:=who_of hk h1
  have hword:argWord p y.1.toNat=p[k].1.word:=by simp [argWord,hw]
  have hkn:=(err_zero (h k hk).1).1
  unfold known at hkn
  have hn0:p[k].1.name≠0:=by rw [h2];exact hz _ ha
  simp [hn0] at hkn
  rw [hword]
  exact sG_fm _ hkn.2 hkn.1
 constructor
 ·intro H y hy;rw [← key y hy];exact H y hy
 ·intro H y hy;rw [key y hy];exact H y hy
def mark1 (l:List Stp) (k:Nat) (nd:List Bool) (r:Nat):List Bool:=if 0≤setterI l r k then nd.set (setterI l r k).toNat true else nd
def marks (l:List Stp) (k:Nat) (rs:List Nat) (nd:List Bool):List Bool:=rs.foldl (mark1 l k) nd
def isN (l:List Stp) (k:Nat) (nd:List Bool):Bool:=nd[k]?.getD false || decide (6≤(l[k]?.getD ⟨0,0,0,0⟩).op)
def needStep (l:List Stp) (k:Nat) (nd:List Bool):List Bool :=
 if isN l k nd then marks l k (readsOf (l[k]?.getD ⟨0,0,0,0⟩)) (nd.set k true) else nd
def needFrom (l:List Stp):Nat→List Bool→List Bool
 | 0,nd=>nd
 | k+1,nd=>needFrom l k (needStep l k nd)
def neededL (l:List Stp):List Bool:=needFrom l l.length (List.replicate l.length false)
theorem mark1_len (l:List Stp) (k:Nat) (nd:List Bool) (r:Nat):(mark1 l k nd r).length=nd.length:=by unfold mark1;split <;> simp
theorem marks_len (l:List Stp) (k:Nat) (rs:List Nat) (nd:List Bool):(marks l k rs nd).length=nd.length:=by
 induction rs generalizing nd with
 | nil=>rfl
 | cons r rs ih=>show (marks l k rs (mark1 l k nd r)).length=_;rw [ih,mark1_len]
theorem needStep_len (l:List Stp) (k:Nat) (nd:List Bool):(needStep l k nd).length=nd.length:=by
 unfold needStep;split
 ·rw [marks_len];simp
 ·rfl
theorem isN_at {l:List Stp} {k:Nat} {nd:List Bool} (hk:k < l.length) (hn:k < nd.length):isN l k nd=(nd[k] || decide (6≤l[k].op)):=by simp [isN,hk,hn]
theorem needStep_yes {l:List Stp} {k:Nat} {nd:List Bool} (hk:k < l.length) (h:isN l k nd=true):needStep l k nd=marks l k (readsOf l[k]) (nd.set k true):=by simp [needStep,h,hk]
theorem needStep_no {l:List Stp} {k:Nat} {nd:List Bool} (h:isN l k nd=false):needStep l k nd=nd:=by simp [needStep,h]
def rz (op:Nat):Bool:=decide (op=2) || decide (op=3) || decide (op=4)
def ry (op:Nat):Bool:=decide (op=5) || rz op
def opFit (t:Stp) (ins:Nat):Bool :=
 if t.op=0 then decide (t.y < ins) && decide (t.z=0)
 else if t.op=1∨t.op=5 then decide (t.z=0)
 else if t.op=2∨t.op=3∨t.op=4 then true
 else if t.op=6 then decide (t.y=0) && decide (t.z=0)
 else if t.op=7 then decide (t.y < 3) && decide (t.z < 16)
 else false
def Set (l:List Stp) (k:Nat):Nat→Bool:=fun r=>decide (0≤setterI l r k)
theorem Set_zero (l:List Stp):Set l 0=fun _=>false:=by funext r;simp [Set,setterI]
theorem Set_yes {l:List Stp} {k:Nat} (hk:k < l.length) (h:l[k].op≤5):Set l (k+1)=fun r=>if r=l[k].x then true else Set l k r:=by
 funext r
 unfold Set
 by_cases e:r=l[k].x
 ·subst e;rw [setterI_hit hk ⟨h,rfl⟩,if_pos rfl];simp
 ·rw [setterI_miss hk (fun h2=>e h2.2.symm),if_neg e]
theorem Set_no {l:List Stp} {k:Nat} (hk:k < l.length) (h:¬ l[k].op≤5):Set l (k+1)=Set l k:=by
 funext r
 unfold Set
 rw [setterI_miss hk (fun h2=>h h2.1)]
theorem proper_fit (t:Stp) (regs ins:Nat):properB t regs ins=(opFit t ins && decide (t.x < regs)):=by
 unfold properB opFit
 rcases t with ⟨op,x,y,z⟩
 by_cases hx:regs≤x
 ·simp [hx]
 ·have hx':x < regs:=by omega
  simp only [hx,hx',or_false,decide_true,Bool.and_true]
  by_cases h7:7 < op
  ·simp [h7,show ¬ op=0 by omega,show ¬ op=1 by omega,show ¬ op=2 by omega,show ¬ op=3 by omega,show ¬ op=4 by omega,show ¬ op=5 by omega,show ¬ op=6 by omega,show ¬ op=7 by omega]
  ·have:op=0∨op=1∨op=2∨op=3∨op=4∨op=5∨op=6∨op=7:=by omega
   rcases this with rfl | rfl | rfl | rfl | rfl | rfl | rfl | rfl <;> simp
   ·by_cases hy:ins≤y
    ·simp [hy,show ¬ y < ins by omega]
    ·simp [hy,show y < ins by omega]
def upd (r:Nat) (b:Bool) (W:Nat→Bool):Nat→Bool:=fun i=>if i=r then b else W i
def wAhead (t:Stp) (W:Nat→Bool):Nat→Bool :=
 if rz t.op then upd t.z true (if ry t.op then upd t.y true (upd t.x (!decide (t.op≤5)) W) else upd t.x (!decide (t.op≤5)) W)
 else (if ry t.op then upd t.y true (upd t.x (!decide (t.op≤5)) W) else upd t.x (!decide (t.op≤5)) W)
def pN (t:Stp) (W:Nat→Bool):Bool:=!decide (t.op≤5) || W t.x
theorem wAhead_iff (t:Stp) (W:Nat→Bool) (r:Nat):wAhead t W r=true↔r∈readsOf t∨(W r=true∧¬ (t.op≤5∧r=t.x)):=by
 obtain ⟨op,x,y,z⟩:=t
 unfold wAhead upd readsOf ry rz
 have h:op=0∨op=1∨op=2∨op=3∨op=4∨op=5∨5 < op:=by omega
 rcases h with rfl | rfl | rfl | rfl | rfl | rfl | h
 ·by_cases c:r=x <;> simp [c]
 ·by_cases c:r=x <;> simp [c]
 ·by_cases a:r=z <;> by_cases b:r=y <;> by_cases c:r=x <;> simp [a,b,c] <;> simp_all
 ·by_cases a:r=z <;> by_cases b:r=y <;> by_cases c:r=x <;> simp [a,b,c] <;> simp_all
 ·by_cases a:r=z <;> by_cases b:r=y <;> by_cases c:r=x <;> simp [a,b,c] <;> simp_all
 ·by_cases b:r=y <;> by_cases c:r=x <;> simp [b,c] <;> simp_all
 ·by_cases c:r=x <;> simp [c,show ¬ op=2 by omega,show ¬ op=3 by omega,show ¬ op=4 by omega,show ¬ op=5 by omega,show ¬ op≤5 by omega,show ¬ op≤4 by omega,show 6≤op by omega]
theorem mark1_get (l:List Stp) (k:Nat) (nd:List Bool) (r j:Nat):(mark1 l k nd r)[j]?=some true↔nd[j]?=some true∨(j < nd.length∧setterI l r k=(j:Int)):=by
 unfold mark1
 by_cases h:0≤setterI l r k
 ·rw [if_pos h,List.getElem?_set]
  by_cases e:(setterI l r k).toNat=j
  ·have:setterI l r k=(j:Int):=by omega
   rw [if_pos e]
   by_cases hl:j < nd.length
   ·simp [hl,this]
   ·simp [e,hl]
  ·have:setterI l r k≠(j:Int):=by omega
   rw [if_neg e]
   simp [this]
 ·rw [if_neg h]
  have:setterI l r k≠(j:Int):=by omega
  simp [this]
theorem marks_get (l:List Stp) (k:Nat) (rs:List Nat) (nd:List Bool) (j:Nat):(marks l k rs nd)[j]?=some true↔nd[j]?=some true∨(j < nd.length∧∃ r∈rs,setterI l r k=(j:Int)):=by
 induction rs generalizing nd with
 | nil=>simp [marks]
 | cons r rs ih =>
  show (marks l k rs (mark1 l k nd r))[j]?=some true↔_
  rw [ih,mark1_get,mark1_len]
  constructor
  ·rintro ((h | ⟨h1,h2⟩) | ⟨h1,r',h2,h3⟩)
   ·exact .inl h
   ·exact .inr ⟨h1,r,by simp,h2⟩
   ·exact .inr ⟨h1,r',by simp [h2],h3⟩
  ·rintro (h | ⟨h1,r',h2,h3⟩)
   ·exact .inl (.inl h)
   ·rcases List.mem_cons.1 h2 with rfl | h2
    ·exact .inl (.inr ⟨h1,h3⟩)
    ·exact .inr ⟨h1,r',h2,h3⟩
structure NInv (l:List Stp) (k:Nat) (nd:List Bool) (W:Nat→Bool):Prop where
 len:nd.length=l.length
 ahead:∀ j,j < k→(nd[j]?=some true↔∃ r,W r=true∧setterI l r k=(j:Int))
 fin:needFrom l k nd=neededL l
theorem NInv.start (l:List Stp):NInv l l.length (List.replicate l.length false) (fun _=>false) :=
 ⟨by simp,fun j hj=>by simp [hj],rfl⟩
theorem NInv.isn {l:List Stp} {k:Nat} {nd:List Bool} {W:Nat→Bool} (h:NInv l (k+1) nd W) (hk:k < l.length):isN l k nd=pN l[k] W:=by
 rw [isN_at hk (by rw [h.len];exact hk)]
 have ha:=h.ahead k (by omega)
 rw [List.getElem?_eq_getElem (by rw [h.len];exact hk)] at ha
 unfold pN
 by_cases h5:l[k].op≤5
 ·simp only [h5,decide_true,Bool.not_true,Bool.false_or,show ¬ 6≤l[k].op by omega,decide_false,Bool.or_false]
  rw [Bool.eq_iff_iff]
  constructor
  ·intro hn
   obtain ⟨r,h1,h2⟩:=ha.1 (by rw [hn])
   by_cases e:l[k].x=r
   ·rw [e];exact h1
   ·rw [setterI_miss hk (fun h=>e h.2)] at h2
    have:=setterI_lt l r k
    omega
  ·intro hw
   have:=ha.2 ⟨l[k].x,hw,setterI_hit hk ⟨h5,rfl⟩⟩
   simpa using this
 ·simp [h5,show 6≤l[k].op by omega]
theorem NInv.yes {l:List Stp} {k:Nat} {nd:List Bool} {W:Nat→Bool} (h:NInv l (k+1) nd W) (hk:k < l.length) (hp:pN l[k] W=true):NInv l k (needStep l k nd) (wAhead l[k] W):=by
 have hi:=h.isn hk
 rw [hp] at hi
 refine ⟨by rw [needStep_len];exact h.len,fun j hj=>?_,h.fin⟩
 rw [needStep_yes hk hi,marks_get,List.getElem?_set,if_neg (by omega),h.ahead j (by omega)]
 have hl:j < (nd.set k true).length:=by simp;rw [h.len];omega
 constructor
 ·rintro (⟨r,h1,h2⟩ | ⟨_,r,h1,h2⟩)
  ·by_cases e:l[k].op≤5∧l[k].x=r
   ·rw [setterI_hit hk e] at h2;omega
   ·rw [setterI_miss hk e] at h2
    exact ⟨r,(wAhead_iff _ _ _).2 (.inr ⟨h1,fun h=>e ⟨h.1,h.2.symm⟩⟩),h2⟩
  ·exact ⟨r,(wAhead_iff _ _ _).2 (.inl h1),h2⟩
 ·rintro ⟨r,h1,h2⟩
  rcases (wAhead_iff _ _ _).1 h1 with h1 | ⟨h1,h3⟩
  ·exact .inr ⟨hl,r,h1,h2⟩
  ·exact .inl ⟨r,h1,by rw [setterI_miss hk (fun h=>h3 ⟨h.1,h.2.symm⟩)];exact h2⟩
theorem NInv.no {l:List Stp} {k:Nat} {nd:List Bool} {W:Nat→Bool} (h:NInv l (k+1) nd W) (hk:k < l.length) (hp:pN l[k] W=false):NInv l k (needStep l k nd) W:=by
 have hi:=h.isn hk
 rw [hp] at hi
 simp [pN] at hp
 refine ⟨by rw [needStep_len];exact h.len,fun j hj=>?_,h.fin⟩
 rw [needStep_no hi,h.ahead j (by omega)]
 have hr:∀ r,W r=true→setterI l r (k+1)=setterI l r k:=fun r hr=>setterI_miss hk (fun h=>by rw [h.2] at hp;simp [hr] at hp)
 constructor
 ·rintro ⟨r,h1,h2⟩;exact ⟨r,h1,by rw [← hr r h1];exact h2⟩
 ·rintro ⟨r,h1,h2⟩;exact ⟨r,h1,by rw [hr r h1];exact h2⟩
def sh:List Stp→List Stp × (Nat→Bool)
 | []=>([],fun _=>false)
 | t :: l=>if pN t (sh l).2 then (t :: (sh l).1,wAhead t (sh l).2) else sh l
theorem sh_yes {t:Stp} {l:List Stp} (h:pN t (sh l).2=true):sh (t :: l)=(t :: (sh l).1,wAhead t (sh l).2):=by simp [sh,h]
theorem sh_no {t:Stp} {l:List Stp} (h:pN t (sh l).2=false):sh (t :: l)=sh l:=by simp [sh,h]
theorem ninv_sh (l:List Stp):∀ d,d≤l.length→∃ nd,NInv l (l.length - d) nd (sh (l.drop (l.length - d))).2:=by
 intro d
 induction d with
 | zero=>intro _;exact ⟨_,by simpa [sh] using NInv.start l⟩
 | succ d ih =>
  intro hd
  obtain ⟨nd,h⟩:=ih (by omega)
  have hk:l.length - (d+1) < l.length:=by omega
  have e1:l.length - d=l.length - (d+1)+1:=by omega
  rw [e1] at h
  rw [List.drop_eq_getElem_cons hk]
  cases hp:pN l[l.length - (d+1)] (sh (l.drop (l.length - (d+1)+1))).2 with
  | true=>exact ⟨_,by rw [sh_yes hp];exact h.yes hk hp⟩
  | false=>exact ⟨_,by rw [sh_no hp];exact h.no hk hp⟩
def okL (regs ins:Nat):(Nat→Bool)→List Stp→Prop
 | _,[]=>True
 | M,t :: l=>properB t regs ins=true∧(∀ r∈readsOf t,r < regs∧M r=true)∧okL regs ins (if t.op≤5 then upd t.x true M else M) l
theorem right_iff (l:List Stp) (k:Nat) (t:Stp) (regs ins:Nat):rightB l k t regs ins=true↔properB t regs ins=true∧∀ r∈readsOf t,r < regs∧Set l k r=true:=by
 unfold rightB Set
 simp [List.all_eq_true]
theorem set_next {l:List Stp} {k:Nat} (hk:k < l.length):Set l (k+1)=if l[k].op≤5 then upd l[k].x true (Set l k) else Set l k:=by
 by_cases h:l[k].op≤5
 ·rw [if_pos h,Set_yes hk h];rfl
 ·rw [if_neg h,Set_no hk h]
theorem okL_from (l:List Stp) (regs ins:Nat):∀ d,d≤l.length→((∀ j (h:j < l.length),l.length - d≤j→rightB l j l[j] regs ins=true)↔okL regs ins (Set l (l.length - d)) (l.drop (l.length - d))):=by
 intro d
 induction d with
 | zero=>intro _;simp [okL];intro j h1 h2;omega
 | succ d ih =>
  intro hd
  have hk:l.length - (d+1) < l.length:=by omega
  have e1:l.length - d=l.length - (d+1)+1:=by omega
  have ih:=ih (by omega)
  rw [e1] at ih
  rw [List.drop_eq_getElem_cons hk]
  unfold okL
  rw [← set_next hk,← ih,← and_assoc,← right_iff]
  constructor
  ·intro h;exact ⟨h _ hk (Nat.le_refl _),fun j h1 h2=>h j h1 (by omega)⟩
  ·rintro ⟨h1,h2⟩ j hj hd2
   by_cases e:j=l.length - (d+1)
   ·subst e;exact h1
   ·exact h2 j hj (by omega)
theorem okL_iff (l:List Stp) (regs ins:Nat):(∀ j (h:j < l.length),rightB l j l[j] regs ins=true)↔okL regs ins (fun _=>false) l:=by
 have:=okL_from l regs ins l.length (Nat.le_refl _)
 simp only [Nat.sub_self,Nat.zero_le,forall_const,List.drop_zero,Set_zero] at this
 exact this
section
variable {r i:Nat} {q:List Stp}
end
end Go.Proofs.YtmnfndpbblpjiaaGreatDoor.Pu

/- Statements of a right source, as commands; what is made of them. -/
namespace Go.Proofs.YtmnfndpbblpjiaaGreatDoor.Pu
theorem len2 {α:Type} {l:List α} (h:l.length=2):∃ a b,l=[a,b]:=by
 match l,h with
 | [a,b],_=>exact ⟨a,b,rfl⟩
theorem len3 {α:Type} {l:List α} (h:l.length=3):∃ a b c,l=[a,b,c]:=by
 match l,h with
 | [a,b,c],_=>exact ⟨a,b,c,rfl⟩
def ag (x:St) (j:Nat):Nat:=(x.args[j]?.getD 0).toNat
def ix (l:List St) (x:St) (j:Nat):Nat:=(gvI l (ag x j)).toNat
def cmdOf (l:List St) (x:St):Cmd :=
 if x.word == [112,116] then .pt else
 if x.word == [109,105,100] then .mid (ix l x 0) (ix l x 1) else
 if x.word == [108,105,110,101] then .line (ix l x 0) (ix l x 1) else
 if x.word == [112,97,114] then .par (ix l x 0) (ix l x 1) else
 if x.word == [112,101,114,112] then .perp (ix l x 0) (ix l x 1) else
 if x.word == [109,101,101,116] then .meet (ix l x 0) (ix l x 1) else
 if x.word == [102,111,111,116] then .foot (ix l x 0) (ix l x 1) else
 if x.word == [109,105,114,114,111,114] then .mirror (ix l x 0) (ix l x 1) else
 if x.word == [99,101,110,116,114,101] then .centre (ix l x 0) (ix l x 1) (ix l x 2) else
 if x.word == [115,97,109,101] then .same (ix l x 0) (ix l x 1) else
 if x.word == [99,111,108] then .col (ix l x 0) (ix l x 1) (ix l x 2) else
 if x.word == [99,99,119] then .ccw (ix l x 0) (ix l x 1) (ix l x 2) else
 if x.word == [98,116,119] then .btw (ix l x 0) (ix l x 1) (ix l x 2) else
 if x.word == [99,111,110] then .con (ix l x 0) (ix l x 1) (ix l x 2) (ix l x 3) else
 if x.word == [111,110] then .on (ix l x 0) (ix l x 1) else
 if x.word == [112,108,108] then .pll (ix l x 0) (ix l x 1) else
 if x.word == [112,114,112] then .prp (ix l x 0) (ix l x 1) else
 .cc (ix l x 0) (ix l x 1) (ix l x 2)
def cmds (l:List St):List Cmd:=l.map (cmdOf l)
theorem word_cases {w:List UInt8} (h:(fm w).2≠0):w=[112,116]∨w=[109,105,100]∨w=[108,105,110,101]∨w=[112,97,114]∨w=[112,101,114,112]∨w=[109,101,101,116]∨w=[102,111,111,116]∨w=[109,105,114,114,111,114]∨w=[99,101,110,116,114,101]∨w=[115,97,109,101]∨w=[99,111,108]∨w=[99,99,119]∨w=[98,116,119]∨w=[99,111,110]∨w=[111,110]∨w=[112,108,108]∨w=[112,114,112]∨w=[99,99]:=by
 by_cases h0:w=[112,116]
 ·simp [h0]
 by_cases h1:w=[109,105,100]
 ·simp [h1]
 by_cases h2:w=[108,105,110,101]
 ·simp [h2]
 by_cases h3:w=[112,97,114]
 ·simp [h3]
 by_cases h4:w=[112,101,114,112]
 ·simp [h4]
 by_cases h5:w=[109,101,101,116]
 ·simp [h5]
 by_cases h6:w=[102,111,111,116]
 ·simp [h6]
 by_cases h7:w=[109,105,114,114,111,114]
 ·simp [h7]
 by_cases h8:w=[99,101,110,116,114,101]
 ·simp [h8]
 by_cases h9:w=[115,97,109,101]
 ·simp [h9]
 by_cases h10:w=[99,111,108]
 ·simp [h10]
 by_cases h11:w=[99,99,119]
 ·simp [h11]
 by_cases h12:w=[98,116,119]
 ·simp [h12]
 by_cases h13:w=[99,111,110]
 ·simp [h13]
 by_cases h14:w=[111,110]
 ·simp [h14]
 by_cases h15:w=[112,108,108]
 ·simp [h15]
 by_cases h16:w=[112,114,112]
 ·simp [h16]
 by_cases h17:w=[99,99]
 ·simp [h17]
 exfalso
 apply h
 simp [fm,show (w == [112,116])=false from beq_eq_false_iff_ne.2 h0,show (w == [109,105,100])=false from beq_eq_false_iff_ne.2 h1,show (w == [108,105,110,101])=false from beq_eq_false_iff_ne.2 h2,show (w == [112,97,114])=false from beq_eq_false_iff_ne.2 h3,show (w == [112,101,114,112])=false from beq_eq_false_iff_ne.2 h4,show (w == [109,101,101,116])=false from beq_eq_false_iff_ne.2 h5,show (w == [102,111,111,116])=false from beq_eq_false_iff_ne.2 h6,show (w == [109,105,114,114,111,114])=false from beq_eq_false_iff_ne.2 h7,show (w == [99,101,110,116,114,101])=false from beq_eq_false_iff_ne.2 h8,show (w == [115,97,109,101])=false from beq_eq_false_iff_ne.2 h9,show (w == [99,111,108])=false from beq_eq_false_iff_ne.2 h10,show (w == [99,99,119])=false from beq_eq_false_iff_ne.2 h11,show (w == [98,116,119])=false from beq_eq_false_iff_ne.2 h12,show (w == [99,111,110])=false from beq_eq_false_iff_ne.2 h13,show (w == [111,110])=false from beq_eq_false_iff_ne.2 h14,show (w == [112,108,108])=false from beq_eq_false_iff_ne.2 h15,show (w == [112,114,112])=false from beq_eq_false_iff_ne.2 h16,show (w == [99,99])=false from beq_eq_false_iff_ne.2 h17]
def thJ (l:List St) (x:St) (j:Nat):Tr:=if j < x.args.length then hm (ix l x j) else ⟨0,0,0⟩
def thO (l:List St) (x:St):Th:=⟨thJ l x 0,thJ l x 1,thJ l x 2,thJ l x 3⟩
def grdN (wd:List UInt8):Nat:=if wd == [108,105,110,101] then 3 else 0
def qsL (wd:List UInt8) (t:Th):List Stp:=(askL wd 48 t).1++[⟨6,48+(askL wd 48 t).2,0,0⟩]
def csL (wd:List UInt8) (i k:Nat) (t:Th):List Stp:=(conL wd 48 i t).1++(grdL wd (48+(conL wd 48 i t).1.length) (conL wd 48 i t).2.1 k++keepL wd (48+(conL wd 48 i t).1.length+grdN wd) (conL wd 48 i t).2.1 k)
def stL (l:List St) (k i:Nat) (x:St):List Stp:=if x.name=0 then qsL x.word (thO l x) else csL x.word i k (thO l x)
section
variable {p:List (St × Nat)}
theorem gv_more {l m:List St} {nm:Nat} (h:gvI l nm≠-1):gvI (l++m) nm=gvI l nm:=by
 rcases gvI_cases l nm with ⟨h1,_⟩ | ⟨k,hk,h1,h2,h3⟩
 ·exact absurd h1 h
 ·rw [h1]
  exact gvI_some (by simp;omega) (by rw [List.getElem_append_left hk];exact h2) (fun j hj=>by rw [List.getElem_append_left (by omega)];exact h3 j hj)
theorem gv_take {p:List (St × Nat)} {j nm:Nat} (h:gvI (sts (p.take j)) nm≠-1):gvI (sts p) nm=gvI (sts (p.take j)) nm:=by
 have:sts p=sts (p.take j)++sts (p.drop j):=by rw [sts,sts,sts,← List.map_append,List.take_append_drop]
 rw [this,gv_more h]
theorem arg_at (h:Ok p) {j:Nat} (hj:j < p.length) {i:Nat} (hi:i < p[j].1.args.length) :
  ∃ k,∃ hk:k < j,ix (sts p) p[j].1 i=k∧gvI (sts p) (ag p[j].1 i)=(k:Int)∧argW (p.take j) (ag p[j].1 i)=(p[k]'(by omega)).2∧((fm p[j].1.word).1[i]?.getD 0).toNat=(fm (p[k]'(by omega)).1.word).2:=by
 obtain ⟨he,-⟩:=h j hj
 obtain ⟨-,hl,hn,hs,-⟩:=err_zero he
 have hag:ag p[j].1 i=p[j].1.args[i].toNat:=by simp [ag,hi]
 unfold namesOk at hn
 rw [Bool.and_eq_true,List.all_eq_true] at hn
 have hg:gvI (sts (p.take j)) (ag p[j].1 i)≠-1:=by
  have:=hn.1 p[j].1.args[i] (List.getElem_mem hi)
  rw [hag];simpa using this
 obtain ⟨k,hk,h1,h2⟩:=given_lt hg
 have hkj:k < j:=by simp at hk;omega
 have hw:=who_of hk h1
 have hpk:(p.take j)[k]=p[k]'(by omega):=by simp
 have hgp:=gv_take hg
 rw [h1] at hgp
 refine ⟨k,hkj,by rw [ix,hgp];rfl,hgp,by rw [argW,hw];simp,?_⟩
 unfold sortsOk at hs
 rw [List.all_eq_true] at hs
 have hi2:i < (fm p[j].1.word).1.length:=by omega
 have hz:=hs (p[j].1.args[i],(fm p[j].1.word).1[i]) (by
  rw [List.mem_iff_getElem]
  exact ⟨i,by simp;omega,by simp⟩)
 have haw:argWord (p.take j) p[j].1.args[i].toNat=(p[k]'(by omega)).1.word:=by
  rw [← hag,argWord,hw];simp
 simp only [haw] at hz
 rw [List.getElem?_eq_getElem hi2]
 simp at hz ⊢
 exact hz.symm
theorem srt_cmd {l:List St} {x:St} (h:(fm x.word).2≠0):srt (cmdOf l x)=(fm x.word).2:=by
 rcases word_cases h with e | e | e | e | e | e | e | e | e | e | e | e | e | e | e | e | e | e <;> rw [cmdOf,e] <;> rfl
theorem sts_at {j:Nat} (hj:j < p.length):(sts p)[j]'(by rw [sts_len];exact hj)=p[j].1:=by simp [sts]
theorem cmds_at {j:Nat} (hj:j < p.length):(cmds (sts p))[j]'(by simp [cmds,sts_len];exact hj)=cmdOf (sts p) p[j].1:=by simp [cmds,sts]
theorem cmds_len:(cmds (sts p)).length=p.length:=by simp [cmds,sts_len]
theorem arg_P (h:Ok p) {j:Nat} (hj:j < p.length) {i:Nat} (hi:i < p[j].1.args.length) (hs:((fm p[j].1.word).1[i]?.getD 0).toNat=80):isP ((cmds (sts p)).take j) (ix (sts p) p[j].1 i):=by
 obtain ⟨k,hk,e1,-,-,e2⟩:=arg_at h hj hi
 rw [e1]
 refine ⟨by rw [List.length_take,cmds_len];omega,?_⟩
 rw [List.getElem_take,cmds_at (by omega),srt_cmd (by rw [← e2,hs];omega),← e2,hs]
theorem arg_L (h:Ok p) {j:Nat} (hj:j < p.length) {i:Nat} (hi:i < p[j].1.args.length) (hs:((fm p[j].1.word).1[i]?.getD 0).toNat=76):isLn ((cmds (sts p)).take j) (ix (sts p) p[j].1 i):=by
 obtain ⟨k,hk,e1,-,-,e2⟩:=arg_at h hj hi
 rw [e1]
 refine ⟨by rw [List.length_take,cmds_len];omega,?_⟩
 rw [List.getElem_take,cmds_at (by omega),srt_cmd (by rw [← e2,hs];omega),← e2,hs]
def wts (p:List (St × Nat)):List Nat:=p.map Prod.snd
theorem arg_W (h:Ok p) {j:Nat} (hj:j < p.length) {i:Nat} (hi:i < p[j].1.args.length):wt ((wts p).take j) (ix (sts p) p[j].1 i)=argW (p.take j) (p[j].1.args[i].toNat):=by
 obtain ⟨k,hk,e1,-,e2,-⟩:=arg_at h hj hi
 have hag:ag p[j].1 i=p[j].1.args[i].toNat:=by simp [ag,hi]
 rw [← hag,e1,e2,wt,wts]
 simp [hk,show k < p.length by omega]
theorem ok_cmd (h:Ok p) {j:Nat} (hj:j < p.length):okC ((cmds (sts p)).take j) (cmdOf (sts p) p[j].1)∧wtC ((wts p).take j) (cmdOf (sts p) p[j].1)=p[j].2:=by
 obtain ⟨he,hw⟩:=h j hj
 obtain ⟨hk,hl,-,-,-⟩:=err_zero he
 have P:=fun i hi=>arg_P h hj (i:=i) hi
 have L:=fun i hi=>arg_L h hj (i:=i) hi
 have V:=fun i hi=>arg_W h hj (i:=i) hi
 rw [hw]
 unfold known at hk
 rw [Bool.and_eq_true] at hk
 have h0:(fm p[j].1.word).2≠0:=by simpa using hk.1
 have hq:=hk.2
 unfold wgh
 generalize p[j].1=x at *
 obtain ⟨nm,wd,ar⟩:=x
 simp only at *
 rcases word_cases h0 with e | e | e | e | e | e | e | e | e | e | e | e | e | e | e | e | e | e
 ·subst e
  have hl2:ar.length=0:=hl
  have hn:nm≠0:=by simpa [fm] using hq
  exact ⟨trivial,by rw [if_neg hn];rfl⟩
 ·subst e
  have hl2:ar.length=2:=hl
  have hn:nm≠0:=by simpa [fm] using hq
  refine ⟨⟨P 0 (by omega) rfl,P 1 (by omega) rfl⟩,?_⟩
  rw [if_neg hn]
  obtain ⟨a,b,rfl⟩:=len2 hl2
  have v0:=V 0 (by omega)
  have v1:=V 1 (by omega)
  simp only [List.getElem_cons_zero,List.getElem_cons_succ] at v0 v1
  show wt _ _+wt _ _=_
  rw [v0,v1]
  simp [wG,sumW]
 ·subst e
  have hl2:ar.length=2:=hl
  have hn:nm≠0:=by simpa [fm] using hq
  refine ⟨⟨P 0 (by omega) rfl,P 1 (by omega) rfl⟩,?_⟩
  rw [if_neg hn]
  obtain ⟨a,b,rfl⟩:=len2 hl2
  have v0:=V 0 (by omega)
  have v1:=V 1 (by omega)
  simp only [List.getElem_cons_zero,List.getElem_cons_succ] at v0 v1
  show wt _ _+wt _ _=_
  rw [v0,v1]
  simp [wG,sumW]
 ·subst e
  have hl2:ar.length=2:=hl
  have hn:nm≠0:=by simpa [fm] using hq
  refine ⟨⟨P 0 (by omega) rfl,L 1 (by omega) rfl⟩,?_⟩
  rw [if_neg hn]
  obtain ⟨a,b,rfl⟩:=len2 hl2
  have v0:=V 0 (by omega)
  have v1:=V 1 (by omega)
  simp only [List.getElem_cons_zero,List.getElem_cons_succ] at v0 v1
  show wt _ _+wt _ _=_
  rw [v0,v1]
  simp [wG,sumW]
 ·subst e
  have hl2:ar.length=2:=hl
  have hn:nm≠0:=by simpa [fm] using hq
  refine ⟨⟨P 0 (by omega) rfl,L 1 (by omega) rfl⟩,?_⟩
  rw [if_neg hn]
  obtain ⟨a,b,rfl⟩:=len2 hl2
  have v0:=V 0 (by omega)
  have v1:=V 1 (by omega)
  simp only [List.getElem_cons_zero,List.getElem_cons_succ] at v0 v1
  show wt _ _+wt _ _=_
  rw [v0,v1]
  simp [wG,sumW]
 ·subst e
  have hl2:ar.length=2:=hl
  have hn:nm≠0:=by simpa [fm] using hq
  refine ⟨⟨L 0 (by omega) rfl,L 1 (by omega) rfl⟩,?_⟩
  rw [if_neg hn]
  obtain ⟨a,b,rfl⟩:=len2 hl2
  have v0:=V 0 (by omega)
  have v1:=V 1 (by omega)
  simp only [List.getElem_cons_zero,List.getElem_cons_succ] at v0 v1
  show wt _ _+wt _ _=_
  rw [v0,v1]
  simp [wG,sumW]
 ·subst e
  have hl2:ar.length=2:=hl
  have hn:nm≠0:=by simpa [fm] using hq
  refine ⟨⟨P 0 (by omega) rfl,L 1 (by omega) rfl⟩,?_⟩
  rw [if_neg hn]
  obtain ⟨a,b,rfl⟩:=len2 hl2
  have v0:=V 0 (by omega)
  have v1:=V 1 (by omega)
  simp only [List.getElem_cons_zero,List.getElem_cons_succ] at v0 v1
  show wt _ _+wt _ _+wt _ _=_
  rw [v0,v1]
  simp [wG,sumW,lastW]
 ·subst e
  have hl2:ar.length=2:=hl
  have hn:nm≠0:=by simpa [fm] using hq
  refine ⟨⟨P 0 (by omega) rfl,L 1 (by omega) rfl⟩,?_⟩
  rw [if_neg hn]
  obtain ⟨a,b,rfl⟩:=len2 hl2
  have v0:=V 0 (by omega)
  have v1:=V 1 (by omega)
  simp only [List.getElem_cons_zero,List.getElem_cons_succ] at v0 v1
  show 2*(wt _ _+wt _ _)=_
  rw [v0,v1]
  simp [wG,sumW]
 ·subst e
  have hl2:ar.length=3:=hl
  have hn:nm≠0:=by simpa [fm] using hq
  refine ⟨⟨P 0 (by omega) rfl,P 1 (by omega) rfl,P 2 (by omega) rfl⟩,?_⟩
  rw [if_neg hn]
  obtain ⟨a,b,c,rfl⟩:=len3 hl2
  have v0:=V 0 (by omega)
  have v1:=V 1 (by omega)
  have v2:=V 2 (by omega)
  simp only [List.getElem_cons_zero,List.getElem_cons_succ] at v0 v1 v2
  show 4*(wt _ _+wt _ _+wt _ _)=_
  rw [v0,v1,v2]
  simp [wG,sumW];omega
 ·subst e
  have hl2:ar.length=2:=hl
  have hn:nm=0:=by simpa [fm] using hq
  exact ⟨⟨P 0 (by omega) rfl,P 1 (by omega) rfl⟩,by rw [if_pos hn];rfl⟩
 ·subst e
  have hl2:ar.length=3:=hl
  have hn:nm=0:=by simpa [fm] using hq
  exact ⟨⟨P 0 (by omega) rfl,P 1 (by omega) rfl,P 2 (by omega) rfl⟩,by rw [if_pos hn];rfl⟩
 ·subst e
  have hl2:ar.length=3:=hl
  have hn:nm=0:=by simpa [fm] using hq
  exact ⟨⟨P 0 (by omega) rfl,P 1 (by omega) rfl,P 2 (by omega) rfl⟩,by rw [if_pos hn];rfl⟩
 ·subst e
  have hl2:ar.length=3:=hl
  have hn:nm=0:=by simpa [fm] using hq
  exact ⟨⟨P 0 (by omega) rfl,P 1 (by omega) rfl,P 2 (by omega) rfl⟩,by rw [if_pos hn];rfl⟩
 ·subst e
  have hl2:ar.length=4:=hl
  have hn:nm=0:=by simpa [fm] using hq
  exact ⟨⟨P 0 (by omega) rfl,P 1 (by omega) rfl,P 2 (by omega) rfl,P 3 (by omega) rfl⟩,by rw [if_pos hn];rfl⟩
 ·subst e
  have hl2:ar.length=2:=hl
  have hn:nm=0:=by simpa [fm] using hq
  exact ⟨⟨P 0 (by omega) rfl,L 1 (by omega) rfl⟩,by rw [if_pos hn];rfl⟩
 ·subst e
  have hl2:ar.length=2:=hl
  have hn:nm=0:=by simpa [fm] using hq
  exact ⟨⟨L 0 (by omega) rfl,L 1 (by omega) rfl⟩,by rw [if_pos hn];rfl⟩
 ·subst e
  have hl2:ar.length=2:=hl
  have hn:nm=0:=by simpa [fm] using hq
  exact ⟨⟨L 0 (by omega) rfl,L 1 (by omega) rfl⟩,by rw [if_pos hn];rfl⟩
 ·subst e
  have hl2:ar.length=3:=hl
  have hn:nm=0:=by simpa [fm] using hq
  exact ⟨⟨L 0 (by omega) rfl,L 1 (by omega) rfl,L 2 (by omega) rfl⟩,by rw [if_pos hn];rfl⟩
theorem wf_from (h:Ok p):∀ d,d≤p.length→Wf ((cmds (sts p)).take (p.length - d)) ((wts p).take (p.length - d)) ((cmds (sts p)).drop (p.length - d)):=by
 intro d
 induction d with
 | zero=>intro _;rw [Nat.sub_zero,List.drop_of_length_le (by rw [cmds_len];omega)];trivial
 | succ d ih =>
  intro hd
  have hj:p.length - (d+1) < p.length:=by omega
  have hj2:p.length - (d+1) < (cmds (sts p)).length:=by rw [cmds_len];exact hj
  have ih:=ih (by omega)
  rw [show p.length - d=p.length - (d+1)+1 by omega] at ih
  rw [List.drop_eq_getElem_cons hj2]
  obtain ⟨h1,h2⟩:=ok_cmd h hj
  rw [List.take_succ_eq_append_getElem hj2,List.take_succ_eq_append_getElem (by simpa [wts] using hj),cmds_at hj] at ih
  rw [cmds_at hj]
  refine ⟨h1,by rw [h2];exact h.weight hj,?_⟩
  rw [h2]
  simpa [wts] using ih
theorem wf_cmds (h:Ok p):Wf [] [] (cmds (sts p)):=by
 have:=wf_from h p.length (Nat.le_refl _)
 simpa using this
theorem st_cmd (h:Ok p) {j:Nat} (hj:j < p.length) (k i:Nat):stL (sts p) k i p[j].1=cmdL k i (cmdOf (sts p) p[j].1):=by
 obtain ⟨he,-⟩:=h j hj
 obtain ⟨hk,hl,-,-,-⟩:=err_zero he
 unfold known at hk
 rw [Bool.and_eq_true] at hk
 have h0:(fm p[j].1.word).2≠0:=by simpa using hk.1
 have hq:=hk.2
 generalize p[j].1=x at *
 obtain ⟨nm,wd,ar⟩:=x
 simp only at *
 have tj:∀ i,i < ar.length→thJ (sts p) ⟨nm,wd,ar⟩ i=hm (ix (sts p) ⟨nm,wd,ar⟩ i):=fun i hi=>by unfold thJ;rw [if_pos hi]
 rcases word_cases h0 with e | e | e | e | e | e | e | e | e | e | e | e | e | e | e | e | e | e
 ·subst e
  have hl2:ar.length=0:=hl
  have hn:nm≠0:=by simpa [fm] using hq
  rw [stL,if_neg hn]
  unfold csL thO
  rfl
 ·subst e
  have hl2:ar.length=2:=hl
  have hn:nm≠0:=by simpa [fm] using hq
  rw [stL,if_neg hn]
  unfold csL thO
  rw [tj 0 (by omega),tj 1 (by omega)]
  rfl
 ·subst e
  have hl2:ar.length=2:=hl
  have hn:nm≠0:=by simpa [fm] using hq
  rw [stL,if_neg hn]
  unfold csL thO
  rw [tj 0 (by omega),tj 1 (by omega)]
  rfl
 ·subst e
  have hl2:ar.length=2:=hl
  have hn:nm≠0:=by simpa [fm] using hq
  rw [stL,if_neg hn]
  unfold csL thO
  rw [tj 0 (by omega),tj 1 (by omega)]
  rfl
 ·subst e
  have hl2:ar.length=2:=hl
  have hn:nm≠0:=by simpa [fm] using hq
  rw [stL,if_neg hn]
  unfold csL thO
  rw [tj 0 (by omega),tj 1 (by omega)]
  rfl
 ·subst e
  have hl2:ar.length=2:=hl
  have hn:nm≠0:=by simpa [fm] using hq
  rw [stL,if_neg hn]
  unfold csL thO
  rw [tj 0 (by omega),tj 1 (by omega)]
  rfl
 ·subst e
  have hl2:ar.length=2:=hl
  have hn:nm≠0:=by simpa [fm] using hq
  rw [stL,if_neg hn]
  unfold csL thO
  rw [tj 0 (by omega),tj 1 (by omega)]
  rfl
 ·subst e
  have hl2:ar.length=2:=hl
  have hn:nm≠0:=by simpa [fm] using hq
  rw [stL,if_neg hn]
  unfold csL thO
  rw [tj 0 (by omega),tj 1 (by omega)]
  rfl
 ·subst e
  have hl2:ar.length=3:=hl
  have hn:nm≠0:=by simpa [fm] using hq
  rw [stL,if_neg hn]
  unfold csL thO
  rw [tj 0 (by omega),tj 1 (by omega),tj 2 (by omega)]
  rfl
 ·subst e
  have hl2:ar.length=2:=hl
  have hn:nm=0:=by simpa [fm] using hq
  rw [stL,if_pos hn]
  unfold qsL thO
  rw [tj 0 (by omega),tj 1 (by omega)]
  rfl
 ·subst e
  have hl2:ar.length=3:=hl
  have hn:nm=0:=by simpa [fm] using hq
  rw [stL,if_pos hn]
  unfold qsL thO
  rw [tj 0 (by omega),tj 1 (by omega),tj 2 (by omega)]
  rfl
 ·subst e
  have hl2:ar.length=3:=hl
  have hn:nm=0:=by simpa [fm] using hq
  rw [stL,if_pos hn]
  unfold qsL thO
  rw [tj 0 (by omega),tj 1 (by omega),tj 2 (by omega)]
  rfl
 ·subst e
  have hl2:ar.length=3:=hl
  have hn:nm=0:=by simpa [fm] using hq
  rw [stL,if_pos hn]
  unfold qsL thO
  rw [tj 0 (by omega),tj 1 (by omega),tj 2 (by omega)]
  rfl
 ·subst e
  have hl2:ar.length=4:=hl
  have hn:nm=0:=by simpa [fm] using hq
  rw [stL,if_pos hn]
  unfold qsL thO
  rw [tj 0 (by omega),tj 1 (by omega),tj 2 (by omega),tj 3 (by omega)]
  rfl
 ·subst e
  have hl2:ar.length=2:=hl
  have hn:nm=0:=by simpa [fm] using hq
  rw [stL,if_pos hn]
  unfold qsL thO
  rw [tj 0 (by omega),tj 1 (by omega)]
  rfl
 ·subst e
  have hl2:ar.length=2:=hl
  have hn:nm=0:=by simpa [fm] using hq
  rw [stL,if_pos hn]
  unfold qsL thO
  rw [tj 0 (by omega),tj 1 (by omega)]
  rfl
 ·subst e
  have hl2:ar.length=2:=hl
  have hn:nm=0:=by simpa [fm] using hq
  rw [stL,if_pos hn]
  unfold qsL thO
  rw [tj 0 (by omega),tj 1 (by omega)]
  rfl
 ·subst e
  have hl2:ar.length=3:=hl
  have hn:nm=0:=by simpa [fm] using hq
  rw [stL,if_pos hn]
  unfold qsL thO
  rw [tj 0 (by omega),tj 1 (by omega),tj 2 (by omega)]
  rfl
theorem ins_cmd (h:Ok p) {j:Nat} (hj:j < p.length):insC (cmdOf (sts p) p[j].1)=if (p[j].1.word == [112,116])=true then 2 else 0:=by
 obtain ⟨he,-⟩:=h j hj
 obtain ⟨hk,-,-,-,-⟩:=err_zero he
 unfold known at hk
 rw [Bool.and_eq_true] at hk
 have h0:(fm p[j].1.word).2≠0:=by simpa using hk.1
 rcases word_cases h0 with e | e | e | e | e | e | e | e | e | e | e | e | e | e | e | e | e | e <;> rw [cmdOf,e] <;> rfl
end
end Go.Proofs.YtmnfndpbblpjiaaGreatDoor.Pu

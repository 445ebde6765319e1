/- The document's constructions and questions, by their words. -/
import Derived.Test.YtmnfndpbblpjiabGreatDoorZx21
import Derived.Test.YtmnfndpbblpjiabGreatDoorZx47
set_option maxHeartbeats 1600000
namespace Go.Proofs.YtmnfndpbblpjiabGreatDoor
open Go.RowKit Pu
structure Made (w:World) (C:List eY) (W:List Nat) (A:List rM) (Z:List TV):Prop where
 c:A.length=C.length
 z:Z.length=C.length
 n:W.length=C.length
 b:∀ j,wt W j<=64
 p:∀ j,rJ C j->PI w (KH Z j).p (gF A j).P (wt W j*(13*2 ^ j))
 l:∀ j,nQ C j->∃ m,2*m<=wt W j*(13*2 ^ j)/\LI w (KH Z j).l (gF A j).L m m
theorem Made.k {w w':World} {C:List eY} {W:List Nat} {A:List rM} {Z:List TV} (h:Made w C W A Z) (hm:Mod (fun _=>False) w w'):Made w' C W A Z:=⟨h.c,h.z,h.n,h.b,fun j hj=>(h.p j hj).k hm,fun j hj=>by obtain⟨m,h1,h2⟩:=h.l j hj;exact⟨m,h1,h2.k hm⟩⟩
theorem Ic {A:List TV} {v:TV} {j:Nat} (h:j < A.length):KH (A++[v]) j=KH A j:=by simp[KH,List.getElem?_append_left h]
theorem SQ (A:List TV) (v:TV):KH (A++[v]) A.length=v:=by simp[KH]
theorem ru {A:List Nat} {v:Nat} {j:Nat} (h:j < A.length):wt (A++[v]) j=wt A j:=by simp[wt,List.getElem?_append_left h]
theorem xA (A:List Nat) (v:Nat):wt (A++[v]) A.length=v:=by simp[wt]
theorem Made.snoc {w:World} {C:List eY} {W:List Nat} {A:List rM} {Z:List TV} (h:Made w C W A Z) {c:eY} {v:Nat} {t:rM} {z:TV} (hv:v<=64) (hP:eT c=80->PI w z.p t.P (v*(13*2 ^ C.length))) (hL:eT c=76->∃ m,2*m<=v*(13*2 ^ C.length)/\LI w z.l t.L m m):Made w (C++[c]) (W++[v]) (A++[t]) (Z++[z]):=by
 have e1:KH (Z++[z]) C.length=z:=by rw[<- h.z];exact SQ _ _
 have e2:gF (A++[t]) C.length=t:=by rw[<- h.c];exact H9 _ _
 have e3:wt (W++[v]) C.length=v:=by rw[<- h.n];exact xA _ _
 refine⟨by simp[h.c],by simp[h.z],by simp[h.n],fun j=>?_,fun j hj=>?_,fun j hj=>?_⟩
 ·by_cases hj:j < W.length
  ·rw[ru hj];exact h.b j
  ·by_cases hj2:j=W.length
   ·subst hj2;rw[xA];exact hv
   ·simp[wt,List.getElem?_eq_none (show (W++[v]).length<=j by simp;omega)]
 ·rcases Gi hj with hj | ⟨rfl,hc⟩
  ·rw[Ic (by rw[h.z];exact hj.1),wZ (by rw[h.c];exact hj.1),ru (by rw[h.n];exact hj.1)];exact h.p j hj
  ·rw[e1,e2,e3];exact hP hc
 ·rcases Gh hj with hj | ⟨rfl,hc⟩
  ·rw[Ic (by rw[h.z];exact hj.1),wZ (by rw[h.c];exact hj.1),ru (by rw[h.n];exact hj.1)];exact h.l j hj
  ·rw[e1,e2,e3];exact hL hc
theorem szQ {a j k:Nat} (h:j < k):2*(a*(13*2 ^ j))<=a*(13*2 ^ k):=by
 have h1:2 ^ (j+1)<=2 ^ k:=Nat.pow_le_pow_right (by decide) h
 rw[Nat.pow_succ]at h1
 have:=Nat.mul_le_mul_left a (show 2*(13*2 ^ j)<=13*2 ^ k by omega)
 rw[Nat.mul_left_comm]
 exact this
theorem szB {a k n:Nat} (h:a<=64) (hk:k<=n):a*(13*2 ^ k)<=832*2 ^ n:=by
 have h1:2 ^ k<=2 ^ n:=Nat.pow_le_pow_right (by decide) hk
 have:=Nat.mul_le_mul h (show 13*2 ^ k<=13*2 ^ n by omega)
 omega
section
variable {w:World} {C:List eY} {W:List Nat} {A:List rM} {Z:List TV}
theorem Made.pP (h:Made w C W A Z) {j:Nat} (hj:rJ C j):∃ m,2*m<=wt W j*(13*2 ^ C.length)/\m<=832*2 ^ (C.length - 1)/\PI w (KH Z j).p (gF A j).P m:=⟨_,szQ hj.1,szB (h.b j) (by have:=hj.1;omega),h.p j hj⟩
theorem Made.pL (h:Made w C W A Z) {j:Nat} (hj:nQ C j):∃ m,4*m<=wt W j*(13*2 ^ C.length)/\m<=832*2 ^ (C.length - 1)/\LI w (KH Z j).l (gF A j).L m m:=by
 obtain⟨m,h1,h2⟩:=h.l j hj
 have:=szQ (a:=wt W j) hj.1
 have:=szB (h.b j) (show j<=C.length - 1 by have:=hj.1;omega)
 exact⟨m,by omega,by omega,h2⟩
end
theorem Lf {l:List St} {Z:List TV} {x:St} {j:Nat} (h:j < x.args.length):(pick l Z x.args)[j]?=some (KH Z (ix l x j)):=by simp[pick,ix,ag,h]
theorem uV {w:List UInt8} (h:(fm w).2≠0):(fm w).1.length<=4/\(w≠[112,116]->2<=(fm w).1.length):=by
 rcases bW h with rfl | rfl | rfl | rfl | rfl | rfl | rfl | rfl | rfl | rfl | rfl | rfl | rfl | rfl | rfl | rfl | rfl | rfl<;>decide
structure XB (l:List St) (C:List eY) (V:List Nat):Prop where
 c:C.length=l.length
 v:V.length=l.length
 n:l.length<=16
 e:∀ (k:Nat) (x:St),l[k]?=some x->C[k]?=some (aT l x)
 ok:∀ (k:Nat) (x:St),l[k]?=some x->kX (C.take k) (aT l x)
 w:∀ (k:Nat) (x:St),l[k]?=some x->V[k]?=some (mX (V.take k) (aT l x))
 b:∀ (k:Nat) (x:St),l[k]?=some x->mX (V.take k) (aT l x)<=64
 g:∀ (k:Nat) (x:St),l[k]?=some x->∀ a∈x.args,gN (l.take k) a.toNat≠-1
 a:∀ (k:Nat) (x:St),l[k]?=some x->x.args.length=(fm x.word).1.length
 k:∀ (k:Nat) (x:St),l[k]?=some x->(fm x.word).2≠0
 q:∀ (k:Nat) (x:St),l[k]?=some x->((fm x.word).2=63↔x.name=0)
theorem XB.of {p:List (St × Nat)} (h:Ok p) (hl:p.length<=16):XB (aL p) (cmds (aL p)) (Ws p):=by
 have key:∀ (k:Nat) (x:St),(aL p)[k]?=some x->∃ hk:k < p.length,p[k].1=x:=fun k x e=>by
  obtain⟨hk,e⟩:=List.getElem?_eq_some_iff.1 e
  have hk':k < p.length:=by simpa [aL] using hk
  exact⟨hk',by rw[<- e,Ze hk']⟩
 refine⟨by rw[iE,qY],by simp[Ws,aL],by rw[qY];exact hl,?_,?_,?_,?_,?_,?_,?_,?_⟩<;>intro k x e<;>obtain⟨hk,rfl⟩:=key k x e
 ·rw[List.getElem?_eq_getElem (by rw[iE];exact hk),tO hk]
 ·exact (Et h hk).1
 ·rw[(Et h hk).2];simp[Ws,hk]
 ·rw[(Et h hk).2,(h k hk).2];exact (fQ (h k hk).1).2.2.2.2
 ·have hn:=(fQ (h k hk).1).2.2.1
  unfold bX at hn
  rw[Bool.and_eq_true,List.all_eq_true]at hn
  intro a ha
  have:=hn.1 a ha
  rw[show (aL p).take k=aL (p.take k) by simp[aL]]
  simpa using this
 ·exact (fQ (h k hk).1).2.1
 ·have hk1:=(fQ (h k hk).1).1
  unfold known at hk1
  rw[Bool.and_eq_true]at hk1
  simpa using hk1.1
 ·have hk1:=(fQ (h k hk).1).1
  unfold known at hk1
  rw[Bool.and_eq_true]at hk1
  simpa using hk1.2
theorem Lj {l:List St} {x:St} {Z:List TV} {k b1 base gb cap aK:Nat} {av:Option Addr} {w:World} (hl:l.length<=1000) (OO:Z.length=k) (hL:mE w b1 (.slice (some ⟨gb,0,none⟩) l.length cap) l) (hO:w.ownsRow base 169 16 (.slice av k aK) k (ze Z)) (hx:l[k]?=some x) (h2:2<=x.args.length) (h4:x.args.length<=4) (hga:∀ a∈x.args,gN (l.take k) a.toNat≠-1) :
  Calls Tryz.prog 114 #[.slice (some ⟨gb,0,none⟩) l.length cap,.int .i64 k,.slice av k aK] w fun e w'=>Mod (fun _=>False) w w'/\∃ g c,e=.returned (.slice (some ⟨g,0,none⟩) x.args.length c)/\jq w' w.heap.size (.slice (some ⟨g,0,none⟩) x.args.length c) (pick l Z x.args):=by
 have:=Oa _ (.slice av k aK) l x Z b1 base w hl hL (by unfold jq;rw[OO];exact hO) (by rw[OO];exact hx) h4 (by rw[OO];exact hga)
 rw[OO]at this
 refine this.mono ?_
 rintro e w1 ⟨hm1,vo,rfl,hP⟩
 obtain⟨ag,agc,rfl,-⟩:=aj hP
 obtain⟨g2,rfl,-⟩:=hP.cell (j:=0) (by rw[AY];omega)
 rw[AY]at hP ⊢
 exact⟨hm1,g2,agc,rfl,hP⟩
def ZA (w:World) (A:List rM) (ins:List Int) (i v k:Nat) (c:eY) (e:Ending) (w':World):Prop:=∃ m d,(eT c=80->m<=v*(13*2 ^ k))/\(eT c=76->2*d<=v*(13*2 ^ k))/\gu w (EP A ins i c) (Dm A c) (uO c) m d e w'
theorem Xe {k:Nat} (h:k<=15):2 ^ k<=32768:=Nat.pow_le_pow_right (n:=2) (by decide) h
theorem Me {w:World} {l:List St} {x:St} {C:List eY} {W:List Nat} {A:List rM} {Z:List TV} {g cap base:Nat} (ins:List Int) (i:Nat) (hM:Made w C W A Z) (hR:jq w base (.slice (some ⟨g,0,none⟩) x.args.length cap) (pick l Z x.args)) (hok:kX C (aT l x)) (hwt:mX W (aT l x)<=64) (hl:x.args.length=(fm x.word).1.length) (h0:(fm x.word).2≠0) (hs:(fm x.word).2≠63) (hpt:x.word≠[112,116]) (hC:C.length<=15) :
  Calls Tryz.prog 116 #[S x.word,.slice (some ⟨g,0,none⟩) x.args.length cap] w (ZA w A ins i (mX W (aT l x)) C.length (aT l x)):=by
 have hpk:∀ j,j < x.args.length->(pick l Z x.args)[j]?=some (KH Z (ix l x j)):=fun j hj=>Lf hj
 have hpl:x.args.length=(pick l Z x.args).length:=by simp[pick]
 have FT:=Xe (show C.length - 1<=15 by omega)
 have hQ:=Xe hC
 unfold ZA
 generalize pick l Z x.args=PK at *
 obtain⟨nm,wd,ar⟩:=x
 simp only at *
 rcases bW h0 with e | e | e | e | e | e | e | e | e | e | e | e | e | e | e | e | e | e
 ·exact absurd e hpt
 ·subst e
  have hl2:ar.length=2:=hl
  have hc:aT l ⟨nm,[109,105,100],ar⟩=.mid (ix l ⟨nm,[109,105,100],ar⟩ 0) (ix l ⟨nm,[109,105,100],ar⟩ 1):=rfl
  rw[hc]at hok hwt ⊢
  clear hc
  generalize ix l ⟨nm,[109,105,100],ar⟩=f at *
  obtain⟨m0,s0,u0,f0⟩:=hM.pP hok.1
  have c0:=hR.pc hpl 0 (hpk 0 (by omega)) 0 rfl
  obtain⟨m1,s1,u1,f1⟩:=hM.pP hok.2
  have c1:=hR.pc hpl 1 (hpk 1 (by omega)) 16 rfl
  rw[hl2]
  simp only[mX]at hwt ⊢
  have q0:wt W (f 0)<=64:=hM.b _
  have q1:wt W (f 1)<=64:=hM.b _
  generalize 13*2 ^ C.length=Q at *
  refine (Mf c0 c1 f0 f1 (by omega)).mono (fun e w' he=>⟨_,_,fun _=>?_,fun hh=>?_,he⟩)
  ·simp only[Nat.add_mul];omega
  ·cases hh
 ·subst e
  have hl2:ar.length=2:=hl
  have hc:aT l ⟨nm,[108,105,110,101],ar⟩=.line (ix l ⟨nm,[108,105,110,101],ar⟩ 0) (ix l ⟨nm,[108,105,110,101],ar⟩ 1):=rfl
  rw[hc]at hok hwt ⊢
  clear hc
  generalize ix l ⟨nm,[108,105,110,101],ar⟩=f at *
  obtain⟨m0,s0,u0,f0⟩:=hM.pP hok.1
  have c0:=hR.pc hpl 0 (hpk 0 (by omega)) 0 rfl
  obtain⟨m1,s1,u1,f1⟩:=hM.pP hok.2
  have c1:=hR.pc hpl 1 (hpk 1 (by omega)) 16 rfl
  rw[hl2]
  simp only[mX]at hwt ⊢
  have q0:wt W (f 0)<=64:=hM.b _
  have q1:wt W (f 1)<=64:=hM.b _
  generalize 13*2 ^ C.length=Q at *
  refine (Jc c0 c1 f0 f1 (by omega)).mono (fun e w' he=>⟨_,_,fun _=>?_,fun hh=>?_,he⟩)
  ·cases ‹eT _=80›
  ·simp only[Nat.add_mul];omega
 ·subst e
  have hl2:ar.length=2:=hl
  have hc:aT l ⟨nm,[112,97,114],ar⟩=.par (ix l ⟨nm,[112,97,114],ar⟩ 0) (ix l ⟨nm,[112,97,114],ar⟩ 1):=rfl
  rw[hc]at hok hwt ⊢
  clear hc
  generalize ix l ⟨nm,[112,97,114],ar⟩=f at *
  obtain⟨m0,s0,u0,f0⟩:=hM.pP hok.1
  have c0:=hR.pc hpl 0 (hpk 0 (by omega)) 0 rfl
  obtain⟨m1,s1,u1,f1⟩:=hM.pL hok.2
  have c1:=hR.lc hpl 1 (hpk 1 (by omega)) 22 rfl
  rw[hl2]
  simp only[mX]at hwt ⊢
  have q0:wt W (f 0)<=64:=hM.b _
  have q1:wt W (f 1)<=64:=hM.b _
  generalize 13*2 ^ C.length=Q at *
  refine (Mg c0 c1 f0 f1 (by omega)).mono (fun e w' he=>⟨_,_,fun _=>?_,fun hh=>?_,he⟩)
  ·cases ‹eT _=80›
  ·simp only[Nat.add_mul];omega
 ·subst e
  have hl2:ar.length=2:=hl
  have hc:aT l ⟨nm,[112,101,114,112],ar⟩=.pK (ix l ⟨nm,[112,101,114,112],ar⟩ 0) (ix l ⟨nm,[112,101,114,112],ar⟩ 1):=rfl
  rw[hc]at hok hwt ⊢
  clear hc
  generalize ix l ⟨nm,[112,101,114,112],ar⟩=f at *
  obtain⟨m0,s0,u0,f0⟩:=hM.pP hok.1
  have c0:=hR.pc hpl 0 (hpk 0 (by omega)) 0 rfl
  obtain⟨m1,s1,u1,f1⟩:=hM.pL hok.2
  have c1:=hR.lc hpl 1 (hpk 1 (by omega)) 22 rfl
  rw[hl2]
  simp only[mX]at hwt ⊢
  have q0:wt W (f 0)<=64:=hM.b _
  have q1:wt W (f 1)<=64:=hM.b _
  generalize 13*2 ^ C.length=Q at *
  refine (Je c0 c1 f0 f1 (by omega)).mono (fun e w' he=>⟨_,_,fun _=>?_,fun hh=>?_,he⟩)
  ·cases ‹eT _=80›
  ·simp only[Nat.add_mul];omega
 ·subst e
  have hl2:ar.length=2:=hl
  have hc:aT l ⟨nm,[109,101,101,116],ar⟩=.meet (ix l ⟨nm,[109,101,101,116],ar⟩ 0) (ix l ⟨nm,[109,101,101,116],ar⟩ 1):=rfl
  rw[hc]at hok hwt ⊢
  clear hc
  generalize ix l ⟨nm,[109,101,101,116],ar⟩=f at *
  obtain⟨m0,s0,u0,f0⟩:=hM.pL hok.1
  have c0:=hR.lc hpl 0 (hpk 0 (by omega)) 6 rfl
  obtain⟨m1,s1,u1,f1⟩:=hM.pL hok.2
  have c1:=hR.lc hpl 1 (hpk 1 (by omega)) 22 rfl
  rw[hl2]
  simp only[mX]at hwt ⊢
  have q0:wt W (f 0)<=64:=hM.b _
  have q1:wt W (f 1)<=64:=hM.b _
  generalize 13*2 ^ C.length=Q at *
  refine (Jd c0 c1 f0 f1 (by omega)).mono (fun e w' he=>⟨_,_,fun _=>?_,fun hh=>?_,he⟩)
  ·simp only[Nat.add_mul];omega
  ·cases hh
 ·subst e
  have hl2:ar.length=2:=hl
  have hc:aT l ⟨nm,[102,111,111,116],ar⟩=.foot (ix l ⟨nm,[102,111,111,116],ar⟩ 0) (ix l ⟨nm,[102,111,111,116],ar⟩ 1):=rfl
  rw[hc]at hok hwt ⊢
  clear hc
  generalize ix l ⟨nm,[102,111,111,116],ar⟩=f at *
  obtain⟨m0,s0,u0,f0⟩:=hM.pP hok.1
  have c0:=hR.pc hpl 0 (hpk 0 (by omega)) 0 rfl
  obtain⟨m1,s1,u1,f1⟩:=hM.pL hok.2
  have c1:=hR.lc hpl 1 (hpk 1 (by omega)) 22 rfl
  rw[hl2]
  simp only[mX]at hwt ⊢
  have q0:wt W (f 0)<=64:=hM.b _
  have q1:wt W (f 1)<=64:=hM.b _
  generalize 13*2 ^ C.length=Q at *
  refine (Jb c0 c1 f0 f1 (by omega)).mono (fun e w' he=>⟨_,_,fun _=>?_,fun hh=>?_,he⟩)
  ·simp only[Nat.add_mul];omega
  ·cases hh
 ·subst e
  have hl2:ar.length=2:=hl
  have hc:aT l ⟨nm,[109,105,114,114,111,114],ar⟩=.mirror (ix l ⟨nm,[109,105,114,114,111,114],ar⟩ 0) (ix l ⟨nm,[109,105,114,114,111,114],ar⟩ 1):=rfl
  rw[hc]at hok hwt ⊢
  clear hc
  generalize ix l ⟨nm,[109,105,114,114,111,114],ar⟩=f at *
  obtain⟨m0,s0,u0,f0⟩:=hM.pP hok.1
  have c0:=hR.pc hpl 0 (hpk 0 (by omega)) 0 rfl
  obtain⟨m1,s1,u1,f1⟩:=hM.pL hok.2
  have c1:=hR.lc hpl 1 (hpk 1 (by omega)) 22 rfl
  rw[hl2]
  simp only[mX]at hwt ⊢
  have q0:wt W (f 0)<=64:=hM.b _
  have q1:wt W (f 1)<=64:=hM.b _
  generalize 13*2 ^ C.length=Q at *
  refine (DK c0 c1 f0 f1 (by omega)).mono (fun e w' he=>⟨_,_,fun _=>?_,fun hh=>?_,he⟩)
  ·simp only[Nat.add_mul,Nat.mul_assoc];omega
  ·cases hh
 ·subst e
  have hl2:ar.length=3:=hl
  have hc:aT l ⟨nm,[99,101,110,116,114,101],ar⟩=.dV (ix l ⟨nm,[99,101,110,116,114,101],ar⟩ 0) (ix l ⟨nm,[99,101,110,116,114,101],ar⟩ 1) (ix l ⟨nm,[99,101,110,116,114,101],ar⟩ 2):=rfl
  rw[hc]at hok hwt ⊢
  clear hc
  generalize ix l ⟨nm,[99,101,110,116,114,101],ar⟩=f at *
  obtain⟨m0,s0,u0,f0⟩:=hM.pP hok.1
  have c0:=hR.pc hpl 0 (hpk 0 (by omega)) 0 rfl
  obtain⟨m1,s1,u1,f1⟩:=hM.pP hok.2.1
  have c1:=hR.pc hpl 1 (hpk 1 (by omega)) 16 rfl
  obtain⟨m2,s2,u2,f2⟩:=hM.pP hok.2.2
  have c2:=hR.pc hpl 2 (hpk 2 (by omega)) 32 rfl
  rw[hl2]
  simp only[mX]at hwt ⊢
  have q0:wt W (f 0)<=64:=hM.b _
  have q1:wt W (f 1)<=64:=hM.b _
  have q2:wt W (f 2)<=64:=hM.b _
  generalize 13*2 ^ C.length=Q at *
  refine (DJ c0 c1 c2 f0 f1 f2 (by omega)).mono (fun e w' he=>⟨_,_,fun _=>?_,fun hh=>?_,he⟩)
  ·simp only[Nat.add_mul,Nat.mul_assoc];omega
  ·cases hh
 ·subst e;exact absurd rfl hs
 ·subst e;exact absurd rfl hs
 ·subst e;exact absurd rfl hs
 ·subst e;exact absurd rfl hs
 ·subst e;exact absurd rfl hs
 ·subst e;exact absurd rfl hs
 ·subst e;exact absurd rfl hs
 ·subst e;exact absurd rfl hs
 ·subst e;exact absurd rfl hs
theorem ML {w:World} {l:List St} {x:St} {C:List eY} {W:List Nat} {A:List rM} {Z:List TV} {g cap base:Nat} (hM:Made w C W A Z) (hR:jq w base (.slice (some ⟨g,0,none⟩) x.args.length cap) (pick l Z x.args)) (hok:kX C (aT l x)) (hl:x.args.length=(fm x.word).1.length) (h0:(fm x.word).2≠0) (hs:(fm x.word).2=63) (hC:C.length<=15) :
  Calls Tryz.prog 113 #[S x.word,.slice (some ⟨g,0,none⟩) x.args.length cap] w (pR w (xL A (aT l x))):=by
 have hpk:∀ j,j < x.args.length->(pick l Z x.args)[j]?=some (KH Z (ix l x j)):=fun j hj=>Lf hj
 have hpl:x.args.length=(pick l Z x.args).length:=by simp[pick]
 have OM:2 ^ (C.length - 1)<=2 ^ 14:=Nat.pow_le_pow_right (by decide) (by omega)
 generalize pick l Z x.args=PK at *
 obtain⟨nm,wd,ar⟩:=x
 simp only at *
 rcases bW h0 with e | e | e | e | e | e | e | e | e | e | e | e | e | e | e | e | e | e
 ·subst e;cases hs
 ·subst e;cases hs
 ·subst e;cases hs
 ·subst e;cases hs
 ·subst e;cases hs
 ·subst e;cases hs
 ·subst e;cases hs
 ·subst e;cases hs
 ·subst e;cases hs
 ·subst e
  have hl2:ar.length=2:=hl
  have hc:aT l ⟨nm,[115,97,109,101],ar⟩=.same (ix l ⟨nm,[115,97,109,101],ar⟩ 0) (ix l ⟨nm,[115,97,109,101],ar⟩ 1):=rfl
  rw[hc]at hok ⊢
  clear hc
  generalize ix l ⟨nm,[115,97,109,101],ar⟩=f at *
  obtain⟨m0,s0,u0,f0⟩:=hM.pP hok.1
  have c0:=hR.pc hpl 0 (hpk 0 (by omega)) 0 rfl
  obtain⟨m1,s1,u1,f1⟩:=hM.pP hok.2
  have c1:=hR.pc hpl 1 (hpk 1 (by omega)) 16 rfl
  rw[hl2]
  exact JC c0 c1 (f0.up (n:=832*2 ^ 14) (by omega)) (f1.up (n:=832*2 ^ 14) (by omega)) (by decide)
 ·subst e
  have hl2:ar.length=3:=hl
  have hc:aT l ⟨nm,[99,111,108],ar⟩=.col (ix l ⟨nm,[99,111,108],ar⟩ 0) (ix l ⟨nm,[99,111,108],ar⟩ 1) (ix l ⟨nm,[99,111,108],ar⟩ 2):=rfl
  rw[hc]at hok ⊢
  clear hc
  generalize ix l ⟨nm,[99,111,108],ar⟩=f at *
  obtain⟨m0,s0,u0,f0⟩:=hM.pP hok.1
  have c0:=hR.pc hpl 0 (hpk 0 (by omega)) 0 rfl
  obtain⟨m1,s1,u1,f1⟩:=hM.pP hok.2.1
  have c1:=hR.pc hpl 1 (hpk 1 (by omega)) 16 rfl
  obtain⟨m2,s2,u2,f2⟩:=hM.pP hok.2.2
  have c2:=hR.pc hpl 2 (hpk 2 (by omega)) 32 rfl
  rw[hl2]
  exact MP c0 c1 c2 (f0.up (n:=832*2 ^ 14) (by omega)) (f1.up (n:=832*2 ^ 14) (by omega)) (f2.up (n:=832*2 ^ 14) (by omega)) (by decide)
 ·subst e
  have hl2:ar.length=3:=hl
  have hc:aT l ⟨nm,[99,99,119],ar⟩=.Iy (ix l ⟨nm,[99,99,119],ar⟩ 0) (ix l ⟨nm,[99,99,119],ar⟩ 1) (ix l ⟨nm,[99,99,119],ar⟩ 2):=rfl
  rw[hc]at hok ⊢
  clear hc
  generalize ix l ⟨nm,[99,99,119],ar⟩=f at *
  obtain⟨m0,s0,u0,f0⟩:=hM.pP hok.1
  have c0:=hR.pc hpl 0 (hpk 0 (by omega)) 0 rfl
  obtain⟨m1,s1,u1,f1⟩:=hM.pP hok.2.1
  have c1:=hR.pc hpl 1 (hpk 1 (by omega)) 16 rfl
  obtain⟨m2,s2,u2,f2⟩:=hM.pP hok.2.2
  have c2:=hR.pc hpl 2 (hpk 2 (by omega)) 32 rfl
  rw[hl2]
  exact MO c0 c1 c2 (f0.up (n:=832*2 ^ 14) (by omega)) (f1.up (n:=832*2 ^ 14) (by omega)) (f2.up (n:=832*2 ^ 14) (by omega)) (by decide)
 ·subst e
  have hl2:ar.length=3:=hl
  have hc:aT l ⟨nm,[98,116,119],ar⟩=.Iw (ix l ⟨nm,[98,116,119],ar⟩ 0) (ix l ⟨nm,[98,116,119],ar⟩ 1) (ix l ⟨nm,[98,116,119],ar⟩ 2):=rfl
  rw[hc]at hok ⊢
  clear hc
  generalize ix l ⟨nm,[98,116,119],ar⟩=f at *
  obtain⟨m0,s0,u0,f0⟩:=hM.pP hok.1
  have c0:=hR.pc hpl 0 (hpk 0 (by omega)) 0 rfl
  obtain⟨m1,s1,u1,f1⟩:=hM.pP hok.2.1
  have c1:=hR.pc hpl 1 (hpk 1 (by omega)) 16 rfl
  obtain⟨m2,s2,u2,f2⟩:=hM.pP hok.2.2
  have c2:=hR.pc hpl 2 (hpk 2 (by omega)) 32 rfl
  rw[hl2]
  exact MN c0 c1 c2 (f0.up (n:=832*2 ^ 14) (by omega)) (f1.up (n:=832*2 ^ 14) (by omega)) (f2.up (n:=832*2 ^ 14) (by omega)) (by decide)
 ·subst e
  have hl2:ar.length=4:=hl
  have hc:aT l ⟨nm,[99,111,110],ar⟩=.con (ix l ⟨nm,[99,111,110],ar⟩ 0) (ix l ⟨nm,[99,111,110],ar⟩ 1) (ix l ⟨nm,[99,111,110],ar⟩ 2) (ix l ⟨nm,[99,111,110],ar⟩ 3):=rfl
  rw[hc]at hok ⊢
  clear hc
  generalize ix l ⟨nm,[99,111,110],ar⟩=f at *
  obtain⟨m0,s0,u0,f0⟩:=hM.pP hok.1
  have c0:=hR.pc hpl 0 (hpk 0 (by omega)) 0 rfl
  obtain⟨m1,s1,u1,f1⟩:=hM.pP hok.2.1
  have c1:=hR.pc hpl 1 (hpk 1 (by omega)) 16 rfl
  obtain⟨m2,s2,u2,f2⟩:=hM.pP hok.2.2.1
  have c2:=hR.pc hpl 2 (hpk 2 (by omega)) 32 rfl
  obtain⟨m3,s3,u3,f3⟩:=hM.pP hok.2.2.2
  have c3:=hR.pc hpl 3 (hpk 3 (by omega)) 48 rfl
  rw[hl2]
  exact MQ c0 c1 c2 c3 (f0.up (n:=832*2 ^ 14) (by omega)) (f1.up (n:=832*2 ^ 14) (by omega)) (f2.up (n:=832*2 ^ 14) (by omega)) (f3.up (n:=832*2 ^ 14) (by omega)) (by decide)
 ·subst e
  have hl2:ar.length=2:=hl
  have hc:aT l ⟨nm,[111,110],ar⟩=.on (ix l ⟨nm,[111,110],ar⟩ 0) (ix l ⟨nm,[111,110],ar⟩ 1):=rfl
  rw[hc]at hok ⊢
  clear hc
  generalize ix l ⟨nm,[111,110],ar⟩=f at *
  obtain⟨m0,s0,u0,f0⟩:=hM.pP hok.1
  have c0:=hR.pc hpl 0 (hpk 0 (by omega)) 0 rfl
  obtain⟨m1,s1,u1,f1⟩:=hM.pL hok.2
  have c1:=hR.lc hpl 1 (hpk 1 (by omega)) 22 rfl
  rw[hl2]
  exact Qn c0 c1 (f0.up (n:=832*2 ^ 14) (by omega)) (f1.up (n:=832*2 ^ 14) (e:=832*2 ^ 14) (by omega) (by omega)) (by decide)
 ·subst e
  have hl2:ar.length=2:=hl
  have hc:aT l ⟨nm,[112,108,108],ar⟩=.IB (ix l ⟨nm,[112,108,108],ar⟩ 0) (ix l ⟨nm,[112,108,108],ar⟩ 1):=rfl
  rw[hc]at hok ⊢
  clear hc
  generalize ix l ⟨nm,[112,108,108],ar⟩=f at *
  obtain⟨m0,s0,u0,f0⟩:=hM.pL hok.1
  have c0:=hR.lc hpl 0 (hpk 0 (by omega)) 6 rfl
  obtain⟨m1,s1,u1,f1⟩:=hM.pL hok.2
  have c1:=hR.lc hpl 1 (hpk 1 (by omega)) 22 rfl
  rw[hl2]
  exact MR c0 c1 (f0.up (n:=832*2 ^ 14) (e:=832*2 ^ 14) (by omega) (by omega)) (f1.up (n:=832*2 ^ 14) (e:=832*2 ^ 14) (by omega) (by omega)) (by decide)
 ·subst e
  have hl2:ar.length=2:=hl
  have hc:aT l ⟨nm,[112,114,112],ar⟩=.IC (ix l ⟨nm,[112,114,112],ar⟩ 0) (ix l ⟨nm,[112,114,112],ar⟩ 1):=rfl
  rw[hc]at hok ⊢
  clear hc
  generalize ix l ⟨nm,[112,114,112],ar⟩=f at *
  obtain⟨m0,s0,u0,f0⟩:=hM.pL hok.1
  have c0:=hR.lc hpl 0 (hpk 0 (by omega)) 6 rfl
  obtain⟨m1,s1,u1,f1⟩:=hM.pL hok.2
  have c1:=hR.lc hpl 1 (hpk 1 (by omega)) 22 rfl
  rw[hl2]
  exact MS c0 c1 (f0.up (n:=832*2 ^ 14) (e:=832*2 ^ 14) (by omega) (by omega)) (f1.up (n:=832*2 ^ 14) (e:=832*2 ^ 14) (by omega) (by omega)) (by decide)
 ·subst e
  have hl2:ar.length=3:=hl
  have hc:aT l ⟨nm,[99,99],ar⟩=.cc (ix l ⟨nm,[99,99],ar⟩ 0) (ix l ⟨nm,[99,99],ar⟩ 1) (ix l ⟨nm,[99,99],ar⟩ 2):=rfl
  rw[hc]at hok ⊢
  clear hc
  generalize ix l ⟨nm,[99,99],ar⟩=f at *
  obtain⟨m0,s0,u0,f0⟩:=hM.pL hok.1
  have c0:=hR.lc hpl 0 (hpk 0 (by omega)) 6 rfl
  obtain⟨m1,s1,u1,f1⟩:=hM.pL hok.2.1
  have c1:=hR.lc hpl 1 (hpk 1 (by omega)) 22 rfl
  obtain⟨m2,s2,u2,f2⟩:=hM.pL hok.2.2
  have c2:=hR.lc hpl 2 (hpk 2 (by omega)) 38 rfl
  rw[hl2]
  exact Qm c0 c1 c2 (f0.up (n:=832*2 ^ 14) (e:=832*2 ^ 14) (by omega) (by omega)) (f1.up (n:=832*2 ^ 14) (e:=832*2 ^ 14) (by omega) (by omega)) (f2.up (n:=832*2 ^ 14) (e:=832*2 ^ 14) (by omega) (by omega)) (by decide)
end Go.Proofs.YtmnfndpbblpjiabGreatDoor

/- The document's plane, plainly: points as three whole numbers, lines as a point and a direction; held against the program's. -/
import Derived.Test.YtmnfndpbblpjiabGreatDoorZx19
namespace Go.Proofs.YtmnfndpbblpjiabGreatDoor.Pu
structure V2 where
 x:Int
 y:Int
structure RL where
 p:T3
 d:V2
def iU (p q:T3):V2:=⟨q.x*p.w - p.x*q.w,q.y*p.w - p.y*q.w⟩
def jK (u v:V2):Int:=u.x*v.y - u.y*v.x
def mG (u v:V2):Int:=u.x*v.x+u.y*v.y
def cB (p q:T3):Bool:=decide ((iU p q).x=0) && decide ((iU p q).y=0)
def jE (r:T3):T3:=if r.w < 0 then ⟨-r.x,-r.y,-r.w⟩ else r
def VZ (p:T3) (v:V2) (n d:Int):T3:=⟨p.x*d+v.x*n*p.w,p.y*d+v.y*n*p.w,p.w*d⟩
def hlf (p q:T3):T3:=⟨p.x*q.w+q.x*p.w,p.y*q.w+q.y*p.w,2*(p.w*q.w)⟩
def iF (p:T3) (l:RL):T3:=VZ l.p l.d (mG (iU l.p p) l.d) (p.w*l.p.w*mG l.d l.d)
def zw (p:T3) (f:T3):T3:=VZ f (iU p f) 1 (p.w*f.w)
def jW (l m:RL):T3:=VZ l.p l.d (jK (iU l.p m.p) m.d) (jK l.d m.d*(l.p.w*m.p.w))
def gJ (p q:T3):RL:=⟨jE (hlf p q),⟨-(iU p q).y,(iU p q).x⟩⟩
def iY (p q r:T3):Bool:=decide (jK (iU p q) (iU p r)=0)
def VB (p:T3) (l:RL):Bool:=decide (jK (iU l.p p) l.d=0)
def jf (l m:RL):Bool:=decide (jK l.d m.d=0)
def BX (a u b v c w:Int):Bool:=decide (0<=kL (b*u - a*v)*kL (c*v - b*w))
def I9 (p q r:T3):Bool:=!(cB p q || cB q r || !iY p q r) && (BX p.x p.w q.x q.w r.x r.w && BX p.y p.w q.y q.w r.y r.w)
def O1 (c p q:T3):Bool:=decide (mG (iU c p) (iU c p)*(q.w*q.w) - mG (iU c q) (iU c q)*(p.w*p.w)=0)
def Um (p q r:T3):T3:=jE (jW (gJ p q) (gJ p r))
def jU (p q r:T3):Bool:=!(cB p q || cB p r) && !jf (gJ p q) (gJ p r)
def nH (p q r:T3):T3:=if jU p q r then Um p q r else t0
def Kn (p q r s:T3):Bool :=
 if cB p q || cB p r || cB p s || cB q r || cB q s || cB r s then true
 else if iY p q r || iY p q s || iY p r s || iY q r s then iY p q r && iY p q s
 else O1 (nH p q r) p s
def Mj (l m n:RL):Bool:=if jf l m then (if jf l n then true else VB (jE (jW l n)) m) else VB (jE (jW l m)) n
def Aw (l:RL):T3:=mK l.p ⟨-l.d.y,l.d.x,0⟩
def Qq (u v:T3):Prop:=∃ a b:Int,a≠0/\b≠0/\aM u a=aM v b
theorem wH (u:T3) (a b:Int):aM (aM u a) b=aM u (a*b):=T3.ext' (by simp[aM,Int.mul_assoc]) (by simp[aM,Int.mul_assoc]) (by simp[aM,Int.mul_assoc])
theorem qg (u:T3):aM u 1=u:=T3.ext' (by simp[aM]) (by simp[aM]) (by simp[aM])
theorem Qq.refl (u:T3):Qq u u:=⟨1,1,by decide,by decide,rfl⟩
theorem Qq.symm {u v:T3} (h:Qq u v):Qq v u:=by obtain⟨a,b,ha,hb,e⟩:=h;exact⟨b,a,hb,ha,e.symm⟩
theorem Qq.trans {u v t:T3} (h:Qq u v) (k:Qq v t):Qq u t:=by
 obtain⟨a,b,ha,hb,e⟩:=h
 obtain⟨c,d,hc,hd,f⟩:=k
 refine⟨a*c,b*d,bD ha hc,bD hb hd,?_⟩
 rw[<- wH,e,wH,Int.mul_comm b c,<- wH,f,wH,Int.mul_comm d b]
theorem Qq.Ux {u v:T3} {k:Int} (hk:k≠0) (h:u=aM v k):Qq u v:=⟨1,k,by decide,hk,by rw[qg,h]⟩
theorem Qq.w {u v:T3} (h:Qq u v):u.w=0↔v.w=0:=by
 obtain⟨a,b,ha,hb,e⟩:=h
 have e:u.w*a=v.w*b:=congrArg T3.w e
 constructor
 ·intro h;rw[h,Int.zero_mul]at e;rcases Int.mul_eq_zero.1 e.symm with h | h
  ·exact h
  ·exact absurd h hb
 ·intro h;rw[h,Int.zero_mul]at e;rcases Int.mul_eq_zero.1 e with h | h
  ·exact h
  ·exact absurd h ha
theorem Qq.x {u v:T3} (h:Qq u v):u.x=0↔v.x=0:=by
 obtain⟨a,b,ha,hb,e⟩:=h
 have e:u.x*a=v.x*b:=congrArg T3.x e
 constructor
 ·intro h;rw[h,Int.zero_mul]at e;rcases Int.mul_eq_zero.1 e.symm with h | h
  ·exact h
  ·exact absurd h hb
 ·intro h;rw[h,Int.zero_mul]at e;rcases Int.mul_eq_zero.1 e with h | h
  ·exact h
  ·exact absurd h ha
theorem Qq.y {u v:T3} (h:Qq u v):u.y=0↔v.y=0:=by
 obtain⟨a,b,ha,hb,e⟩:=h
 have e:u.y*a=v.y*b:=congrArg T3.y e
 constructor
 ·intro h;rw[h,Int.zero_mul]at e;rcases Int.mul_eq_zero.1 e.symm with h | h
  ·exact h
  ·exact absurd h hb
 ·intro h;rw[h,Int.zero_mul]at e;rcases Int.mul_eq_zero.1 e with h | h
  ·exact h
  ·exact absurd h ha
theorem jm {x y a b:Int} (ha:a≠0) (hb:b≠0) (e:x*a=y*b):x=0↔y=0:=by
 constructor
 ·intro h;rw[h,Int.zero_mul]at e;rcases Int.mul_eq_zero.1 e.symm with h | h
  ·exact h
  ·exact absurd h hb
 ·intro h;rw[h,Int.zero_mul]at e;rcases Int.mul_eq_zero.1 e with h | h
  ·exact h
  ·exact absurd h ha
section
variable (p q r t:T3) (a b c d:Int)
theorem zM:aZ (aM p a) (aM q b)=aM (aZ p q) (a*b):=by refine T3.ext' ?_ ?_ ?_<;>simp only[aZ,aM]<;>grind
theorem WR:su (aM p a) (aM q b)=aM (su p q) (a*b):=by refine T3.ext' ?_ ?_ ?_<;>simp only[su,aM]<;>grind
theorem WT:mK (aM p a) (aM q b)=aM (mK p q) (a*b):=by refine T3.ext' ?_ ?_ ?_<;>simp only[mK,aM]<;>grind
theorem Qi:qZ (aM p a) (aM q b)=aM (qZ p q) (a*b):=by refine T3.ext' ?_ ?_ ?_<;>simp only[qZ,mK,aM]<;>grind
theorem Ym:gT (aM p a) (aM q b)=aM (gT p q) (a*b*b):=by unfold gT;rw[Qi,zM]
theorem Yp (f:T3) (e:Int):(⟨((aM f e).x+(aM f e).x)*(aM p a).w - (aM p a).x*(aM f e).w,((aM f e).y+(aM f e).y)*(aM p a).w - (aM p a).y*(aM f e).w,(aM f e).w*(aM p a).w⟩:T3)=aM ⟨(f.x+f.x)*p.w - p.x*f.w,(f.y+f.y)*p.w - p.y*f.w,f.w*p.w⟩ (e*a):=by
 refine T3.ext' ?_ ?_ ?_<;>simp only[aM]<;>grind
theorem WS:Cm (aM p a) (aM q b)=aM (Cm p q) (a*b*b*a):=by
 have:=Yp p a (gT p q) (a*b*b)
 rw[<- Ym]at this
 exact this
theorem FZ:mY (aM p a) (aM q b)=mY p q*(a*b):=by simp only[mY,aM];grind
theorem Af:eX (aM p a) (aM q b) (aM r c)=eX p q r*(a*b*c):=by unfold eX;rw[zM,FZ]
theorem CX:aN (aM p a) (aM q b)=aM (aN p q) (a*b):=by refine T3.ext' ?_ ?_ ?_<;>simp only[aN,aM]<;>grind
theorem F3:oJ (aM p a)=aM (oJ p) (a*a):=by refine T3.ext' ?_ ?_ ?_<;>simp only[oJ,aM]<;>grind
theorem WW:Ht (aM p a) (aM q b)=Ht p q*(a*b*(a*b)):=by unfold Ht;rw[CX];simp only[aM];grind
theorem WV:Ew (aM p a) (aM q b) (aM r c) (aM t d)=Ew p q r t*(a*b*(a*b)*(a*c*(a*c))*(a*d*(a*d))):=by unfold Ew;rw[CX,CX,CX,F3,F3,F3,Af]
theorem WU:(aM p a).x*(aM q b).x+(aM p a).y*(aM q b).y=(p.x*q.x+p.y*q.y)*(a*b):=by simp only[aM];grind
theorem aaG:(aN (aM q b) (aM p a)).x*(aN (aM q b) (aM r c)).x+(aN (aM q b) (aM p a)).y*(aN (aM q b) (aM r c)).y=((aN q p).x*(aN q r).x+(aN q p).y*(aN q r).y)*(b*a*(b*c)):=by rw[CX,CX];simp only[aM];grind
end
section
variable {u v u' v' u'' v'':T3}
theorem Qq.cross (h:Qq u v) (k:Qq u' v'):Qq (aZ u u') (aZ v v'):=by
 obtain⟨a,b,ha,hb,e⟩:=h
 obtain⟨c,d,hc,hd,f⟩:=k
 exact⟨a*c,b*d,bD ha hc,bD hb hd,by rw[<- zM,e,f,zM]⟩
theorem Qq.mid (h:Qq u v) (k:Qq u' v'):Qq (su u u') (su v v'):=by
 obtain⟨a,b,ha,hb,e⟩:=h
 obtain⟨c,d,hc,hd,f⟩:=k
 exact⟨a*c,b*d,bD ha hc,bD hb hd,by rw[<- WR,e,f,WR]⟩
theorem Qq.par (h:Qq u v) (k:Qq u' v'):Qq (mK u u') (mK v v'):=by
 obtain⟨a,b,ha,hb,e⟩:=h
 obtain⟨c,d,hc,hd,f⟩:=k
 exact⟨a*c,b*d,bD ha hc,bD hb hd,by rw[<- WT,e,f,WT]⟩
theorem Qq.SV (h:Qq u v) (k:Qq u' v'):Qq (qZ u u') (qZ v v'):=by
 obtain⟨a,b,ha,hb,e⟩:=h
 obtain⟨c,d,hc,hd,f⟩:=k
 exact⟨a*c,b*d,bD ha hc,bD hb hd,by rw[<- Qi,e,f,Qi]⟩
theorem Qq.foot (h:Qq u v) (k:Qq u' v'):Qq (gT u u') (gT v v'):=(h.SV k).cross k
theorem Qq.mir (h:Qq u v) (k:Qq u' v'):Qq (Cm u u') (Cm v v'):=by
 obtain⟨a,b,ha,hb,e⟩:=h
 obtain⟨c,d,hc,hd,f⟩:=k
 exact⟨a*c*c*a,b*d*d*b,bD (bD (bD ha hc) hc) ha,bD (bD (bD hb hd) hd) hb,by rw[<- WS,e,f,WS]⟩
theorem Qq.hal (h:Qq u v) (k:Qq u' v'):Qq (kV u u') (kV v v'):=(h.mid k).SV (h.cross k)
end
structure Pq (u v:T3):Prop where
 q:Qq u v
 u0:0 < u.w
 v0:0 < v.w
structure Lq (u:T3) (l:RL):Prop where
 q:Qq u (Aw l)
 w0:0 < l.p.w
 d0:0 < mG l.d l.d
theorem RV (r:T3) (h:r.w≠0):jE r=aM r (kL r.w):=by
 unfold jE
 rcases jy r.w with k | k | k
 ·rw[if_pos k.2,k.1];exact T3.ext' (by simp[aM]) (by simp[aM]) (by simp[aM])
 ·exact absurd k.2 h
 ·rw[if_neg (by omega),k.1,qg]
theorem Kq {x:Int} (h:x≠0):kL x≠0:=by rcases jy x with k | k | k<;>omega
theorem VK (r:T3) (h:r.w≠0):0 < (jE r).w:=by rw[RV r h];exact Lp h
theorem RX (r:T3) (h:r.w≠0):Qq (jE r) r:=Qq.Ux (Kq h) (RV r h)
theorem Pq.keep {m r:T3} (h:Qq m r) (hr:r.w≠0):Pq (aM m (kL m.w)) (jE r):=by
 have hm:m.w≠0:=fun e=>hr (h.w.1 e)
 exact⟨((Qq.Ux (Kq hm) rfl).trans h).trans (RX r hr).symm,Lp hm,VK r hr⟩
section
variable {u v u' v' u'' v'':T3} {l m n:RL} {k k' k'':T3}
theorem K5 (p q:T3):hlf p q=su p q:=T3.ext' rfl rfl (by simp only[hlf,su];omega)
theorem Pq.mid (h:Pq u v) (j:Pq u' v'):Pq (aM (su u u') (kL (su u u').w)) (jE (hlf v v')):=by
 refine Pq.keep (by rw[K5];exact h.q.mid j.q) ?_
 have:=Int.mul_pos h.v0 j.v0
 show 2*(v.w*v'.w)≠0
 omega
theorem UW (p q:T3):Aw ⟨p,iU p q⟩=aM (aZ p q) p.w:=by refine T3.ext' ?_ ?_ ?_<;>simp only[Aw,mK,iU,aZ,aM]<;>grind
theorem Uv {v:V2} (h:v.x≠0\/v.y≠0):0 < mG v v:=by
 unfold mG
 have h1:=Hy v.x
 have h2:=Hy v.y
 rcases h with h | h
 ·have:=bD h h;omega
 ·have:=bD h h;omega
theorem Hq (p q:T3):cB p q=true↔(aZ p q).x=0/\(aZ p q).y=0:=by
 simp only[cB,iU,aZ,Bool.and_eq_true]
 constructor<;>intro⟨h1,h2⟩<;>constructor<;>grind
theorem Na (h:Pq u v) (j:Pq u' v'):((aZ u u').x*(aZ u u').x+(aZ u u').y*(aZ u u').y=0)↔cB v v'=true:=by
 rw[EF,Hq,(h.q.cross j.q).x,(h.q.cross j.q).y]
theorem Lq.line (h:Pq u v) (j:Pq u' v') (hs:cB v v'=false):Lq (aZ u u') ⟨v,iU v v'⟩:=by
 refine⟨(h.q.cross j.q).trans (Qq.Ux (dY h.v0) (UW v v')).symm,h.v0,Uv ?_⟩
 simp only[cB,Bool.and_eq_false_iff,decide_eq_false_iff_not]at hs
 exact hs
theorem YV (p:T3) (l:RL):mK p (Aw l)=aM (Aw ⟨p,l.d⟩) l.p.w:=by refine T3.ext' ?_ ?_ ?_<;>simp only[Aw,mK,aM]<;>grind
theorem Zj (p:T3) (l:RL):qZ p (Aw l)=aM (Aw ⟨p,⟨-l.d.y,l.d.x⟩⟩) (-l.p.w):=by refine T3.ext' ?_ ?_ ?_<;>simp only[Aw,qZ,mK,aM]<;>grind
theorem Lq.par (h:Pq u v) (j:Lq k l):Lq (mK u k) ⟨v,l.d⟩:=⟨(h.q.par j.q).trans (Qq.Ux (dY j.w0) (YV v l)),h.v0,j.d0⟩
theorem Lq.pK (h:Pq u v) (j:Lq k l):Lq (qZ u k) ⟨v,⟨-l.d.y,l.d.x⟩⟩:=by
 refine⟨(h.q.SV j.q).trans (Qq.Ux (by have:=j.w0;omega) (Zj v l)),h.v0,?_⟩
 have:=j.d0
 simp only[mG]at *
 grind
theorem U5 (l m:RL):jW l m=aM (aZ (Aw l) (Aw m)) l.p.w:=by refine T3.ext' ?_ ?_ ?_<;>simp only[jW,VZ,jK,iU,Aw,mK,aZ,aM]<;>grind
theorem Ef (l m:RL) (hl:0 < l.p.w) (hm:0 < m.p.w):(jW l m).w=0↔jf l m=true:=by
 have:(jW l m).w=jK l.d m.d*(l.p.w*(l.p.w*m.p.w)):=by simp only[jW,VZ];grind
 rw[this,jf,decide_eq_true_eq]
 have hne:l.p.w*(l.p.w*m.p.w)≠0:=bD (dY hl) (bD (dY hl) (dY hm))
 constructor
 ·intro h;rcases Int.mul_eq_zero.1 h with h | h
  ·exact h
  ·exact absurd h hne
 ·intro h;rw[h,Int.zero_mul]
theorem Ee (h:Lq k l) (j:Lq k' m):Qq (aZ k k') (jW l m):=(h.q.cross j.q).trans (Qq.Ux (dY h.w0) (U5 l m)).symm
theorem qc (h:Lq k l) (j:Lq k' m):(aZ k k').w=0↔jf l m=true:=by rw[(Ee h j).w,Ef l m h.w0 j.w0]
theorem Pq.meet (h:Lq k l) (j:Lq k' m) (hs:jf l m=false):Pq (aM (aZ k k') (kL (aZ k k').w)) (jE (jW l m)) :=
 Pq.keep (Ee h j) (fun e=>by rw[Ef l m h.w0 j.w0,hs]at e;cases e)
theorem KX (p:T3) (l:RL):iF p l=gT p (Aw l):=by refine T3.ext' ?_ ?_ ?_<;>simp only[iF,VZ,mG,iU,Aw,mK,gT,qZ,aZ]<;>grind
theorem Jr (p:T3) (l:RL) (hp:0 < p.w) (hl:0 < l.p.w) (hd:0 < mG l.d l.d):0 < (iF p l).w:=Int.mul_pos hl (Int.mul_pos (Int.mul_pos hp hl) hd)
theorem X6 (h:Pq u v) (j:Lq k l):Qq (gT u k) (iF v l):=by rw[KX];exact h.q.foot j.q
theorem Pq.foot (h:Pq u v) (j:Lq k l):Pq (aM (gT u k) (kL (gT u k).w)) (jE (iF v l)):=Pq.keep (X6 h j) (dY (Jr v l h.v0 j.w0 j.d0))
theorem Bc {r:T3} (h:0 < r.w):jE r=r:=by unfold jE;rw[if_neg (by omega)]
theorem YH (p f:T3):zw p f=aM ⟨(f.x+f.x)*p.w - p.x*f.w,(f.y+f.y)*p.w - p.y*f.w,f.w*p.w⟩ f.w:=by refine T3.ext' ?_ ?_ ?_<;>simp only[zw,VZ,iU,aM]<;>grind
theorem aaU (h:Pq u v) (j:Lq k l):Qq (Cm u k) (zw v (jE (iF v l))):=by
 have hw:=Jr v l h.v0 j.w0 j.d0
 rw[Bc hw,YH]
 refine (h.q.mir j.q).trans (Qq.symm (Qq.Ux (dY hw) ?_))
 rw[KX];rfl
theorem aaV (h:Pq u v) (j:Lq k l):(zw v (jE (iF v l))).w≠0:=by
 have hw:=Jr v l h.v0 j.w0 j.d0
 rw[Bc hw]
 exact bD (dY hw) (bD (dY h.v0) (dY hw))
theorem Pq.mir (h:Pq u v) (j:Lq k l):Pq (aM (Cm u k) (kL (Cm u k).w)) (jE (zw v (jE (iF v l)))):=Pq.keep (aaU h j) (aaV h j)
theorem Qj {p q:T3} (hp:0 < p.w) (hq:0 < q.w):jE (hlf p q)=su p q:=by
 rw[Bc (by show 0 < 2*(p.w*q.w);have:=Int.mul_pos hp hq;omega),K5]
theorem Yr {p q:T3} (hp:0 < p.w) (hq:0 < q.w):Aw (gJ p q)=aM (kV p q) (-1):=by
 unfold gJ Aw kV qZ
 rw[Qj hp hq]
 refine T3.ext' ?_ ?_ ?_<;>simp only[mK,iU,aZ,aM]<;>grind
theorem Lq.hal (h:Pq u v) (j:Pq u' v') (hs:cB v v'=false):Lq (kV u u') (gJ v v'):=by
 refine⟨(h.q.hal j.q).trans (Qq.Ux (by decide) (Yr h.v0 j.v0)).symm,?_,?_⟩
 ·show 0 < (jE (hlf v v')).w
  rw[Qj h.v0 j.v0]
  have:=Int.mul_pos h.v0 j.v0
  show 0 < v.w*v'.w+v.w*v'.w
  omega
 ·have:=(Lq.line h j hs).d0
  simp only[mG,gJ]at *
  grind
theorem F4 {p q:T3} (h:cB p q=true):(kV p q).x=0/\(kV p q).y=0/\(kV p q).w=0:=by
 rw[Hq]at h
 unfold kV qZ mK
 generalize aZ p q=c at *
 rw[h.1,h.2]
 simp
theorem Fu (h:Pq u v) (j:Pq u' v') (i:Pq u'' v''):(vR u u' u'').w=0↔jU v v' v''=false:=by
 unfold jU
 by_cases h1:cB v v'=true
 ·have hz:=(h.q.hal j.q)
  obtain⟨z1,z2,-⟩:=F4 h1
  have e1:(kV u u').x=0:=hz.x.2 z1
  have e2:(kV u u').y=0:=hz.y.2 z2
  simp only[h1,Bool.true_or,Bool.not_true,Bool.false_and,iff_true]
  unfold vR aZ
  simp[e1,e2]
 ·have h1:cB v v'=false:=by simpa using h1
  by_cases h2:cB v v''=true
  ·have hz:=(h.q.hal i.q)
   obtain⟨z1,z2,-⟩:=F4 h2
   have e1:(kV u u'').x=0:=hz.x.2 z1
   have e2:(kV u u'').y=0:=hz.y.2 z2
   simp only[h2,Bool.or_true,Bool.not_true,Bool.false_and,iff_true]
   unfold vR aZ
   simp[e1,e2]
  ·have h2:cB v v''=false:=by simpa using h2
   have:=qc (Lq.hal h j h1) (Lq.hal h i h2)
   unfold vR
   rw[this]
   simp[h1,h2]
theorem Mr {p q r:T3} (h:jU p q r=true):cB p q=false/\cB p r=false/\jf (gJ p q) (gJ p r)=false:=by
 unfold jU at h
 simp at h
 exact⟨h.1.1,h.1.2,h.2⟩
theorem Pq.cen (h:Pq u v) (j:Pq u' v') (i:Pq u'' v'') (hs:jU v v' v''=true):Pq (aM (vR u u' u'') (kL (vR u u' u'').w)) (Um v v' v''):=by
 obtain⟨h1,h2,h3⟩:=Mr hs
 exact Pq.meet (Lq.hal h j h1) (Lq.hal h i h2) h3
end
end Go.Proofs.YtmnfndpbblpjiabGreatDoor.Pu

/- The questions of the document's plane, held against the program's. -/
namespace Go.Proofs.YtmnfndpbblpjiabGreatDoor.Pu
theorem ng (x:Int):0 < kW x↔x=0:=by rcases jQ x with h | h<;>rw[h.1]<;>simp[h.2]
section
variable {u v u' v' u'' v'' u3 v3:T3} {l m n:RL} {k k' k'':T3}
theorem Pq.pos (h:Pq u v):∃ a b:Int,0 < a/\0 < b/\aM u a=aM v b:=by
 obtain⟨a,b,ha,hb,e⟩:=h.q
 have ew:u.w*a=v.w*b:=congrArg T3.w e
 have h1:=h.u0
 have h2:=h.v0
 rcases Int.lt_or_le 0 a with h3 | h3
 ·have:=Int.mul_pos h1 h3
  refine⟨a,b,h3,?_,e⟩
  rcases Int.lt_or_le 0 b with h4 | h4
  ·exact h4
  ·have:=Int.mul_nonpos_of_nonneg_of_nonpos (Int.le_of_lt h2) h4;omega
 ·have h3:a < 0:=by omega
  have:=Int.mul_neg_of_pos_of_neg h1 h3
  refine⟨-a,-b,by omega,?_,?_⟩
  ·rcases Int.lt_or_le b 0 with h4 | h4
   ·omega
   ·have:=Int.mul_nonneg (Int.le_of_lt h2) h4;omega
  ·have ex:u.x*a=v.x*b:=congrArg T3.x e
   have ey:u.y*a=v.y*b:=congrArg T3.y e
   exact T3.ext' (by simp only[aM];grind) (by simp only[aM];grind) (by simp only[aM];grind)
theorem VW (p q:T3):Ht p q=0↔cB p q=true:=by
 unfold Ht cB
 rw[EF,Bool.and_eq_true,decide_eq_true_eq,decide_eq_true_eq]
 exact Iff.rfl
theorem Y2 (h:Pq u v) (j:Pq u' v'):(0 < kW (Ht u u'))↔cB v v'=true:=by
 rw[ng,<- VW]
 obtain⟨a,b,ha,hb,e⟩:=h.q
 obtain⟨c,d,hc,hd,f⟩:=j.q
 have:=WW u u' a c
 rw[e,f,WW]at this
 exact jm (bD (bD ha hc) (bD ha hc)) (bD (bD hb hd) (bD hb hd)) this.symm
theorem Pw (p q r:T3):jK (iU p q) (iU p r)=eX p q r*p.w:=by simp only[jK,iU,eX,mY,aZ];grind
theorem LC (h:Pq u v) (j:Pq u' v') (i:Pq u'' v''):∃ a b:Int,0 < a/\0 < b/\eX u u' u''*a=eX v v' v''*b:=by
 obtain⟨a,b,ha,hb,e⟩:=h.pos
 obtain⟨c,d,hc,hd,f⟩:=j.pos
 obtain⟨x,y,hx,hy,g⟩:=i.pos
 refine⟨a*c*x,b*d*y,Int.mul_pos (Int.mul_pos ha hc) hx,Int.mul_pos (Int.mul_pos hb hd) hy,?_⟩
 rw[<- Af,e,f,g,Af]
theorem ET {p q r:T3} (hp:0 < p.w):eX p q r=0↔iY p q r=true:=by
 unfold iY
 rw[decide_eq_true_eq,Pw]
 exact jm (dY hp) (by decide:(1:Int)≠0) (by grind)
theorem aa6 (h:Pq u v) (j:Pq u' v') (i:Pq u'' v''):(0 < kW (eX u u' u''))↔iY v v' v''=true:=by
 rw[ng,<- ET h.v0]
 obtain⟨a,b,ha,hb,e⟩:=LC h j i
 exact jm (dY ha) (dY hb) e
theorem aa5 (h:Pq u v) (j:Pq u' v') (i:Pq u'' v''):(0 < eX u u' u'')↔0 < jK (iU v v') (iU v v''):=by
 rw[Pw,l8 h.v0]
 obtain⟨a,b,ha,hb,e⟩:=LC h j i
 rw[<- l8 ha,e,l8 hb]
theorem aaX (p:T3) (l:RL):mY p (Aw l)=jK (iU l.p p) l.d*(-1):=by simp only[mY,Aw,mK,jK,iU];grind
theorem Y1 (h:Qq u v) (j:Lq k l):(0 < kW (mY u k))↔VB v l=true:=by
 rw[ng]
 obtain⟨a,b,ha,hb,e⟩:=h
 obtain⟨c,d,hc,hd,f⟩:=j.q
 have:=FZ u k a c
 rw[e,f,FZ,aaX]at this
 unfold VB
 rw[decide_eq_true_eq]
 exact jm (bD ha hc) (bD (by decide:(-1:Int)≠0) (bD hb hd)) (by rw[<- this,Int.mul_assoc])
theorem abd (h:Lq k l) (j:Lq k' m):(0 < kW (k.x*k'.y - k.y*k'.x))↔jf l m=true:=by
 rw[ng,<- qc h j]
 rfl
theorem YW (l m:RL):(Aw l).x*(Aw m).x+(Aw l).y*(Aw m).y=mG l.d m.d*(l.p.w*m.p.w):=by simp only[Aw,mK,mG];grind
theorem abe (h:Lq k l) (j:Lq k' m):(0 < kW (k.x*k'.x+k.y*k'.y))↔mG l.d m.d=0:=by
 rw[ng]
 obtain⟨a,b,ha,hb,e⟩:=h.q
 obtain⟨c,d,hc,hd,f⟩:=j.q
 have:=WU k k' a c
 rw[e,f,WU,YW]at this
 exact jm (bD ha hc) (bD (bD (dY h.w0) (dY j.w0)) (bD hb hd)) (by rw[<- this,Int.mul_assoc])
theorem Tj (p q r:T3):mY (aZ p r) q=eX p q r*(-1):=by simp only[eX,mY,aZ];grind
theorem Wo {p q r:T3} (h:p.x≠0\/p.y≠0) (h1:(aZ p q).w=0) (h2:(aZ p r).w=0):eX p q r=0:=by
 have e1:p.x*q.y - p.y*q.x=0:=h1
 have e2:p.x*r.y - p.y*r.x=0:=h2
 rcases h with h | h
 ·have:p.x*eX p q r=0:=by
   simp only[eX,mY,aZ]
   have e3:p.x*r.y=p.y*r.x:=by omega
   have e4:p.x*q.y=p.y*q.x:=by omega
   grind
  rcases Int.mul_eq_zero.1 this with h3 | h3
  ·exact absurd h3 h
  ·exact h3
 ·have:p.y*eX p q r=0:=by
   simp only[eX,mY,aZ]
   have e3:p.x*r.y=p.y*r.x:=by omega
   have e4:p.x*q.y=p.y*q.x:=by omega
   grind
  rcases Int.mul_eq_zero.1 this with h3 | h3
  ·exact absurd h3 h
  ·exact h3
theorem Lq.xy (h:Lq k l):k.x≠0\/k.y≠0:=by
 rw[Ne,Ne,h.q.x,h.q.y]
 by_cases h1:l.d.y=0
 ·refine .inr ?_
  show ¬ l.d.x*l.p.w=0
  refine bD (fun e=>?_) (dY h.w0)
  have:=h.d0
  simp[mG,h1,e]at this
 ·refine .inl ?_
  show ¬ -l.d.y*l.p.w=0
  exact bD (by omega) (dY h.w0)
theorem acp (h:Lq k l) (j:Lq k' m) (i:Lq k'' n):(0 < kW (eX k k' k''))↔Mj l m n=true:=by
 unfold Mj
 by_cases h1:jf l m=true
 ·rw[if_pos h1]
  by_cases h2:jf l n=true
  ·rw[if_pos h2,ng]
   simp only[iff_true]
   exact Wo h.xy ((qc h j).2 h1) ((qc h i).2 h2)
  ·rw[if_neg h2]
   have hw:(jW l n).w≠0:=fun e=>h2 ((Ef l n h.w0 i.w0).1 e)
   rw[<- Y1 ((Ee h i).trans (RX _ hw).symm) j,ng,ng,Tj]
   exact jm (by decide:(-1:Int)≠0) (by decide:(1:Int)≠0) (by grind)
 ·rw[if_neg h1]
  have hw:(jW l m).w≠0:=fun e=>h1 ((Ef l m h.w0 j.w0).1 e)
  rw[<- Y1 ((Ee h j).trans (RX _ hw).symm) i]
  exact Iff.rfl
end
theorem against {a b c d:Int} (hp:a*d=b*c) (hs:a*c+b*d≠0):a*c+b*d < 0↔a*c<=0/\b*d<=0:=by
 constructor
 ·intro h
  have key:(a*c)*(b*d)=(a*d)*(a*d):=by grind
  have h2:=Hy (a*d)
  rw[<- key]at h2
  rcases Int.lt_or_le 0 (a*c) with h3 | h3
  ·have h4:b*d < 0:=by omega
   have:=Int.mul_neg_of_pos_of_neg h3 h4
   omega
  ·refine⟨h3,?_⟩
   rcases Int.lt_or_le 0 (b*d) with h4 | h4
   ·have h5:a*c < 0:=by omega
    have:=Int.mul_neg_of_neg_of_pos h5 h4
    omega
   ·exact h4
 ·intro⟨h1,h2⟩;omega
theorem BK (x y:Int):0<=kL x*kL y↔0<=x*y:=by
 rcases jy x with h | h | h<;>rcases jy y with k | k | k<;>rw[h.1,k.1]
 ·have:=Int.mul_pos_of_neg_of_neg h.2 k.2;simp;omega
 ·simp[k.2]
 ·have:=Int.mul_neg_of_neg_of_pos h.2 k.2;simp;omega
 ·simp[h.2]
 ·simp[h.2]
 ·simp[h.2]
 ·have:=Int.mul_neg_of_pos_of_neg h.2 k.2;simp;omega
 ·simp[k.2]
 ·have:=Int.mul_pos h.2 k.2;simp;omega
theorem KV {a b c d:Int} (hp:a*d=b*c) (h1:a≠0\/b≠0) (h2:c≠0\/d≠0):a*c+b*d≠0:=by
 intro h
 have e1:c*(a*a+b*b)=0:=by grind
 have e2:d*(a*a+b*b)=0:=by grind
 have hs:a*a+b*b≠0:=fun e=>by rw[EF]at e;rcases h1 with h1 | h1<;>omega
 rcases Int.mul_eq_zero.1 e1 with h3 | h3
 ·rcases Int.mul_eq_zero.1 e2 with h4 | h4
  ·rcases h2 with h2 | h2<;>omega
  ·exact hs h4
 ·exact hs h3
theorem Hr (p q:T3):cB p q=cB q p:=by
 unfold cB iU
 have e1:(q.x*p.w - p.x*q.w=0)↔(p.x*q.w - q.x*p.w=0):=by constructor<;>intro<;>omega
 have e2:(q.y*p.w - p.y*q.w=0)↔(p.y*q.w - q.y*p.w=0):=by constructor<;>intro<;>omega
 simp only[e1,e2]
theorem qE {p q:T3} (h:cB p q=true):(aN p q).x=0/\(aN p q).y=0:=by
 rw[cB,Bool.and_eq_true,decide_eq_true_eq,decide_eq_true_eq]at h
 exact h
theorem yL {p q:T3} (h:cB p q=false):(aN p q).x≠0\/(aN p q).y≠0:=by
 simp only[cB,Bool.and_eq_false_iff,decide_eq_false_iff_not]at h
 exact h
theorem abt (p q r:T3):BX p.x p.w q.x q.w r.x r.w=true↔(aN q p).x*(aN q r).x<=0:=by
 unfold BX
 rw[decide_eq_true_eq,BK]
 simp only[aN]
 have:(q.x*p.w - p.x*q.w)*(r.x*q.w - q.x*r.w)=-((p.x*q.w - q.x*p.w)*(r.x*q.w - q.x*r.w)):=by grind
 omega
theorem abu (p q r:T3):BX p.y p.w q.y q.w r.y r.w=true↔(aN q p).y*(aN q r).y<=0:=by
 unfold BX
 rw[decide_eq_true_eq,BK]
 simp only[aN]
 have:(q.y*p.w - p.y*q.w)*(r.y*q.w - q.y*r.w)=-((p.y*q.w - q.y*p.w)*(r.y*q.w - q.y*r.w)):=by grind
 omega
theorem Wp (p q r:T3):(aN q p).x*(aN q r).y - (aN q p).y*(aN q r).x=eX p q r*(-q.w):=by simp only[aN,eX,mY,aZ];grind
theorem Ul (p q r:T3) (hp:0 < p.w):0 < Ja p q r↔I9 p q r=true:=by
 unfold I9 Ja
 by_cases hc:eX p q r=0
 ·have hc2:=(ET hp).1 hc
  have hi:kW (eX p q r)=1:=by rcases jQ (eX p q r) with h | h<;>omega
  rw[hi,hc2]
  have hpar:(aN q p).x*(aN q r).y=(aN q p).y*(aN q r).x:=by have:=Wp p q r;rw[hc,Int.zero_mul]at this;omega
  cases h1:cB p q with
  | true =>
   have:(aN q p).x=0/\(aN q p).y=0:=by rw[Hr]at h1;exact qE h1
   simp[this]
  | false =>
   cases h2:cB q r with
   | true =>
    have:(aN q r).x=0/\(aN q r).y=0:=qE h2
    simp[this]
   | false =>
    have hn:=KV hpar (yL (by rw[Hr];exact h1)) (yL h2)
    have hag:=against hpar hn
    simp only[Bool.not_true,Bool.or_false,Bool.not_false,Bool.true_and]
    rw[Bool.and_eq_true,abt,abu,<- hag]
    omega
 ·have hc2:iY p q r=false:=by
   cases h:iY p q r with
   | false=>rfl
   | true=>exact absurd ((ET hp).2 h) hc
  have hi:kW (eX p q r)=0:=by rcases jQ (eX p q r) with h | h<;>omega
  rw[hi,hc2]
  simp
theorem aa4 {u v u' v' u'' v'':T3} (h:Pq u v) (j:Pq u' v') (i:Pq u'' v''):(0 < Ja u u' u'')↔I9 v v' v''=true:=by
 rw[<- Ul _ _ _ h.v0]
 obtain⟨a,b,ha,hb,e⟩:=h.pos
 obtain⟨c,d,hc,hd,f⟩:=j.pos
 obtain⟨x,y,hx,hy,g⟩:=i.pos
 have e1:kW (eX u u' u'')=kW (eX v v' v''):=by
  rw[<- K8 (eX u u' u'') (a*c*x) (bD (bD (dY ha) (dY hc)) (dY hx)),<- Af,e,f,g,Af,K8 _ _ (bD (bD (dY hb) (dY hd)) (dY hy))]
 have e2:=aaG u u' u'' a c x
 rw[e,f,g,aaG]at e2
 unfold Ja
 rw[e1]
 generalize (aN u' u).x*(aN u' u'').x+(aN u' u).y*(aN u' u'').y=A at *
 generalize (aN v' v).x*(aN v' v'').x+(aN v' v).y*(aN v' v'').y=B at *
 have p1:0 < c*a*(c*x):=Int.mul_pos (Int.mul_pos hc ha) (Int.mul_pos hc hx)
 have p2:0 < d*b*(d*y):=Int.mul_pos (Int.mul_pos hd hb) (Int.mul_pos hd hy)
 rcases jQ (eX v v' v'') with hh | hh
 ·rw[hh.1];simp
 ·rw[hh.1,Int.one_mul,Int.one_mul,<- l8 (v:=0 - A) p1,<- l8 (v:=0 - B) p2]
  have:(0 - A)*(c*a*(c*x))=(0 - B)*(d*b*(d*y)):=by grind
  rw[this]
end Go.Proofs.YtmnfndpbblpjiabGreatDoor.Pu

/- Four points on a circle or a line: the document's way, held against the program's. -/
namespace Go.Proofs.YtmnfndpbblpjiabGreatDoor.Pu
def jY (a b:T3):Int:=a.x*b.y - a.y*b.x
def inn (a b:T3):Int:=a.x*b.x+a.y*b.y
def yD (U V S:T3):Int:=eX (oJ U) (oJ V) (oJ S)
theorem wR (U V S:T3):yD U V S=inn S S*(U.w*V.w*jY U V) - inn V V*(U.w*S.w*jY U S)+inn U U*(V.w*S.w*jY V S):=by
 simp only[yD,eX,mY,aZ,oJ,inn,jY];grind
def dif (U V:T3):T3:=⟨U.w*V.x - V.w*U.x,U.w*V.y - V.w*U.y,1⟩
theorem PD (p q r:T3):(dif (aN p q) (aN p r)).x=(aN q r).x*(p.w*p.w):=by simp only[dif,aN];grind
theorem PE (p q r:T3):(dif (aN p q) (aN p r)).y=(aN q r).y*(p.w*p.w):=by simp only[dif,aN];grind
theorem Ji {p q r:T3} (hp:0 < p.w) (h:cB q r=false):(dif (aN p q) (aN p r)).x≠0\/(dif (aN p q) (aN p r)).y≠0:=by
 rw[PD,PE]
 rcases yL h with h | h
 ·exact .inl (bD h (bD (dY hp) (dY hp)))
 ·exact .inr (bD h (bD (dY hp) (dY hp)))
theorem caseA {U V S:T3} (h:jY U V=0):yD U V S=S.w*jY U S*inn V (dif V U):=by
 rw[wR,h]
 have e:U.x*V.y=U.y*V.x:=by unfold jY at h;omega
 simp only[inn,jY,dif]
 grind
theorem aac {U V S:T3} (h:jY U S=0):yD U V S=V.w*jY U V*inn S (dif U S):=by
 rw[wR,h]
 have e:U.x*S.y=U.y*S.x:=by unfold jY at h;omega
 simp only[inn,jY,dif]
 grind
theorem aad {U V S:T3} (h:jY V S=0):yD U V S=U.w*jY U V*inn S (dif V S):=by
 rw[wR,h]
 have e:V.x*S.y=V.y*S.x:=by unfold jY at h;omega
 simp only[inn,jY,dif]
 grind
theorem XM (U V S:T3):U.w*U.w*yD U V S=V.w*jY U (dif U V)*(inn (dif U S) (dif U S)+2*S.w*inn (dif U S) U) - S.w*jY U (dif U S)*(inn (dif U V) (dif U V)+2*V.w*inn (dif U V) U)+inn U U*V.w*S.w*jY (dif U V) (dif U S):=by
 rw[wR]
 simp only[inn,jY,dif]
 grind
theorem XO {U X Y:T3} (vw sw:Int) (h:jY Y X=0):inn Y Y*(vw*jY U Y*(inn X X+2*sw*inn X U) - sw*jY U X*(inn Y Y+2*vw*inn Y U))=jY U Y*inn X Y*(vw*inn X Y - sw*inn Y Y):=by
 have e:Y.x*X.y=Y.y*X.x:=by unfold jY at h;omega
 have e1:inn Y Y*X.x=inn X Y*Y.x:=by simp only[inn];grind
 have e2:inn Y Y*X.y=inn X Y*Y.y:=by simp only[inn];grind
 have f1:inn Y Y*inn X X=inn X Y*inn X Y:=by
  have:inn Y Y*inn X X=(inn Y Y*X.x)*X.x+(inn Y Y*X.y)*X.y:=by simp only[inn];grind
  rw[this,e1,e2];simp only[inn];grind
 have f2:inn Y Y*inn X U=inn X Y*inn Y U:=by
  have:inn Y Y*inn X U=(inn Y Y*X.x)*U.x+(inn Y Y*X.y)*U.y:=by simp only[inn];grind
  rw[this,e1,e2];simp only[inn];grind
 have f3:inn Y Y*jY U X=inn X Y*jY U Y:=by
  have:inn Y Y*jY U X=U.x*(inn Y Y*X.y) - U.y*(inn Y Y*X.x):=by simp only[inn,jY];grind
  rw[this,e1,e2];simp only[inn,jY];grind
 generalize inn Y Y=a at *
 generalize inn X X=b at *
 generalize inn X Y=c at *
 generalize inn X U=d at *
 generalize inn Y U=f at *
 generalize jY U X=g at *
 generalize jY U Y=j at *
 grind
theorem Uq {X Y:T3} (a b:Int) (h:jY Y X=0):jY Y ⟨a*X.x - b*Y.x,a*X.y - b*Y.y,1⟩=0:=by
 have e:Y.x*X.y=Y.y*X.x:=by unfold jY at h;omega
 simp only[jY];grind
theorem Aj {A B:T3} (hp:jY A B=0) (h1:A.x≠0\/A.y≠0) (h2:B.x≠0\/B.y≠0):inn A B≠0:=KV (by unfold jY at hp;omega) h1 h2
theorem DT (U V W:T3) (h:jY U V=0) (k:jY U W=0):jY U (dif V W)=0:=by
 have e1:U.x*V.y=U.y*V.x:=by unfold jY at h;omega
 have e2:U.x*W.y=U.y*W.x:=by unfold jY at k;omega
 simp only[jY,dif]
 grind
theorem zX (U:T3):jY U U=0:=by unfold jY;grind
theorem zG {U V:T3} (h:jY U V=0):jY V U=0:=by unfold jY at *;grind
theorem Uu {U V:T3} (h:(dif U V).x≠0\/(dif U V).y≠0):(dif V U).x≠0\/(dif V U).y≠0:=by
 simp only[dif]at *
 rcases h with h | h
 ·exact .inl (by omega)
 ·exact .inr (by omega)
theorem yx {A B C:T3} {a b:Int} (ha:a≠0) (h:aM A a=aM B b):eX A B C=0:=by
 have e:=Af A B C a 1 1
 rw[h,qg,qg]at e
 have z:eX (aM B b) B C=0:=by simp only[eX,mY,aZ,aM];grind
 rw[z]at e
 rcases Int.mul_eq_zero.1 e.symm with h | h
 ·exact h
 ·simp at h;exact absurd h ha
theorem yG {p q r:T3} (h:cB q r=true):aM (aN p q) (r.w)=aM (aN p r) (q.w):=by
 obtain⟨h1,h2⟩:=qE h
 have e1:r.x*q.w=q.x*r.w:=by have:r.x*q.w - q.x*r.w=0:=h1;omega
 have e2:r.y*q.w=q.y*r.w:=by have:r.y*q.w - q.y*r.w=0:=h2;omega
 refine T3.ext' ?_ ?_ ?_<;>simp only[aM,aN]<;>grind
theorem Au {A B:T3} {a b:Int} (h:aM A a=aM B b):aM (oJ A) (a*a)=aM (oJ B) (b*b):=by rw[<- F3,h,F3]
theorem um (A B C:T3):eX A B C=eX B C A:=by simp only[eX,mY,aZ];grind
theorem Av {A:T3} (h:A.x=0/\A.y=0):oJ A=t0:=by refine T3.ext' ?_ ?_ ?_<;>simp[oJ,h.1,h.2,t0]
theorem KN (B C:T3):eX t0 B C=0:=by simp[eX,mY,aZ,t0]
section
variable {p q r s:T3}
theorem qG:iY p q r=true↔jY (aN p q) (aN p r)=0:=by unfold iY;rw[decide_eq_true_eq];exact Iff.rfl
theorem Pv (hp:0 < p.w):iY q r s=true↔jY (dif (aN p q) (aN p r)) (dif (aN p q) (aN p s))=0:=by
 rw[qG]
 unfold jY
 rw[PD,PE,PD,PE]
 have hne:=bD (bD (dY hp) (dY hp)) (bD (dY hp) (dY hp))
 exact jm hne (by decide:(1:Int)≠0) (by grind)
def lin (p L:T3):T3:=⟨2*p.w*L.x,2*p.w*L.y,-(2*p.x*L.x) - 2*p.y*L.y - p.w*L.w⟩
theorem wo (p q:T3):aM (kV p q) p.w=lin p (oJ (aN p q)):=by refine T3.ext' ?_ ?_ ?_<;>simp only[aM,kV,qZ,mK,su,aZ,lin,oJ,aN]<;>grind
theorem Wn (p A B C:T3):eX (lin p A) (lin p B) (lin p C)=eX A B C*(-4*(p.w*p.w*p.w)):=by simp only[eX,mY,aZ,lin];grind
theorem Wm (hp:0 < p.w):eX (kV p q) (kV p r) (kV p s)=0↔Ew p q r s=0:=by
 have e:=Af (kV p q) (kV p r) (kV p s) p.w p.w p.w
 rw[wo,wo,wo,Wn]at e
 have hne:=bD (bD (dY hp) (dY hp)) (dY hp)
 exact jm hne (bD (by decide:(-4:Int)≠0) hne) e.symm
theorem XD (x p q:T3):mG (iU x p) (iU x p)*(q.w*q.w) - mG (iU x q) (iU x q)*(p.w*p.w)=x.w*mY x (kV p q):=by
 simp only[mG,iU,mY,kV,qZ,mK,su,aZ];grind
theorem TY {o:T3} (ho:o.w≠0):O1 o p s=true↔mY o (kV p s)=0:=by
 unfold O1
 rw[decide_eq_true_eq,XD]
 constructor
 ·intro h;rcases Int.mul_eq_zero.1 h with h | h
  ·exact absurd h ho
  ·exact h
 ·intro h;rw[h,Int.mul_zero]
theorem Pq.same {p:T3} (h:0 < p.w):Pq p p:=⟨Qq.refl p,h,h⟩
theorem aae (hp:0 < p.w) (hq:0 < q.w) (hr:0 < r.w) (h:iY p q r=false):(vR p q r).w≠0:=by
 intro e
 have e1:(vR p q r).w*(p.w*p.w)=(lin p (oJ (aN p q))).x*(lin p (oJ (aN p r))).y - (lin p (oJ (aN p q))).y*(lin p (oJ (aN p r))).x:=by
  rw[<- wo,<- wo];simp only[vR,aM,aZ];grind
 rw[e,Int.zero_mul]at e1
 have e2:jY (aN p q) (aN p r)*(4*(p.w*p.w)*((aN p q).w*(aN p r).w))=0:=by
  rw[e1];simp only[lin,oJ,jY];grind
 have hne:4*(p.w*p.w)*((aN p q).w*(aN p r).w)≠0:=bD (bD (by decide) (bD (dY hp) (dY hp))) (bD (bD (dY hp) (dY hq)) (bD (dY hp) (dY hr)))
 rcases Int.mul_eq_zero.1 e2 with h2 | h2
 ·rw[qG.2 h2]at h;cases h
 ·exact hne h2
theorem VR (hp:0 < p.w) (hq:0 < q.w) (hr:0 < r.w) (hs:0 < s.w):Ew p q r s=0↔Kn p q r s=true:=by
 have hd:Ew p q r s=yD (aN p q) (aN p r) (aN p s):=rfl
 have uw:(aN p q).w≠0:=bD (dY hp) (dY hq)
 have vw:(aN p r).w≠0:=bD (dY hp) (dY hr)
 have sw:(aN p s).w≠0:=bD (dY hp) (dY hs)
 unfold Kn
 cases h1:cB p q with
 | true=>simp only[Bool.true_or,if_true,iff_true];rw[hd,yD,Av (qE h1),KN]
 | false =>
 cases h2:cB p r with
 | true=>simp only[Bool.or_true,Bool.true_or,if_true,iff_true];rw[hd,yD,Av (qE h2),um,KN]
 | false =>
 cases h3:cB p s with
 | true=>simp only[Bool.or_true,Bool.true_or,if_true,iff_true];rw[hd,yD,Av (qE h3),um,um,KN]
 | false =>
 cases h4:cB q r with
 | true=>simp only[Bool.or_true,Bool.true_or,if_true,iff_true];rw[hd,yD];exact yx (bD (dY hr) (dY hr)) (Au (yG h4))
 | false =>
 cases h5:cB q s with
 | true=>simp only[Bool.or_true,Bool.true_or,if_true,iff_true];rw[hd,yD,um,um];exact yx (bD (dY hq) (dY hq)) (Au (yG h5).symm)
 | false =>
 cases h6:cB r s with
 | true=>simp only[Bool.or_true,if_true,iff_true];rw[hd,yD,um];exact yx (bD (dY hs) (dY hs)) (Au (yG h6))
 | false =>
 simp only[Bool.or_false,Bool.false_eq_true,if_false]
 have n1:=yL h1
 have n2:=yL h2
 have n3:=yL h3
 have n4:=Ji hp h4
 have n5:=Ji hp h5
 have n6:=Ji hp h6
 cases ca:iY p q r with
 | true =>
  simp only[Bool.true_or,if_true,Bool.true_and]
  have c1:=qG.1 ca
  rw[hd,caseA c1,qG]
  have k:=Aj (A:=aN p r) (B:=dif (aN p r) (aN p q)) (DT _ _ _ (zX _) (zG c1)) n2 (Uu n4)
  exact jm (by decide:(1:Int)≠0) (bD sw k) (by grind)
 | false =>
 have k1:jY (aN p q) (aN p r)≠0:=fun e=>by rw[qG.2 e]at ca;cases ca
 cases cb:iY p q s with
 | true =>
  simp only[Bool.or_true,Bool.true_or,if_true,Bool.false_and,Bool.false_eq_true,iff_false]
  have c1:=qG.1 cb
  rw[hd,aac c1]
  have k:=Aj (A:=aN p s) (B:=dif (aN p q) (aN p s)) (DT _ _ _ (zG c1) (zX _)) n3 n5
  exact bD (bD vw k1) k
 | false =>
 cases cc:iY p r s with
 | true =>
  simp only[Bool.or_true,Bool.true_or,if_true,Bool.false_and,Bool.false_eq_true,iff_false]
  have c1:=qG.1 cc
  rw[hd,aad c1]
  have k:=Aj (A:=aN p s) (B:=dif (aN p r) (aN p s)) (DT _ _ _ (zG c1) (zX _)) n3 n6
  exact bD (bD uw k1) k
 | false =>
 cases cd:iY q r s with
 | true =>
  simp only[Bool.or_true,if_true,Bool.false_and,Bool.false_eq_true,iff_false]
  have c1:=(Pv hp).1 cd
  intro h0
  rw[hd]at h0
  have e1:=XM (aN p q) (aN p r) (aN p s)
  rw[h0,c1,Int.mul_zero,Int.mul_zero,Int.add_zero]at e1
  have e2:=XO (U:=aN p q) (aN p r).w (aN p s).w c1
  rw[<- e1,Int.mul_zero]at e2
  have kx:=Aj (zG c1) n5 n4
  have ku:jY (aN p q) (dif (aN p q) (aN p r))≠0:=by
   have:jY (aN p q) (dif (aN p q) (aN p r))=(aN p q).w*jY (aN p q) (aN p r):=by simp only[jY,dif];grind
   rw[this];exact bD uw k1
  generalize hX:dif (aN p q) (aN p s)=X at *
  generalize hY:dif (aN p q) (aN p r)=Y at *
  have kz:(aN p r).w*inn X Y - (aN p s).w*inn Y Y=inn Y ⟨(aN p r).w*X.x - (aN p s).w*Y.x,(aN p r).w*X.y - (aN p s).w*Y.y,1⟩:=by simp only[inn];grind
  have kd:((aN p r).w*X.x - (aN p s).w*Y.x)=(aN p q).w*(dif (aN p r) (aN p s)).x/\((aN p r).w*X.y - (aN p s).w*Y.y)=(aN p q).w*(dif (aN p r) (aN p s)).y:=by
   rw[<- hX,<- hY];simp only[dif];constructor<;>grind
  have kc:jY Y ⟨(aN p r).w*X.x - (aN p s).w*Y.x,(aN p r).w*X.y - (aN p s).w*Y.y,1⟩=0:=Uq _ _ c1
  have kn:=Aj kc n4 (by
   rw[kd.1,kd.2]
   rcases n6 with n6 | n6
   ·exact .inl (bD uw n6)
   ·exact .inr (bD uw n6))
  rw[<- kz]at kn
  exact bD (bD ku kx) kn e2.symm
 | false =>
  simp only[Bool.or_false,Bool.false_eq_true,if_false]
  have hw:=aae hp hq hr ca
  have hok:jU p q r=true:=by
   cases h:jU p q r with
   | true=>rfl
   | false=>exact absurd ((Fu (Pq.same hp) (Pq.same hq) (Pq.same hr)).2 h) hw
  have hP:=Pq.cen (Pq.same hp) (Pq.same hq) (Pq.same hr) hok
  rw[nH,if_pos hok,TY (dY hP.v0),<- Wm hp]
  have hq2:Qq (vR p q r) (Um p q r):=(Qq.Ux (Kq hw) rfl).symm.trans hP.q
  obtain⟨a,b,ha,hb,e⟩:=hq2
  have f:=FZ (vR p q r) (kV p s) a 1
  rw[e,FZ]at f
  exact jm (bD ha (by decide:(1:Int)≠0)) (bD hb (by decide:(1:Int)≠0)) f.symm
end
theorem aa7 {u v u' v' u'' v'' u3 v3:T3} (h:Pq u v) (j:Pq u' v') (i:Pq u'' v'') (g:Pq u3 v3):(0 < kW (Ew u u' u'' u3))↔Kn v v' v'' v3=true:=by
 rw[ng,<- VR h.v0 j.v0 i.v0 g.v0]
 obtain⟨a,b,ha,hb,e⟩:=h.q
 obtain⟨c,d,hc,hd,f⟩:=j.q
 obtain⟨x,y,hx,hy,k⟩:=i.q
 obtain⟨z,t,hz,ht,m⟩:=g.q
 have n:=WV u u' u'' u3 a c x z
 rw[e,f,k,m,WV]at n
 exact jm (bD (bD (bD (bD ha hc) (bD ha hc)) (bD (bD ha hx) (bD ha hx))) (bD (bD ha hz) (bD ha hz))) (bD (bD (bD (bD hb hd) (bD hb hd)) (bD (bD hb hy) (bD hb hy))) (bD (bD hb ht) (bD hb ht))) n.symm
end Go.Proofs.YtmnfndpbblpjiabGreatDoor.Pu

/- The document's report, plainly, held against the program's. -/
namespace Go.Proofs.YtmnfndpbblpjiabGreatDoor.Pu
structure rM where
 P:T3
 L:RL
def l0:RL:=⟨t0,⟨0,0⟩⟩
def g0:rM:=⟨t0,l0⟩
def gF (A:List rM) (j:Nat):rM:=A[j]?.getD g0
def EP (A:List rM) (ins:List Int) (i:Nat):eY->rM
 | .inl (.inl (.inl (.inl (.inl ()))))=>⟨⟨inp ins i,inp ins (i+1),1⟩,l0⟩
 | .inl (.inl (.inl (.inl (.inr (a,b)))))=>⟨jE (hlf (gF A a).P (gF A b).P),l0⟩
 | .inl (.inl (.inl (.inr (a,b))))=>⟨t0,⟨(gF A a).P,iU (gF A a).P (gF A b).P⟩⟩
 | .inl (.inl (.inr (.inl (p,l))))=>⟨t0,⟨(gF A p).P,(gF A l).L.d⟩⟩
 | .inl (.inl (.inr (.inr (p,l))))=>⟨t0,⟨(gF A p).P,⟨-(gF A l).L.d.y,(gF A l).L.d.x⟩⟩⟩
 | .inl (.inr (.inl (.inl (l,m))))=>⟨if jf (gF A l).L (gF A m).L then t0 else jE (jW (gF A l).L (gF A m).L),l0⟩
 | .inl (.inr (.inl (.inr (p,l))))=>⟨jE (iF (gF A p).P (gF A l).L),l0⟩
 | .inl (.inr (.inr (.inl (p,l))))=>⟨jE (zw (gF A p).P (jE (iF (gF A p).P (gF A l).L))),l0⟩
 | .inl (.inr (.inr (.inr (a,b,c))))=>⟨nH (gF A a).P (gF A b).P (gF A c).P,l0⟩
 | .inr _=>g0
def Dm (A:List rM):eY->Bool
 | .inl (.inl (.inl (.inl _)))=>false
 | .inl (.inl (.inl (.inr (a,b))))=>cB (gF A a).P (gF A b).P
 | .inl (.inl (.inr _))=>false
 | .inl (.inr (.inl (.inl (l,m))))=>jf (gF A l).L (gF A m).L
 | .inl (.inr (.inl (.inr _)))=>false
 | .inl (.inr (.inr (.inl _)))=>false
 | .inl (.inr (.inr (.inr (a,b,c))))=>!jU (gF A a).P (gF A b).P (gF A c).P
 | .inr _=>false
def xL (A:List rM):eY->Bool
 | .inl _=>false
 | .inr (.inl (.inl (.inl (.inl (a,b)))))=>cB (gF A a).P (gF A b).P
 | .inr (.inl (.inl (.inl (.inr (a,b,c)))))=>iY (gF A a).P (gF A b).P (gF A c).P
 | .inr (.inl (.inl (.inr (a,b,c))))=>decide (0 < jK (iU (gF A a).P (gF A b).P) (iU (gF A a).P (gF A c).P))
 | .inr (.inl (.inr (.inl (a,b,c))))=>I9 (gF A a).P (gF A b).P (gF A c).P
 | .inr (.inl (.inr (.inr (a,b,c,d))))=>Kn (gF A a).P (gF A b).P (gF A c).P (gF A d).P
 | .inr (.inr (.inl (.inl (p,l))))=>VB (gF A p).P (gF A l).L
 | .inr (.inr (.inl (.inr (l,m))))=>jf (gF A l).L (gF A m).L
 | .inr (.inr (.inr (.inl (l,m))))=>decide (mG (gF A l).L.d (gF A m).L.d=0)
 | .inr (.inr (.inr (.inr (l,m,n))))=>Mj (gF A l).L (gF A m).L (gF A n).L
def kI (ins:List Int):List eY->Nat->Nat->List rM->ByteArray->ByteArray
 | [],_,_,_,s=>s
 | c :: r,k,i,A,s =>
  if eT c=63 then kI ins r (k+1) i (A++[g0]) (s++⟨#[if xL A c then 49 else 48]⟩)
  else if Dm A c then s++⟨#[uO c]⟩++dec (k:Int)
  else kI ins r (k+1) (i+iZ c) (A++[EP A ins i c]) s
structure IX (C:List eY) (D:List T3) (A:List rM):Prop where
 l:D.length=C.length
 a:A.length=C.length
 p:∀ j,rJ C j->Pq (th D j) (gF A j).P
 n:∀ j,nQ C j->Lq (th D j) (gF A j).L
theorem wZ {A:List rM} {v:rM} {j:Nat} (h:j < A.length):gF (A++[v]) j=gF A j:=by simp[gF,List.getElem?_append_left h]
theorem H9 (A:List rM) (v:rM):gF (A++[v]) A.length=v:=by simp[gF]
section
variable {C:List eY} {D:List T3} {A:List rM}
theorem IX.old (h:IX C D A) {c:eY} {v:T3} {t:rM} (hP:eT c=80->Pq v t.P) (hL:eT c=76->Lq v t.L):IX (C++[c]) (D++[v]) (A++[t]):=by
 have e1:th (D++[v]) C.length=v:=by rw[<- h.l];exact Lu _ _
 have e2:gF (A++[t]) C.length=t:=by rw[<- h.a];exact H9 _ _
 refine⟨by simp[h.l],by simp[h.a],fun j hj=>?_,fun j hj=>?_⟩
 ·rcases Gi hj with hj | ⟨rfl,hc⟩
  ·rw[zO (by rw[h.l];exact hj.1),wZ (by rw[h.a];exact hj.1)];exact h.p j hj
  ·rw[e1,e2];exact hP hc
 ·rcases Gh hj with hj | ⟨rfl,hc⟩
  ·rw[zO (by rw[h.l];exact hj.1),wZ (by rw[h.a];exact hj.1)];exact h.n j hj
  ·rw[e1,e2];exact hL hc
theorem IX.ask (h:IX C D A) {c:eY} (hc:eT c=63):IX (C++[c]) (D++[t0]) (A++[g0]):=h.old (fun e=>by omega) (fun e=>by omega)
theorem MH {c:eY} (h:eT c=80) (m:T3):aM m (rR m c)=aM m (kL m.w):=by rw[rR,if_pos h]
theorem P7 {c:eY} (h:eT c=76) (m:T3):aM m (rR m c)=m:=by rw[rR,if_neg (by omega),qg]
theorem kJ {ins:List Int} {c:eY} {r:List eY} {k i:Nat} {s:ByteArray} (h:eT c=63):kI ins (c :: r) k i A s=kI ins r (k+1) i (A++[g0]) (s++⟨#[if xL A c then 49 else 48]⟩):=by simp[kI,h]
theorem wQ {ins:List Int} {c:eY} {r:List eY} {k i:Nat} {s:ByteArray} (h:eT c≠63) (h0:Dm A c=true):kI ins (c :: r) k i A s=s++⟨#[uO c]⟩++dec (k:Int):=by simp[kI,h,h0]
theorem jg {ins:List Int} {c:eY} {r:List eY} {k i:Nat} {s:ByteArray} (h:eT c≠63) (h0:Dm A c=false):kI ins (c :: r) k i A s=kI ins r (k+1) (i+iZ c) (A++[EP A ins i c]) s:=by simp[kI,h,h0]
end
theorem qK {p:Prop} [Decidable p] {b:Bool} (h:p↔b=true):(if p then (49:UInt8) else 48)=if b then 49 else 48:=by
 cases b with
 | true=>rw[if_pos (h.2 rfl)];rfl
 | false=>rw[if_neg (fun e=>by have:=h.1 e;cases this)];rfl
theorem VP (ins:List Int) (r:List eY):∀ (C:List eY) (W:List Nat) (D:List T3) (A:List rM) (k i:Nat) (s:ByteArray),IX C D A->Wf C W r->kI ins r k i A s=rG ins r k i D s:=by
 induction r with
 | nil=>intros;rfl
 | cons c r ih =>
  intro C W D A k i s h hwf
  obtain⟨hok,-,hwr⟩:=hwf
  cases c using eY.el with
  | pt =>
   rw[jg (by decide) rfl,dU (by decide) (by simp[iW])]
   refine ih _ _ _ _ _ _ _ (h.old (fun _=>?_) (fun e=>by cases e)) hwr
   rw[MH rfl]
   have e1:kL (1:Int)=1:=by decide
   have e2:aM (iA D ins i .pt) (kL (iA D ins i .pt).w)=iA D ins i .pt:=by show aM _ (kL 1)=_;rw[e1,qg]
   rw[e2]
   exact⟨Qq.refl _,(show (0:Int) < 1 by decide),(show (0:Int) < 1 by decide)⟩
  | mid a b =>
   rw[jg (by simp[eT]) rfl,dU (by simp[eT]) (by simp[iW])]
   refine ih _ _ _ _ _ _ _ (h.old (fun e=>?_) (fun e=>by cases e)) hwr
   rw[MH rfl]
   exact Pq.mid (h.p _ hok.1) (h.p _ hok.2)
  | par p l =>
   rw[jg (by simp[eT]) rfl,dU (by simp[eT]) (by simp[iW])]
   refine ih _ _ _ _ _ _ _ (h.old (fun e=>by cases e) (fun e=>?_)) hwr
   rw[P7 rfl]
   exact Lq.par (h.p _ hok.1) (h.n _ hok.2)
  | pK p l =>
   rw[jg (by simp[eT]) rfl,dU (by simp[eT]) (by simp[iW])]
   refine ih _ _ _ _ _ _ _ (h.old (fun e=>by cases e) (fun e=>?_)) hwr
   rw[P7 rfl]
   exact Lq.pK (h.p _ hok.1) (h.n _ hok.2)
  | foot p l =>
   rw[jg (by simp[eT]) rfl,dU (by simp[eT]) (by simp[iW])]
   refine ih _ _ _ _ _ _ _ (h.old (fun e=>?_) (fun e=>by cases e)) hwr
   rw[MH rfl]
   exact Pq.foot (h.p _ hok.1) (h.n _ hok.2)
  | mirror p l =>
   rw[jg (by simp[eT]) rfl,dU (by simp[eT]) (by simp[iW])]
   refine ih _ _ _ _ _ _ _ (h.old (fun e=>?_) (fun e=>by cases e)) hwr
   rw[MH rfl]
   exact Pq.mir (h.p _ hok.1) (h.n _ hok.2)
  | line a b =>
   have hst:iW (iA D ins i (.line a b)) (.line a b)=0↔cB (gF A a).P (gF A b).P=true:=Na (h.p _ hok.1) (h.p _ hok.2)
   cases h0:cB (gF A a).P (gF A b).P with
   | true =>
    rw[wQ (c:=.line a b) (by simp[eT]) h0,qy (by simp[eT]) (hst.2 h0)]
   | false =>
    rw[jg (c:=.line a b) (by simp[eT]) h0,dU (by simp[eT]) (fun e=>by rw[hst.1 e]at h0;cases h0)]
    refine ih _ _ _ _ _ _ _ (h.old (fun e=>by cases e) (fun e=>?_)) hwr
    rw[P7 rfl]
    exact Lq.line (h.p _ hok.1) (h.p _ hok.2) h0
  | meet l m =>
   have hst:iW (iA D ins i (.meet l m)) (.meet l m)=0↔jf (gF A l).L (gF A m).L=true:=qc (h.n _ hok.1) (h.n _ hok.2)
   cases h0:jf (gF A l).L (gF A m).L with
   | true =>
    rw[wQ (c:=.meet l m) (by simp[eT]) h0,qy (by simp[eT]) (hst.2 h0)]
   | false =>
    rw[jg (c:=.meet l m) (by simp[eT]) h0,dU (by simp[eT]) (fun e=>by rw[hst.1 e]at h0;cases h0)]
    refine ih _ _ _ _ _ _ _ (h.old (fun e=>?_) (fun e=>by cases e)) hwr
    rw[MH rfl]
    have e2:(EP A ins i (.meet l m)).P=jE (jW (gF A l).L (gF A m).L):=by show (if _ then _ else _)=_;rw[if_neg (by rw[h0];decide)]
    rw[e2]
    exact Pq.meet (h.n _ hok.1) (h.n _ hok.2) h0
  | dV a b c =>
   have hst:iW (iA D ins i (.dV a b c)) (.dV a b c)=0↔jU (gF A a).P (gF A b).P (gF A c).P=false:=Fu (h.p _ hok.1) (h.p _ hok.2.1) (h.p _ hok.2.2)
   cases h0:jU (gF A a).P (gF A b).P (gF A c).P with
   | false =>
    rw[wQ (by simp[eT]) (by show (!jU _ _ _)=true;rw[h0];rfl),qy (by simp[eT]) (hst.2 h0)]
   | true =>
    rw[jg (by simp[eT]) (by show (!jU _ _ _)=false;rw[h0];rfl),dU (by simp[eT]) (fun e=>by rw[hst.1 e]at h0;cases h0)]
    refine ih _ _ _ _ _ _ _ (h.old (fun e=>?_) (fun e=>by cases e)) hwr
    rw[MH rfl]
    have e2:(EP A ins i (.dV a b c)).P=Um (gF A a).P (gF A b).P (gF A c).P:=by show nH _ _ _=_;rw[nH,if_pos h0]
    rw[e2]
    exact Pq.cen (h.p _ hok.1) (h.p _ hok.2.1) (h.p _ hok.2.2) h0
  | same a b =>
   have ha:(0 < kg D (.same a b))↔xL A (.same a b)=true:=Y2 (h.p _ hok.1) (h.p _ hok.2)
   rw[kJ (by simp[eT]),fJ (by simp[eT]),qK ha]
   exact ih _ _ _ _ _ _ _ (h.ask rfl) hwr
  | col a b c =>
   have ha:(0 < kg D (.col a b c))↔xL A (.col a b c)=true:=aa6 (h.p _ hok.1) (h.p _ hok.2.1) (h.p _ hok.2.2)
   rw[kJ (by simp[eT]),fJ (by simp[eT]),qK ha]
   exact ih _ _ _ _ _ _ _ (h.ask rfl) hwr
  | Iw a b c =>
   have ha:(0 < kg D (.Iw a b c))↔xL A (.Iw a b c)=true:=aa4 (h.p _ hok.1) (h.p _ hok.2.1) (h.p _ hok.2.2)
   rw[kJ (by simp[eT]),fJ (by simp[eT]),qK ha]
   exact ih _ _ _ _ _ _ _ (h.ask rfl) hwr
  | con a b c d =>
   have ha:(0 < kg D (.con a b c d))↔xL A (.con a b c d)=true:=aa7 (h.p _ hok.1) (h.p _ hok.2.1) (h.p _ hok.2.2.1) (h.p _ hok.2.2.2)
   rw[kJ (by simp[eT]),fJ (by simp[eT]),qK ha]
   exact ih _ _ _ _ _ _ _ (h.ask rfl) hwr
  | IB l m =>
   have ha:(0 < kg D (.IB l m))↔xL A (.IB l m)=true:=abd (h.n _ hok.1) (h.n _ hok.2)
   rw[kJ (by simp[eT]),fJ (by simp[eT]),qK ha]
   exact ih _ _ _ _ _ _ _ (h.ask rfl) hwr
  | cc l m n =>
   have ha:(0 < kg D (.cc l m n))↔xL A (.cc l m n)=true:=acp (h.n _ hok.1) (h.n _ hok.2.1) (h.n _ hok.2.2)
   rw[kJ (by simp[eT]),fJ (by simp[eT]),qK ha]
   exact ih _ _ _ _ _ _ _ (h.ask rfl) hwr
  | on p l =>
   have ha:(0 < kg D (.on p l))↔xL A (.on p l)=true:=Y1 (h.p _ hok.1).q (h.n _ hok.2)
   rw[kJ (by simp[eT]),fJ (by simp[eT]),qK ha]
   exact ih _ _ _ _ _ _ _ (h.ask rfl) hwr
  | Iy a b c =>
   have ha:(0 < kg D (.Iy a b c))↔xL A (.Iy a b c)=true:=(aa5 (h.p _ hok.1) (h.p _ hok.2.1) (h.p _ hok.2.2)).trans (by show _↔decide _=true;rw[decide_eq_true_eq])
   rw[kJ (by simp[eT]),fJ (by simp[eT]),qK ha]
   exact ih _ _ _ _ _ _ _ (h.ask rfl) hwr
  | IC l m =>
   have ha:(0 < kg D (.IC l m))↔xL A (.IC l m)=true:=(abe (h.n _ hok.1) (h.n _ hok.2)).trans (by show _↔decide _=true;rw[decide_eq_true_eq])
   rw[kJ (by simp[eT]),fJ (by simp[eT]),qK ha]
   exact ih _ _ _ _ _ _ _ (h.ask rfl) hwr
theorem za (ins:List Int) (r:List eY) (hw:Wf [] [] r):kI ins r 0 0 [] ⟨#[]⟩=rG ins r 0 0 [] ⟨#[]⟩ :=
 VP ins r [] [] [] [] 0 0 _ ⟨rfl,rfl,fun j h=>by have:=h.1;simp at this,fun j h=>by have:=h.1;simp at this⟩ hw
end Go.Proofs.YtmnfndpbblpjiabGreatDoor.Pu

/- Codes, plainly: what is left by Shrink is right, is left as it is, and tells the same. -/
namespace Go.Proofs.YtmnfndpbblpjiabGreatDoor.Pu
def sh:List Stp->List Stp × (Nat->Bool)
 | []=>([],fun _=>false)
 | t :: l=>if pN t (sh l).2 then (t :: (sh l).1,iB t (sh l).2) else sh l
theorem Zb {t:Stp} {l:List Stp} (h:pN t (sh l).2=true):sh (t :: l)=(t :: (sh l).1,iB t (sh l).2):=by simp[sh,h]
theorem abk {t:Stp} {l:List Stp} (h:pN t (sh l).2=false):sh (t :: l)=sh l:=by simp[sh,h]
theorem abw (l:List Stp):∀ d,d<=l.length->∃ nd,rD l (l.length - d) nd (sh (l.drop (l.length - d))).2:=by
 intro d
 induction d with
 | zero=>intro _;exact⟨_,by simpa [sh] using rD.start l⟩
 | succ d ih =>
  intro hd
  obtain⟨nd,h⟩:=ih (by omega)
  have hk:l.length - (d+1) < l.length:=by omega
  have e1:l.length - d=l.length - (d+1)+1:=by omega
  rw[e1]at h
  rw[List.drop_eq_getElem_cons hk]
  cases hp:pN l[l.length - (d+1)] (sh (l.drop (l.length - (d+1)+1))).2 with
  | true=>exact⟨_,by rw[Zb hp];exact h.yes hk hp⟩
  | false=>exact⟨_,by rw[abk hp];exact h.no hk hp⟩
def YT (regs ins:Nat):(Nat->Bool)->List Stp->Prop
 | _,[]=>True
 | M,t :: l=>eF t regs ins=true/\(∀ r∈readsOf t,r < regs/\M r=true)/\YT regs ins (if t.op<=5 then upd t.x true M else M) l
theorem Og (l:List Stp) (k:Nat) (t:Stp) (regs ins:Nat):dI l k t regs ins=true↔eF t regs ins=true/\∀ r∈readsOf t,r < regs/\Set l k r=true:=by
 unfold dI Set
 simp[List.all_eq_true]
theorem SA {l:List Stp} {k:Nat} (hk:k < l.length):Set l (k+1)=if l[k].op<=5 then upd l[k].x true (Set l k) else Set l k:=by
 by_cases h:l[k].op<=5
 ·rw[if_pos h,Dz hk h];rfl
 ·rw[if_neg h,IZ hk h]
theorem RO (l:List Stp) (regs ins:Nat):∀ d,d<=l.length->((∀ j (h:j < l.length),l.length - d<=j->dI l j l[j] regs ins=true)↔YT regs ins (Set l (l.length - d)) (l.drop (l.length - d))):=by
 intro d
 induction d with
 | zero=>intro _;simp[YT];intro j h1 h2;omega
 | succ d ih =>
  intro hd
  have hk:l.length - (d+1) < l.length:=by omega
  have e1:l.length - d=l.length - (d+1)+1:=by omega
  have ih:=ih (by omega)
  rw[e1]at ih
  rw[List.drop_eq_getElem_cons hk]
  unfold YT
  rw[<- SA hk,<- ih,<- and_assoc,<- Og]
  constructor
  ·intro h;exact⟨h _ hk (Nat.le_refl _),fun j h1 h2=>h j h1 (by omega)⟩
  ·rintro⟨h1,h2⟩ j hj hd2
   by_cases e:j=l.length - (d+1)
   ·subst e;exact h1
   ·exact h2 j hj (by omega)
theorem Le (l:List Stp) (regs ins:Nat):(∀ j (h:j < l.length),dI l j l[j] regs ins=true)↔YT regs ins (fun _=>false) l:=by
 have:=RO l regs ins l.length (Nat.le_refl _)
 simp only[Nat.sub_self,Nat.zero_le,forall_const,List.drop_zero,zT]at this
 exact this
theorem Qb (l:List UInt8) (i:Nat):g ⟨l.toArray⟩ i=(l[i]?.getD 0).toNat:=by
 unfold g bt
 have hs:(⟨l.toArray⟩:ByteArray).size=l.length:=by simp[ByteArray.size]
 by_cases h:i < l.length
 ·rw[dif_pos (by rw[hs];exact h)]
  rw[List.getElem?_eq_getElem h]
  rfl
 ·rw[dif_neg (by rw[hs];exact h),List.getElem?_eq_none (by omega)]
  rfl
theorem P8 (q:List Stp):(q.flatMap wW).length=4*q.length:=by
 induction q with
 | nil=>rfl
 | cons t q ih=>simp[ih,wW];omega
theorem Uy (q:List Stp):∀ k (h:k < q.length) j,j < 4->(q.flatMap wW)[4*k+j]?=(wW q[k])[j]?:=by
 induction q with
 | nil=>intro k h;simp at h
 | cons t q ih =>
  intro k h j hj
  rw[List.flatMap_cons]
  have hl:(wW t).length=4:=rfl
  cases k with
  | zero=>rw[List.getElem?_append_left (by rw[hl];omega)];simp
  | succ k =>
   rw[List.getElem?_append_right (by rw[hl];omega),hl,show 4*(k+1)+j - 4=4*k+j by omega]
   rw[ih k (by simpa using h) j hj]
   rfl
theorem u8n {n:Nat} (h:n < 256):(UInt8.ofNat n).toNat=n:=UInt8.toNat_ofNat_of_lt' (by simpa using h)
section
variable {r i:Nat} {q:List Stp}
theorem xW:(⟨(joined r i q).toArray⟩:ByteArray).size=6+4*q.length:=by
 show ((joined r i q).toArray).size=_
 simp only[joined,List.size_toArray,List.length_append,P8,List.length_cons,List.length_nil]
theorem Gm:fI ⟨(joined r i q).toArray⟩=q.length:=by unfold fI;rw[xW];omega
theorem join_step (hs:∀ t∈q,Small t) {k:Nat} (hk:k < q.length):bV ⟨(joined r i q).toArray⟩ k=q[k]:=by
 have h0:=hs _ (List.getElem_mem hk)
 have key:∀ j,j < 4->g ⟨(joined r i q).toArray⟩ (6+4*k+j)=((wW q[k])[j]?.getD 0).toNat:=fun j hj=>by
  rw[Qb]
  unfold joined
  rw[List.getElem?_append_right (by simp;omega),show 6+4*k+j - List.length [82,85,UInt8.ofNat r,UInt8.ofNat i,UInt8.ofNat (q.length % 256),UInt8.ofNat (q.length / 256)]=4*k+j by simp;omega,Uy q k hk j hj]
 have k0:=key 0 (by omega)
 have k1:=key 1 (by omega)
 have k2:=key 2 (by omega)
 have k3:=key 3 (by omega)
 rw[Nat.add_zero]at k0
 unfold bV
 rw[k0,k1,k2,k3]
 obtain⟨a,b,c,d⟩:=h0
 cases hq:q[k] with
 | mk op x y z =>
  rw[hq]at a b c d
  simp[wW]
  exact⟨a,b,c,d⟩
theorem Ak (hs:∀ t∈q,Small t):steps ⟨(joined r i q).toArray⟩=q:=by
 apply List.ext_getElem
 ·rw[steps,bU,Gm]
 ·intro k h1 h2
  rw[jI]
  exact join_step hs h2
theorem xV (j:Nat) (hj:j < 6):g ⟨(joined r i q).toArray⟩ j=(([82,85,UInt8.ofNat r,UInt8.ofNat i,UInt8.ofNat (q.length % 256),UInt8.ofNat (q.length / 256)]:List UInt8)[j]?.getD 0).toNat:=by
 rw[Qb];unfold joined;rw[List.getElem?_append_left (by simpa using hj)]
theorem Qy (hr:r < 256):g ⟨(joined r i q).toArray⟩ 2=r:=by rw[xV 2 (by omega)];exact u8n hr
theorem JH (hi:i < 256):g ⟨(joined r i q).toArray⟩ 3=i:=by rw[xV 3 (by omega)];exact u8n hi
theorem JG (h1:1<=r) (h2:r<=128) (h3:i<=32) (hq:q.length<=2000):aW ⟨(joined r i q).toArray⟩=true:=by
 have e0:g ⟨(joined r i q).toArray⟩ 0=82:=by rw[xV 0 (by omega)];rfl
 have e1:g ⟨(joined r i q).toArray⟩ 1=85:=by rw[xV 1 (by omega)];rfl
 have e4:g ⟨(joined r i q).toArray⟩ 4=q.length % 256:=by rw[xV 4 (by omega)];exact u8n (by omega)
 have e5:g ⟨(joined r i q).toArray⟩ 5=q.length / 256:=by rw[xV 5 (by omega)];exact u8n (by omega)
 unfold aW
 rw[e0,e1,e4,e5,Qy (by omega),JH (by omega),xW]
 simp only[Bool.and_eq_true,decide_eq_true_eq]
 exact⟨⟨⟨⟨⟨⟨by omega,trivial,trivial⟩,h1⟩,h2⟩,h3⟩,by omega⟩,by omega⟩
theorem Qz (h1:1<=r) (h2:r<=128) (h3:i<=32) (hq:q.length<=2000) (hs:∀ t∈q,Small t) (ho:YT r i (fun _=>false) q):lU ⟨(joined r i q).toArray⟩=(0,0):=by
 have hr:=(Le q r i).2 ho
 refine KM (JG h1 h2 h3 hq) (fun j hj=>?_)
 rw[Gm]at hj
 rw[Ak hs,join_step hs hj,Qy (by omega),JH (by omega)]
 exact hr j hj
end
end Go.Proofs.YtmnfndpbblpjiabGreatDoor.Pu

/- Codes: what is wanted ahead of a step, against who set it. -/
import Derived.Test.YtmnfndpbblpjiabGreatDoorZx15
namespace Go.Proofs.YtmnfndpbblpjiabGreatDoor.Pu
def upd (r:Nat) (b:Bool) (W:Nat->Bool):Nat->Bool:=fun i=>if i=r then b else W i
def iB (t:Stp) (W:Nat->Bool):Nat->Bool :=
 if rz t.op then upd t.z true (if ry t.op then upd t.y true (upd t.x (!decide (t.op<=5)) W) else upd t.x (!decide (t.op<=5)) W)
 else (if ry t.op then upd t.y true (upd t.x (!decide (t.op<=5)) W) else upd t.x (!decide (t.op<=5)) W)
def pN (t:Stp) (W:Nat->Bool):Bool:=!decide (t.op<=5) || W t.x
theorem vK (t:Stp) (W:Nat->Bool) (r:Nat):iB t W r=true↔r∈readsOf t\/(W r=true/\¬ (t.op<=5/\r=t.x)):=by
 obtain⟨op,x,y,z⟩:=t
 unfold iB upd readsOf ry rz
 have h:op=0\/op=1\/op=2\/op=3\/op=4\/op=5\/5 < op:=by omega
 rcases h with rfl | rfl | rfl | rfl | rfl | rfl | h
 ·by_cases c:r=x<;>simp[c]
 ·by_cases c:r=x<;>simp[c]
 ·by_cases a:r=z<;>by_cases b:r=y<;>by_cases c:r=x<;>simp[a,b,c]<;>simp_all
 ·by_cases a:r=z<;>by_cases b:r=y<;>by_cases c:r=x<;>simp[a,b,c]<;>simp_all
 ·by_cases a:r=z<;>by_cases b:r=y<;>by_cases c:r=x<;>simp[a,b,c]<;>simp_all
 ·by_cases b:r=y<;>by_cases c:r=x<;>simp[b,c]<;>simp_all
 ·by_cases c:r=x<;>simp[c,show ¬ op=2 by omega,show ¬ op=3 by omega,show ¬ op=4 by omega,show ¬ op=5 by omega,show ¬ op<=5 by omega,show ¬ op<=4 by omega,show 6<=op by omega]
theorem Ni (l:List Stp) (k:Nat) (nd:List Bool) (r j:Nat):(lW l k nd r)[j]?=some true↔nd[j]?=some true\/(j < nd.length/\aI l r k=(j:Int)):=by
 unfold lW
 by_cases h:0<=aI l r k
 ·rw[if_pos h,List.getElem?_set]
  by_cases e:(aI l r k).toNat=j
  ·have:aI l r k=(j:Int):=by omega
   rw[if_pos e]
   by_cases hl:j < nd.length
   ·simp[hl,this]
   ·simp[e,hl]
  ·have:aI l r k≠(j:Int):=by omega
   rw[if_neg e]
   simp[this]
 ·rw[if_neg h]
  have:aI l r k≠(j:Int):=by omega
  simp[this]
theorem Nj (l:List Stp) (k:Nat) (rs:List Nat) (nd:List Bool) (j:Nat):(marks l k rs nd)[j]?=some true↔nd[j]?=some true\/(j < nd.length/\∃ r∈rs,aI l r k=(j:Int)):=by
 induction rs generalizing nd with
 | nil=>simp[marks]
 | cons r rs ih =>
  show (marks l k rs (lW l k nd r))[j]?=some true↔_
  rw[ih,Ni,Da]
  constructor
  ·rintro ((h | ⟨h1,h2⟩) | ⟨h1,r',h2,h3⟩)
   ·exact .inl h
   ·exact .inr ⟨h1,r,by simp,h2⟩
   ·exact .inr ⟨h1,r',by simp[h2],h3⟩
  ·rintro (h | ⟨h1,r',h2,h3⟩)
   ·exact .inl (.inl h)
   ·rcases List.mem_cons.1 h2 with rfl | h2
    ·exact .inl (.inr ⟨h1,h3⟩)
    ·exact .inr ⟨h1,r',h2,h3⟩
theorem JL (l:List Stp) (k:Nat) (nd:List Bool) (r j:Nat) (hj:k<=j):(lW l k nd r)[j]?=nd[j]?:=by
 unfold lW
 have:=om l r k
 split
 ·rw[List.getElem?_set,if_neg (by omega)]
 ·rfl
theorem Az (l:List Stp) (k:Nat) (rs:List Nat) (nd:List Bool) (j:Nat) (hj:k<=j):(marks l k rs nd)[j]?=nd[j]?:=by
 induction rs generalizing nd with
 | nil=>rfl
 | cons r rs ih=>show (marks l k rs (lW l k nd r))[j]?=_;rw[ih,JL _ _ _ _ _ hj]
theorem Co (l:List Stp) (k:Nat) (nd:List Bool) (j:Nat) (hj:k < j):(dQ l k nd)[j]?=nd[j]?:=by
 unfold dQ
 split
 ·rw[Az _ _ _ _ _ (by omega),List.getElem?_set,if_neg (by omega)]
 ·rfl
theorem Cn (l:List Stp) (k:Nat) (nd:List Bool) (j:Nat) (hj:k<=j):(dP l k nd)[j]?=nd[j]?:=by
 induction k generalizing nd with
 | zero=>rfl
 | succ k ih=>show (dP l k (dQ l k nd))[j]?=_;rw[ih _ (by omega),Co _ _ _ _ (by omega)]
structure rD (l:List Stp) (k:Nat) (nd:List Bool) (W:Nat->Bool):Prop where
 len:nd.length=l.length
 ahead:∀ j,j < k->(nd[j]?=some true↔∃ r,W r=true/\aI l r k=(j:Int))
 fin:dP l k nd=aV l
theorem rD.start (l:List Stp):rD l l.length (List.replicate l.length false) (fun _=>false) :=
 ⟨by simp,fun j hj=>by simp[hj],rfl⟩
theorem rD.isn {l:List Stp} {k:Nat} {nd:List Bool} {W:Nat->Bool} (h:rD l (k+1) nd W) (hk:k < l.length):K7 l k nd=pN l[k] W:=by
 rw[JF hk (by rw[h.len];exact hk)]
 have ha:=h.ahead k (by omega)
 rw[List.getElem?_eq_getElem (by rw[h.len];exact hk)]at ha
 unfold pN
 by_cases h5:l[k].op<=5
 ·simp only[h5,decide_true,Bool.not_true,Bool.false_or,show ¬ 6<=l[k].op by omega,decide_false,Bool.or_false]
  rw[Bool.eq_iff_iff]
  constructor
  ·intro hn
   obtain⟨r,h1,h2⟩:=ha.1 (by rw[hn])
   by_cases e:l[k].x=r
   ·rw[e];exact h1
   ·rw[fZ hk (fun h=>e h.2)]at h2
    have:=om l r k
    omega
  ·intro hw
   have:=ha.2 ⟨l[k].x,hw,oZ hk ⟨h5,rfl⟩⟩
   simpa using this
 ·simp[h5,show 6<=l[k].op by omega]
theorem rD.val {l:List Stp} {k:Nat} {nd:List Bool} {W:Nat->Bool} (h:rD l (k+1) nd W) (hk:k < l.length):(aV l)[k]?=some (pN l[k] W):=by
 have hi:=h.isn hk
 rw[<- h.fin]
 show (dP l k (dQ l k nd))[k]?=_
 rw[Cn _ _ _ _ (Nat.le_refl k)]
 have hl:k < nd.length:=by rw[h.len];exact hk
 cases hp:K7 l k nd with
 | true =>
  rw[nu hk hp,Az _ _ _ _ _ (Nat.le_refl k),<- hi,hp]
  simp[hl]
 | false =>
  rw[sI hp,<- hi,hp]
  rw[JF hk hl]at hp
  simp at hp
  simp[hl,hp.1]
theorem rD.yes {l:List Stp} {k:Nat} {nd:List Bool} {W:Nat->Bool} (h:rD l (k+1) nd W) (hk:k < l.length) (hp:pN l[k] W=true):rD l k (dQ l k nd) (iB l[k] W):=by
 have hi:=h.isn hk
 rw[hp]at hi
 refine⟨by rw[qO];exact h.len,fun j hj=>?_,h.fin⟩
 rw[nu hk hi,Nj,List.getElem?_set,if_neg (by omega),h.ahead j (by omega)]
 have hl:j < (nd.set k true).length:=by simp;rw[h.len];omega
 constructor
 ·rintro (⟨r,h1,h2⟩ | ⟨_,r,h1,h2⟩)
  ·by_cases e:l[k].op<=5/\l[k].x=r
   ·rw[oZ hk e]at h2;omega
   ·rw[fZ hk e]at h2
    exact⟨r,(vK _ _ _).2 (.inr ⟨h1,fun h=>e ⟨h.1,h.2.symm⟩⟩),h2⟩
  ·exact⟨r,(vK _ _ _).2 (.inl h1),h2⟩
 ·rintro⟨r,h1,h2⟩
  rcases (vK _ _ _).1 h1 with h1 | ⟨h1,h3⟩
  ·exact .inr ⟨hl,r,h1,h2⟩
  ·exact .inl ⟨r,h1,by rw[fZ hk (fun h=>h3 ⟨h.1,h.2.symm⟩)];exact h2⟩
theorem rD.no {l:List Stp} {k:Nat} {nd:List Bool} {W:Nat->Bool} (h:rD l (k+1) nd W) (hk:k < l.length) (hp:pN l[k] W=false):rD l k (dQ l k nd) W:=by
 have hi:=h.isn hk
 rw[hp]at hi
 simp[pN]at hp
 refine⟨by rw[qO];exact h.len,fun j hj=>?_,h.fin⟩
 rw[sI hi,h.ahead j (by omega)]
 have hr:∀ r,W r=true->aI l r (k+1)=aI l r k:=fun r hr=>fZ hk (fun h=>by rw[h.2]at hp;simp[hr]at hp)
 constructor
 ·rintro⟨r,h1,h2⟩;exact⟨r,h1,by rw[<- hr r h1];exact h2⟩
 ·rintro⟨r,h1,h2⟩;exact⟨r,h1,by rw[hr r h1];exact h2⟩
def kP (l:List Stp) (k:Nat):List Bool:=List.replicate k false++(aV l).drop k
theorem BR (l:List Stp) (k:Nat) (hk:k<=l.length):(kP l k).length=l.length:=by simp[kP,lX];omega
theorem EM (l:List Stp):kP l l.length=List.replicate l.length false:=by
 unfold kP;rw[List.drop_of_length_le (by rw[lX];exact Nat.le_refl _)];simp
theorem Ib (l:List Stp):kP l 0=aV l:=by simp[kP]
theorem Ia {l:List Stp} {k:Nat} {b:Bool} (_hk:k < l.length) (h:(aV l)[k]?=some b):(kP l (k+1)).set k b=kP l k:=by
 apply List.ext_getElem?
 intro j
 have hn:(aV l).length=l.length:=lX l
 unfold kP
 rw[List.getElem?_set]
 by_cases e:k=j
 ·subst e
  rw[if_pos rfl]
  simp[List.getElem?_append,h];omega
 ·rw[if_neg e]
  by_cases hj:j < k
  ·simp[List.getElem?_append,hj,show j < k+1 by omega]
  ·simp[List.getElem?_append,hj,show ¬ j < k+1 by omega]
   congr 1
   omega
def wW (t:Stp):List UInt8:=[UInt8.ofNat t.op,UInt8.ofNat t.x,UInt8.ofNat t.y,UInt8.ofNat t.z]
def cO (l:List Stp) (nd:List Bool):Nat->List Stp
 | 0=>[]
 | k+1=>if nd[k]?.getD false then cO l nd k++[l[k]?.getD ⟨0,0,0,0⟩] else cO l nd k
theorem JJ {l:List Stp} {nd:List Bool} {k:Nat} (h:k < nd.length) (hl:k < l.length) (hb:nd[k]=true):cO l nd (k+1)=cO l nd k++[l[k]]:=by simp[cO,h,hb,hl]
theorem M0 {l:List Stp} {nd:List Bool} {k:Nat} (h:k < nd.length) (hb:nd[k]=false):cO l nd (k+1)=cO l nd k:=by simp[cO,h,hb]
theorem Al (l:List Stp) (nd:List Bool) (k:Nat):(cO l nd k).length=iT nd k:=by
 induction k with
 | zero=>rfl
 | succ k ih=>simp only[cO,iT];split<;>simp[ih]
theorem JI {l:List Stp} {nd:List Bool} {k:Nat} (hk:k<=l.length):∀ t∈cO l nd k,t∈l:=by
 induction k with
 | zero=>intro t ht;cases ht
 | succ k ih =>
  intro t ht
  have hl:k < l.length:=by omega
  simp only[cO]at ht
  split at ht
  ·rcases List.mem_append.1 ht with ht | ht
   ·exact ih (by omega) t ht
   ·simp[hl]at ht;subst ht;exact List.getElem_mem hl
  ·exact ih (by omega) t ht
def joined (r i:Nat) (q:List Stp):List UInt8:=[82,85,UInt8.ofNat r,UInt8.ofNat i,UInt8.ofNat (q.length % 256),UInt8.ofNat (q.length / 256)]++q.flatMap wW
theorem aag {s:ByteArray} {a:Nat} (h:a+4<=s.size):s.extract a (a+4)=⟨[UInt8.ofNat (g s a),UInt8.ofNat (g s (a+1)),UInt8.ofNat (g s (a+2)),UInt8.ofNat (g s (a+3))].toArray⟩:=by
 have h0:a < s.size:=by omega
 have h1:a+1 < s.size:=by omega
 have h2:a+2 < s.size:=by omega
 have h3:a+3 < s.size:=by omega
 rw[dB h0,dB h1,dB h2,dB h3]
 simp only[UInt8.ofNat_toNat]
 apply ByteArray.ext
 rw[ByteArray.data_extract]
 apply Array.ext
 ·have:s.data.size=s.size:=rfl
  simp;omega
 ·intro i h1' h2'
  have hi:i < 4:=by simpa using h2'
  match i,hi with
  | 0,_=>simp;rfl
  | 1,_=>simp;rfl
  | 2,_=>simp;rfl
  | 3,_=>simp;rfl
theorem xK (x y:List UInt8):(⟨x.toArray⟩:ByteArray)++(⟨y.toArray⟩:ByteArray)=⟨(x++y).toArray⟩:=by
 apply ByteArray.ext
 rw[ByteArray.data_append]
 simp
theorem I8 {s:ByteArray} (nd:List Bool) (hs:s.size=6+4*fI s):∀ k,k<=fI s->jO s nd k=⟨((cO (steps s) nd k).flatMap wW).toArray⟩:=by
 intro k
 induction k with
 | zero=>intro _;rfl
 | succ k ih =>
  intro hk
  have hl:k < (steps s).length:=by rw[steps,bU];omega
  simp only[jO,cO]
  split
  ·rw[ih (by omega),show 10+4*k=(6+4*k)+4 by omega,aag (by omega),xK]
   congr 2
   simp[hl,jI,bV,wW]
  ·exact ih (by omega)
theorem Kr {s:ByteArray} (hb:aW s=true):shr s=⟨(joined (g s 2) (g s 3) (cO (steps s) (aV (steps s)) (fI s))).toArray⟩:=by
 obtain⟨h6,-,-,hs,-,-,-⟩:=kD hb
 have h0:g s 0=82/\g s 1=85:=by simp[aW]at hb;omega
 unfold shr joined
 rw[I8 _ hs _ (Nat.le_refl _),show s.extract 0 4=s.extract 0 (0+4) by rfl,aag (by omega),Al,h0.1,show g s (0+1)=85 from h0.2]
 rw[show (⟨#[UInt8.ofNat (iT (aV (steps s)) (fI s) % 256),UInt8.ofNat (iT (aV (steps s)) (fI s) / 256)]⟩:ByteArray)=⟨[UInt8.ofNat (iT (aV (steps s)) (fI s) % 256),UInt8.ofNat (iT (aV (steps s)) (fI s) / 256)].toArray⟩ by rfl,xK,xK]
 rfl
def Cy (s:ByteArray) (f:Nat):Option (Int × Nat) :=
 if g s f=48 then some (0,f+1)
 else if g s f=45 then
  (if 49<=g s (f+1)/\g s (f+1)<=57 then
   (if 48<=g s (f+2)/\g s (f+2)<=57 then some (-((10*(g s (f+1) - 48)+(g s (f+2) - 48):Nat):Int),f+3) else some (-((g s (f+1) - 48:Nat):Int),f+2))
   else none)
 else if 49<=g s f/\g s f<=57 then
  (if 48<=g s (f+1)/\g s (f+1)<=57 then some (((10*(g s f - 48)+(g s (f+1) - 48):Nat):Int),f+2) else some (((g s f - 48:Nat):Int),f+1))
 else none
theorem ext_get {s:ByteArray} {f e:Nat} {l:List UInt8} (he:e<=s.size) (h:s.extract f e=⟨l.toArray⟩) (hf:f<=e):e=f+l.length/\∀ j (hj:j < l.length),g s (f+j)=l[j].toNat:=by
 have hsz:(s.extract f e).size=l.length:=by rw[h];rfl
 rw[ByteArray.size_extract]at hsz
 refine⟨by omega,fun j hj=>?_⟩
 have hfj:f+j < s.size:=by omega
 rw[dB hfj]
 have h1:(s.extract f e)[j]'(by rw[ByteArray.size_extract];omega)=s[f+j]:=by
  rw[ByteArray.getElem_extract]
 have h2:∀ hh,(⟨l.toArray⟩:ByteArray)[j]'hh=l[j]:=fun _=>rfl
 rw[<- h1]
 congr 1
 simp only[h]
 exact h2 _
theorem ofNat_toNat {n:Nat} (h:n < 256):(UInt8.ofNat n).toNat=n:=UInt8.toNat_ofNat_of_lt' (by simpa using h)
theorem Fz {n:Nat} (h:n<=99):(n<=9/\oG n=[UInt8.ofNat (48+n)])\/(9 < n/\oG n=[UInt8.ofNat (48+n / 10),UInt8.ofNat (48+n % 10)]):=by
 unfold oG
 by_cases h9:9 < n
 ·exact .inr ⟨h9,by rw[if_pos h9]⟩
 ·refine .inl ⟨by omega,?_⟩
  rw[if_neg h9,Nat.mod_eq_of_lt (by omega)]
theorem Sd {s:ByteArray} {f e:Nat} {n:Int} (hf:f<=e) (he:e<=s.size) (hb:e=s.size\/g s e=44) (h:s.extract f e=dec n) (h1:-99<=n) (h2:n<=99):Cy s f=some (n,e):=by
 have hend:¬ (48<=g s e/\g s e<=57):=by
  rcases hb with hb | hb
  ·rw[FQ (by omega)];omega
  ·omega
 by_cases hn:n < 0
 ·obtain⟨m,rfl⟩:∃ m:Nat,n=-(m:Int):=⟨n.natAbs,by omega⟩
  rw[zJ m (by omega)]at h
  obtain⟨hlen,hget⟩:=ext_get he h hf
  rcases Fz (show m<=99 by omega) with ⟨hm,hd⟩ | ⟨hm,hd⟩
  ·rw[hd]at hlen hget
   have g0:g s f=45:=by simpa using hget 0 (by simp)
   have g1:g s (f+1)=48+m:=by have:=hget 1 (by simp);rw[this];exact ofNat_toNat (by omega)
   have hl:e=f+2:=by simpa using hlen
   subst hl
   unfold Cy
   rw[if_neg (by omega),if_pos g0,if_pos (by omega),if_neg hend,g1]
   congr 3
   omega
  ·rw[hd]at hlen hget
   have g0:g s f=45:=by simpa using hget 0 (by simp)
   have g1:g s (f+1)=48+m / 10:=by have:=hget 1 (by simp);rw[this];exact ofNat_toNat (by omega)
   have g2:g s (f+2)=48+m % 10:=by have:=hget 2 (by simp);rw[this];exact ofNat_toNat (by omega)
   have hl:e=f+3:=by simpa using hlen
   subst hl
   unfold Cy
   rw[if_neg (by omega),if_pos g0,if_pos (by omega),if_pos (by omega),g1,g2]
   congr 3
   omega
 ·obtain⟨m,rfl⟩:∃ m:Nat,n=(m:Int):=⟨n.toNat,by omega⟩
  rw[zH m]at h
  obtain⟨hlen,hget⟩:=ext_get he h hf
  rcases Fz (show m<=99 by omega) with ⟨hm,hd⟩ | ⟨hm,hd⟩
  ·rw[hd]at hlen hget
   have g0:g s f=48+m:=by have:=hget 0 (by simp);rw[Nat.add_zero]at this;rw[this];exact ofNat_toNat (by omega)
   have hl:e=f+1:=by simpa using hlen
   subst hl
   unfold Cy
   by_cases hz:m=0
   ·subst hz;rw[if_pos (by omega)];rfl
   ·rw[if_neg (by omega),if_neg (by omega),if_pos (by omega),if_neg hend,g0]
    congr 3
    omega
  ·rw[hd]at hlen hget
   have g0:g s f=48+m / 10:=by have:=hget 0 (by simp);rw[Nat.add_zero]at this;rw[this];exact ofNat_toNat (by omega)
   have g1:g s (f+1)=48+m % 10:=by have:=hget 1 (by simp);rw[this];exact ofNat_toNat (by omega)
   have hl:e=f+2:=by simpa using hlen
   subst hl
   unfold Cy
   rw[if_neg (by omega),if_neg (by omega),if_pos (by omega),if_pos (by omega),g0,g1]
   congr 3
   omega
theorem Aa {s:ByteArray} {f:Nat} {l:List UInt8} (hl:f+l.length<=s.size) (h:∀ j (hj:j < l.length),g s (f+j)=l[j].toNat):s.extract f (f+l.length)=⟨l.toArray⟩:=by
 have hsz:(s.extract f (f+l.length)).size=l.length:=by rw[ByteArray.size_extract];omega
 apply ByteArray.ext
 apply Array.ext
 ·show (s.extract f (f+l.length)).size=_
  rw[hsz];simp
 ·intro i h1 h2
  have hi:i < l.length:=by simpa using h2
  have h3:=h i hi
  rw[dB (by omega)]at h3
  have h4:s[f+i]'(by omega)=l[i]:=UInt8.toNat_inj.1 h3
  have h5:(s.extract f (f+l.length))[i]'(by rw[hsz];exact hi)=s[f+i]'(by omega):=by rw[ByteArray.getElem_extract]
  show (s.extract f (f+l.length))[i]'(by rw[hsz];exact hi)=_
  rw[h5,h4];simp
theorem wz {s:ByteArray} {i:Nat} (h:g s i≠0):i < s.size:=by
 refine Nat.lt_of_not_le fun hh=>h (FQ hh)
theorem zN {s:ByteArray} {f p:Nat} {n:Int} (h:Cy s f=some (n,p)):f < p/\p<=s.size/\s.extract f p=dec n/\-99<=n/\n<=99/\∀ i,f<=i->i < p->g s i≠44:=by
 unfold Cy at h
 split at h
 ·rename_i h0
  simp at h
  obtain⟨rfl,rfl⟩:=h
  have hs:=wz (s:=s) (i:=f) (by omega)
  refine⟨by omega,by omega,?_,by omega,by omega,fun i a b=>by rw[show i=f by omega];omega⟩
  refine Aa (l:=[48]) (by simp;omega) (fun j hj=>?_)
  have:j=0:=by simpa using hj
  subst this
  simpa using h0
 ·split at h
  ·rename_i h45
   split at h
   ·rename_i h1
    have hs1:=wz (s:=s) (i:=f+1) (by omega)
    split at h
    ·rename_i h2
     have hs2:=wz (s:=s) (i:=f+2) (by omega)
     simp only[Option.some.injEq,Prod.mk.injEq]at h
     obtain⟨rfl,rfl⟩:=h
     generalize hm:10*(g s (f+1) - 48)+(g s (f+2) - 48)=m
     refine⟨by omega,by omega,?_,by omega,by omega,fun i a b=>by
      have:i=f\/i=f+1\/i=f+2:=by omega
      rcases this with rfl | rfl | rfl<;>omega⟩
     rw[zJ m (by omega)]
     have hd:oG m=[UInt8.ofNat (48+m / 10),UInt8.ofNat (48+m % 10)]:=by unfold oG;rw[if_pos (by omega)]
     rw[hd]
     refine Aa (l:=[45,UInt8.ofNat (48+m / 10),UInt8.ofNat (48+m % 10)]) (by simp;omega) (fun j hj=>?_)
     have:j=0\/j=1\/j=2:=by simp at hj;omega
     rcases this with rfl | rfl | rfl
     ·simpa using h45
     ·show g s (f+1)=(UInt8.ofNat (48+m / 10)).toNat
      rw[ofNat_toNat (by omega)];omega
     ·show g s (f+2)=(UInt8.ofNat (48+m % 10)).toNat
      rw[ofNat_toNat (by omega)];omega
    ·simp only[Option.some.injEq,Prod.mk.injEq]at h
     obtain⟨rfl,rfl⟩:=h
     generalize hm:g s (f+1) - 48=m
     refine⟨by omega,by omega,?_,by omega,by omega,fun i a b=>by
      have:i=f\/i=f+1:=by omega
      rcases this with rfl | rfl<;>omega⟩
     rw[zJ m (by omega)]
     have hd:oG m=[UInt8.ofNat (48+m)]:=by unfold oG;rw[if_neg (by omega),Nat.mod_eq_of_lt (by omega)]
     rw[hd]
     refine Aa (l:=[45,UInt8.ofNat (48+m)]) (by simp;omega) (fun j hj=>?_)
     have:j=0\/j=1:=by simp at hj;omega
     rcases this with rfl | rfl
     ·simpa using h45
     ·show g s (f+1)=(UInt8.ofNat (48+m)).toNat
      rw[ofNat_toNat (by omega)];omega
   ·cases h
  ·split at h
   ·rename_i h1
    have hs1:=wz (s:=s) (i:=f) (by omega)
    split at h
    ·rename_i h2
     have hs2:=wz (s:=s) (i:=f+1) (by omega)
     simp only[Option.some.injEq,Prod.mk.injEq]at h
     obtain⟨rfl,rfl⟩:=h
     generalize hm:10*(g s f - 48)+(g s (f+1) - 48)=m
     refine⟨by omega,by omega,?_,by omega,by omega,fun i a b=>by
      have:i=f\/i=f+1:=by omega
      rcases this with rfl | rfl<;>omega⟩
     rw[zH m]
     have hd:oG m=[UInt8.ofNat (48+m / 10),UInt8.ofNat (48+m % 10)]:=by unfold oG;rw[if_pos (by omega)]
     rw[hd]
     refine Aa (l:=[UInt8.ofNat (48+m / 10),UInt8.ofNat (48+m % 10)]) (by simp;omega) (fun j hj=>?_)
     have:j=0\/j=1:=by simp at hj;omega
     rcases this with rfl | rfl
     ·show g s (f+0)=(UInt8.ofNat (48+m / 10)).toNat
      rw[ofNat_toNat (by omega),Nat.add_zero];omega
     ·show g s (f+1)=(UInt8.ofNat (48+m % 10)).toNat
      rw[ofNat_toNat (by omega)];omega
    ·simp only[Option.some.injEq,Prod.mk.injEq]at h
     obtain⟨rfl,rfl⟩:=h
     generalize hm:g s f - 48=m
     refine⟨by omega,by omega,?_,by omega,by omega,fun i a b=>by rw[show i=f by omega];omega⟩
     rw[zH m]
     have hd:oG m=[UInt8.ofNat (48+m)]:=by unfold oG;rw[if_neg (by omega),Nat.mod_eq_of_lt (by omega)]
     rw[hd]
     refine Aa (l:=[UInt8.ofNat (48+m)]) (by simp;omega) (fun j hj=>?_)
     have:j=0:=by simpa using hj
     subst this
     show g s (f+0)=(UInt8.ofNat (48+m)).toNat
     rw[ofNat_toNat (by omega),Nat.add_zero];omega
   ·cases h
theorem Df {t:ByteArray} {n:Int} (h:jd t=some n):t=dec n/\-99<=n/\n<=99:=by
 have hr:=oU h
 refine⟨?_,hr⟩
 unfold jd at h
 obtain⟨i,hi,rfl⟩:=Option.map_eq_some_iff.1 h
 simpa using List.find?_some hi
theorem GR {s:ByteArray} {f p:Nat} {n:Int} (h:Cy s f=some (n,p)) (hb:p=s.size\/g s p=44):jd (s.extract f p)=some n:=by
 obtain⟨h1,h2,h3,h4,h5,-⟩:=zN h
 cases hn:jd (s.extract f p) with
 | none =>
  exfalso
  unfold jd at hn
  rw[Option.map_eq_none_iff,List.find?_eq_none]at hn
  have:=hn (n+99).toNat (by simp;omega)
  simp at this
  exact this (by rw[h3];congr 1;omega)
 | some m =>
  obtain⟨k1,k2,k3⟩:=Df hn
  have:=Sd (by omega) h2 hb k1 k2 k3
  rw[h]at this
  simp at this
  rw[this]
theorem J3 {s:ByteArray} (f:Nat) (hf:f<=s.size):∃ e,f<=e/\e<=s.size/\(e=s.size\/g s e=44)/\∀ i,f<=i->i < e->g s i≠44:=by
 obtain⟨d,hd⟩:∃ d,s.size - f=d:=⟨_,rfl⟩
 induction d generalizing f with
 | zero=>exact⟨f,by omega,hf,.inl (by omega),fun i a b=>by omega⟩
 | succ d ih =>
  by_cases h:g s f=44
  ·exact⟨f,by omega,hf,.inr h,fun i a b=>by omega⟩
  ·obtain⟨e,h1,h2,h3,h4⟩:=ih (f+1) (by omega) (by omega)
   refine⟨e,by omega,h2,h3,fun i a b=>?_⟩
   by_cases e1:i=f
   ·subst e1;exact h
   ·exact h4 i (by omega) b
theorem uZ {s:ByteArray} {f:Nat} {l:List Int} (h:fq s f=some (f,l)):∀ e,f<=e->e<=s.size->(∀ i,f<=i->i < e->g s i≠44)->fq s e=some (f,l):=by
 intro e
 induction e with
 | zero =>
  intro h1 _ _;have:f=0:=by omega
  subst this;exact h
 | succ e ih =>
  intro h1 h2 h3
  by_cases e1:f=e+1
  ·subst e1;exact h
  ·exact Gd (ih (by omega) (by omega) (fun i a b=>h3 i a (by omega))) (by have:=h3 e (by omega) (by omega);omega)
theorem MX {s:ByteArray} {f p:Nat} {n:Int} {l:List Int} (h:fq s f=some (f,l)) (hr:Cy s f=some (n,p)) (hc:g s p=44):fq s (p+1)=some (p+1,l++[n]):=by
 obtain⟨h1,h2,-,-,-,h6⟩:=zN hr
 exact xU (uZ h p (by omega) h2 h6) (.inr hc) (GR hr (.inr hc))
theorem Qw {s:ByteArray} {f:Nat} {n:Int} {l:List Int} (h0:s.size≠0) (h:fq s f=some (f,l)) (hr:Cy s f=some (n,s.size)):iG s=some (l++[n]):=by
 obtain⟨h1,h2,-,-,-,h6⟩:=zN hr
 exact CY h0 (xU (uZ h s.size (by omega) h2 h6) (.inl rfl) (GR hr (.inl rfl)))
theorem K6 {s:ByteArray} {f:Nat} {l:List Int} (h0:s.size≠0) (hf:f<=s.size) (h:fq s f=some (f,l)) (hr:∀ n p,Cy s f=some (n,p)->p≠s.size/\g s p≠44):iG s=none:=by
 obtain⟨e,h1,h2,h3,h4⟩:=J3 f hf
 refine Gg h0 h2 (uZ h e h1 h2 h4) h3 ?_
 cases hn:jd (s.extract f e) with
 | none=>rfl
 | some m =>
  exfalso
  obtain⟨k1,k2,k3⟩:=Df hn
  have:=hr m e (Sd h1 h2 h3 k1 k2 k3)
  rcases h3 with h3 | h3
  ·exact this.1 h3
  ·exact this.2 h3
end Go.Proofs.YtmnfndpbblpjiabGreatDoor.Pu

/- Right steps are good ones; the range of inputs: plain. -/
namespace Go.Proofs.YtmnfndpbblpjiabGreatDoor
open Go.RowKit Pu
theorem Pu.Dv {s:ByteArray} (h:lU s=(0,0)):aW s=true/\∀ j,j < fI s->dI (steps s) j (bV s j) (g s 2) (g s 3)=true:=by
 cases hb:aW s with
 | false=>rw[xq hb]at h;simp at h
 | true =>
  refine⟨rfl,fun j hj=>?_⟩
  unfold lU at h
  rw[hb]at h
  simp only[Bool.true_eq_false,if_false]at h
  split at h
  ·simp at h
  ·rename_i hf
   have:=List.find?_eq_none.1 hf j (by simpa using hj)
   simpa using this
theorem Pu.vG {l:List Stp} {k:Nat} {t:Stp} {regs ins:Nat} (hs:Small t) (hr:regs<=128) (h:dI l k t regs ins=true):Good ins t:=by
 unfold dI at h
 rw[vB]at h
 simp only[Bool.and_eq_true,decide_eq_true_eq,List.all_eq_true]at h
 obtain⟨⟨ho,hx⟩,hr2⟩:=h
 have h7:t.op<=7:=by
  refine Nat.le_of_not_lt fun hh=>?_
  simp[bH,show ¬ t.op=0 by omega,show ¬ t.op=1 by omega,show ¬ t.op=2 by omega,show ¬ t.op=3 by omega,show ¬ t.op=4 by omega,show ¬ t.op=5 by omega,show ¬ t.op=6 by omega,show ¬ t.op=7 by omega]at ho
 refine⟨hs,h7,by omega,fun h=>?_,fun h=>?_,fun h=>?_,fun h=>?_⟩
 ·have:=(hr2 t.y (by simp[readsOf,h])).1;omega
 ·have:=(hr2 t.z (by simp[readsOf,h])).1;omega
 ·simp[bH,h]at ho;exact ho.1
 ·simp[bH,h]at ho;exact ho
theorem Pu.Gf {s:ByteArray}:∀ (k f:Nat) (l:List Int),fq s k=some (f,l)->∀ x∈l,-99<=x/\x<=99:=by
 intro k
 induction k with
 | zero=>intro f l h;simp[fq]at h;rw[h.2];intro x hx;cases hx
 | succ k ih =>
  intro f l h
  simp only[fq]at h
  split at h
  ·cases h
  ·rename_i f' l' hk
   split at h
   ·split at h
    ·rename_i n hn
     simp at h
     obtain⟨-,rfl⟩:=h
     intro x hx
     rcases List.mem_append.1 hx with hx | hx
     ·exact ih f' l' hk x hx
     ·simp at hx;subst hx;exact oU hn
    ·cases h
   ·simp at h
    obtain⟨-,rfl⟩:=h
    exact ih f' l' hk
theorem Pu.nO {s:ByteArray} {l:List Int} (h:iG s=some l):∀ x∈l,-100 < x/\x < 100:=by
 unfold iG at h
 split at h
 ·simp at h;subst h;intro x hx;cases hx
 ·simp at h
  obtain⟨f,hf⟩:=h
  intro x hx
  have:=Gf _ f l hf x hx
  omega
theorem Pu.KW {B:Nat} {s inp:ByteArray} (h:(lU s).1=8):exe B s inp=(⟨#[]⟩,8):=by simp[exe,h]
theorem Pu.PO {B:Nat} {s inp:ByteArray} (h:lU s=(0,0)) (hi:iG inp=none):exe B s inp=(⟨#[]⟩,9):=by simp[exe,h,hi]
theorem Pu.MC {B:Nat} {s inp:ByteArray} {l:List Int} (h:lU s=(0,0)) (hi:iG inp=some l) (hl:l.length≠g s 3):exe B s inp=(⟨#[]⟩,9):=by simp[exe,h,hi,hl]
theorem Pu.PS {B:Nat} {s inp:ByteArray} {l:List Int} (h:lU s=(0,0)) (hi:iG inp=some l) (hl:l.length=g s 3):exe B s inp=play B l (steps s) (List.replicate 128 0) ⟨#[]⟩:=by simp[exe,h,hi,hl]
end Go.Proofs.YtmnfndpbblpjiabGreatDoor

/- Plain functions: the steps that a construction or a question is made into. -/
namespace Go.Proofs.YtmnfndpbblpjiabGreatDoor.Pu
structure Tr where
 x:Nat
 y:Nat
 w:Nat
def bJ (s p q r t:Nat):List Stp:=[⟨4,s,p,q⟩,⟨4,s+1,r,t⟩,⟨2,s+2,s,s+1⟩]
def bS (s p q r t:Nat):List Stp:=[⟨4,s,p,q⟩,⟨4,s+1,r,t⟩,⟨3,s+2,s,s+1⟩]
def negL (s y:Nat):List Stp:=[⟨1,s,0,0⟩,⟨3,s+1,s,y⟩]
def eH (s y:Nat):List Stp:=[⟨5,s,y,0⟩,⟨4,s+1,s,s⟩,⟨1,s+2,1,0⟩,⟨3,s+3,s+2,s+1⟩]
def aA (s:Nat):Tr:=⟨s+2,s+5,s+8⟩
def dM (s:Nat) (a b:Tr):List Stp:=bS s a.y b.w a.w b.y++(bS (s+3) a.w b.x a.x b.w++bS (s+6) a.x b.y a.y b.x)
def vX (s:Nat) (a b:Tr):List Stp:=bJ s a.x b.x a.y b.y++[⟨4,s+3,a.w,b.w⟩,⟨2,s+4,s+2,s+3⟩]
def iK (s:Nat) (a b c:Tr):List Stp:=dM s a b++vX (s+9) (aA s) c
def jP (s:Nat):Tr:=⟨s,s+1,s+2⟩
def Ae (s i:Nat):List Stp:=[⟨0,s,i,0⟩,⟨0,s+1,i+1,0⟩,⟨1,s+2,1,0⟩]
def gP (s:Nat):Tr:=⟨s+2,s+5,s+7⟩
def uI (s:Nat) (a b:Tr):List Stp:=bJ s a.x b.w b.x a.w++(bJ (s+3) a.y b.w b.y a.w++[⟨4,s+6,a.w,b.w⟩,⟨2,s+7,s+6,s+6⟩])
def lZ (s:Nat):Tr:=⟨s,s+1,s+6⟩
def zx (s:Nat) (p l:Tr):List Stp:=[⟨4,s,l.x,p.w⟩,⟨4,s+1,l.y,p.w⟩]++(bJ (s+2) l.x p.x l.y p.y++negL (s+5) (s+4))
def eD (s:Nat):Tr:=⟨s+2,s+3,s+8⟩
def tC (s:Nat) (p l:Tr):List Stp:=negL s l.x++zx (s+2) p ⟨l.y,s+1,l.w⟩
def dX (s:Nat):Tr:=⟨s+11,s+14,s+17⟩
def jC (s:Nat) (p l:Tr):List Stp:=tC s p l++dM (s+9) (eD s) l
def wE (s:Nat):Tr:=⟨s+22,s+25,s+26⟩
def Eh (s:Nat) (p l:Tr):List Stp :=
 jC s p l++([⟨2,s+18,s+11,s+11⟩,⟨2,s+19,s+14,s+14⟩]++(bS (s+20) (s+18) p.w p.x (s+17)++(bS (s+23) (s+19) p.w p.y (s+17)++[⟨4,s+26,s+17,p.w⟩])))
def dz (s:Nat):Tr:=⟨s+19,s+20,s+25⟩
def rF (s:Nat) (a b:Tr):List Stp:=uI s a b++(dM (s+8) a b++tC (s+17) (gP s) (aA (s+8)))
def uT (s:Nat):Tr:=⟨s+54,s+57,s+60⟩
def zW (s:Nat) (a b c:Tr):List Stp:=rF s a b++(rF (s+26) a c++dM (s+52) (dz s) (dz (s+26)))
def aD (s:Nat):Tr:=⟨s+2,s+5,s+6⟩
def dh (s:Nat) (f t:Tr):List Stp:=bS s t.x f.w f.x t.w++(bS (s+3) t.y f.w f.y t.w++[⟨4,s+6,f.w,t.w⟩])
def aR (s:Nat):Tr:=⟨s,s+1,s+4⟩
def lH (s:Nat) (p:Tr):List Stp:=[⟨4,s,p.x,p.w⟩,⟨4,s+1,p.y,p.w⟩]++bJ (s+2) p.x p.x p.y p.y
def zV (s:Nat) (a b c:Tr):List Stp :=
 iK s a b c++(eH (s+14) (s+13)++(dh (s+18) b a++(dh (s+25) b c++(bJ (s+32) (s+20) (s+27) (s+23) (s+30)++(negL (s+35) (s+34)++[⟨4,s+37,s+17,s+36⟩])))))
def BI (s:Nat) (a b c d:Tr):List Stp :=
 dh s a b++(dh (s+7) a c++(dh (s+14) a d++(lH (s+21) (aD s)++(lH (s+26) (aD (s+7))++(lH (s+31) (aD (s+14))++iK (s+36) (aR (s+21)) (aR (s+26)) (aR (s+31)))))))
def Cz (s:Nat) (a b:Tr):List Stp:=dh s a b++bJ (s+7) (s+2) (s+2) (s+5) (s+5)
structure Th where
 a:Tr
 b:Tr
 c:Tr
 d:Tr
def UD (wd:List UInt8) (s:Nat) (t:Th):List Stp × Nat :=
 if wd == [115,97,109,101] then (Cz s t.a t.b,9)
 else if wd == [99,111,110] then (BI s t.a t.b t.c t.d,49)
 else if wd == [111,110] then (vX s t.a t.b,4)
 else if wd == [112,108,108] then (bS s t.a.x t.b.y t.a.y t.b.x,2)
 else if wd == [112,114,112] then (bJ s t.a.x t.b.x t.a.y t.b.y,2)
 else (iK s t.a t.b t.c,13)
def Cg (wd:List UInt8) (s:Nat) (t:Th):List Stp × Nat :=
 if wd == [99,99,119] then (iK s t.a t.b t.c,13)
 else if wd == [98,116,119] then (zV s t.a t.b t.c,37)
 else ((UD wd s t).1++eH (s+(UD wd s t).2+1) (s+(UD wd s t).2),(UD wd s t).2+4)
def o9 (wd:List UInt8) (s i:Nat) (t:Th):List Stp × Tr × Nat :=
 if wd == [112,116] then (Ae s i,jP s,i+2)
 else if wd == [109,105,100] then (uI s t.a t.b,gP s,i)
 else if wd == [112,97,114] then (zx s t.a t.b,lZ s,i)
 else if wd == [112,101,114,112] then (tC s t.a t.b,eD s,i)
 else if wd == [102,111,111,116] then (jC s t.a t.b,dX s,i)
 else if wd == [109,105,114,114,111,114] then (Eh s t.a t.b,wE s,i)
 else if wd == [99,101,110,116,114,101] then (zW s t.a t.b t.c,uT s,i)
 else (dM s t.a t.b,aA s,i)
def UE (wd:List UInt8) (s:Nat) (m:Tr) (k:Nat):List Stp :=
 if wd == [108,105,110,101] then bJ s m.x m.x m.y m.y++[⟨7,s+2,0,k⟩]
 else if wd == [109,101,101,116] then [⟨7,m.w,1,k⟩]
 else if wd == [99,101,110,116,114,101] then [⟨7,m.w,2,k⟩] else []
def abQ (wd:List UInt8) (s:Nat) (m:Tr):List Stp:=if sG wd=80 then [⟨5,s,m.w,0⟩] else [⟨1,s,1,0⟩]
def K9 (wd:List UInt8) (s:Nat) (m:Tr) (k:Nat):List Stp:=abQ wd s m++[⟨4,3*k,m.x,s⟩,⟨4,3*k+1,m.y,s⟩,⟨4,3*k+2,m.w,s⟩]
structure T3 where
 x:Int
 y:Int
 w:Int
def aZ (a b:T3):T3:=⟨a.y*b.w - a.w*b.y,a.w*b.x - a.x*b.w,a.x*b.y - a.y*b.x⟩
def mY (a b:T3):Int:=a.x*b.x+a.y*b.y+a.w*b.w
def eX (a b c:T3):Int:=mY (aZ a b) c
def su (a b:T3):T3:=⟨a.x*b.w+b.x*a.w,a.y*b.w+b.y*a.w,a.w*b.w+a.w*b.w⟩
def mK (p l:T3):T3:=⟨l.x*p.w,l.y*p.w,0 - (l.x*p.x+l.y*p.y)⟩
def qZ (p l:T3):T3:=mK p ⟨l.y,0 - l.x,l.w⟩
def gT (p l:T3):T3:=aZ (qZ p l) l
def Cm (p l:T3):T3:=⟨((gT p l).x+(gT p l).x)*p.w - p.x*(gT p l).w,((gT p l).y+(gT p l).y)*p.w - p.y*(gT p l).w,(gT p l).w*p.w⟩
def kV (a b:T3):T3:=qZ (su a b) (aZ a b)
def vR (a b c:T3):T3:=aZ (kV a b) (kV a c)
def aN (f t:T3):T3:=⟨t.x*f.w - f.x*t.w,t.y*f.w - f.y*t.w,f.w*t.w⟩
def oJ (p:T3):T3:=⟨p.x*p.w,p.y*p.w,p.x*p.x+p.y*p.y⟩
def kW (y:Int):Int:=1 - kL y*kL y
def Ja (a b c:T3):Int:=kW (eX a b c)*(0 - ((aN b a).x*(aN b c).x+(aN b a).y*(aN b c).y))
def Ew (a b c d:T3):Int:=eX (oJ (aN a b)) (oJ (aN a c)) (oJ (aN a d))
def Ht (a b:T3):Int:=(aN a b).x*(aN a b).x+(aN a b).y*(aN a b).y
def Sm (M:Nat) (v:Int):Prop:=v.natAbs<=M
def qd (M:Nat):Nat:=3*(M*M)
theorem iI {M:Nat} (h:1<=M):M<=qd M:=by
 unfold qd
 have:=Nat.le_mul_of_pos_right M h
 omega
theorem aP {M:Nat} (h:1<=M):1<=qd M:=Nat.le_trans h (iI h)
theorem Sm.mono {M N:Nat} {v:Int} (h:Sm M v) (hn:M<=N):Sm N v:=Nat.le_trans h hn
theorem Sm.mul {M:Nat} {a b:Int} (h:Sm M a) (k:Sm M b):Sm (M*M) (a*b):=by
 unfold Sm at *;rw[Int.natAbs_mul];exact Nat.mul_le_mul h k
theorem Sm.add {M N:Nat} {a b:Int} (h:Sm M a) (k:Sm N b):Sm (M+N) (a+b):=by unfold Sm at *;omega
theorem Sm.sub {M N:Nat} {a b:Int} (h:Sm M a) (k:Sm N b):Sm (M+N) (a - b):=by unfold Sm at *;omega
theorem Sm.q {M:Nat} {a b:Int} (h:Sm M a) (k:Sm M b):Sm (qd M) (a*b):=(h.mul k).mono (by unfold qd;omega)
theorem Sm.qs {M:Nat} {a b c d:Int} (h:Sm M a) (k:Sm M b) (i:Sm M c) (j:Sm M d):Sm (qd M) (a*b+c*d):=((h.mul k).add (i.mul j)).mono (by unfold qd;omega)
theorem Sm.qm {M:Nat} {a b c d:Int} (h:Sm M a) (k:Sm M b) (i:Sm M c) (j:Sm M d):Sm (qd M) (a*b - c*d):=((h.mul k).sub (i.mul j)).mono (by unfold qd;omega)
theorem Sm.q3 {M:Nat} {a b c d e f:Int} (h:Sm M a) (k:Sm M b) (i:Sm M c) (j:Sm M d) (m:Sm M e) (n:Sm M f):Sm (qd M) (a*b+c*d+e*f):=(((h.mul k).add (i.mul j)).add (m.mul n)).mono (by unfold qd;omega)
theorem Sm.dbl {M:Nat} {a:Int} (h:Sm M a) (hm:1<=M):Sm (qd M) (a+a):=(h.add h).mono (by unfold qd;have:=Nat.le_mul_of_pos_right M hm;omega)
theorem jy (x:Int):kL x=-1/\x < 0\/kL x=0/\x=0\/kL x=1/\0 < x:=by
 unfold kL;by_cases h:x < 0
 ·simp[h]
 ·by_cases k:x=0
  ·simp[k]
  ·simp[h,k];omega
theorem Sm.kL {M:Nat} (x:Int) (hm:1<=M):Sm M (Pu.kL x):=by unfold Sm;rcases jy x with h | h | h<;>rw[h.1]<;>simp<;>omega
def Rn (B:Nat) (ins:List Int) (l:List Stp) (R:List Int) (Q:List Int->Prop):Prop:=∃ R',Q R'/\∀ rest s,play B ins (l++rest) R s=play B ins rest R' s
section
variable {B:Nat} {ins:List Int} {l l1 l2:List Stp} {R R':List Int} {Q:List Int->Prop}
theorem gB (h:Q R):Rn B ins [] R Q:=⟨R,h,fun _ _=>rfl⟩
theorem BA {i:Nat} {v:Int} (h:i < R.length):reg (R.set i v) i=v:=by simp[reg,h]
theorem BD {i r:Nat} {v:Int} (h:r≠i):reg (R.set i v) r=reg R r:=by
 unfold reg;rw[List.getElem?_set_ne (fun e=>h e.symm)]
def Lo (s:Nat) (R R':List Int):Prop:=R'.length=128/\∀ r,r < s->reg R' r=reg R r
theorem Lo.trans {s t:Nat} {A C D:List Int} (h:Lo s A C) (k:Lo t C D) (hs:s<=t):Lo s A D:=⟨k.1,fun r hr=>by rw[k.2 r (by omega),h.2 r hr]⟩
def Sv (s M:Nat) (R:List Int) (r:Nat) (v:Int):Prop:=r < s/\reg R r=v/\Sm M v
theorem Sv.lo {s M:Nat} {r:Nat} {v:Int} (h:Sv s M R r v) (k:Lo s R R') (t N:Nat) (ht:s<=t) (hN:M<=N):Sv t N R' r v:=⟨by have:=h.1;omega,by rw[k.2 r h.1,h.2.1],h.2.2.mono hN⟩
def Tv (s M:Nat) (R:List Int) (t:Tr) (v:T3):Prop:=Sv s M R t.x v.x/\Sv s M R t.y v.y/\Sv s M R t.w v.w
theorem Tv.lo {s M:Nat} {t:Tr} {v:T3} (h:Tv s M R t v) (k:Lo s R R') (t' N:Nat) (ht:s<=t') (hN:M<=N):Tv t' N R' t v:=⟨h.1.lo k _ _ ht hN,h.2.1.lo k _ _ ht hN,h.2.2.lo k _ _ ht hN⟩
theorem bQ {op s y z:Nat} (v:Int) (M:Nat) (hR:R.length=128) (hs:s < 128) (hop:op < 6) (hv:valOf ⟨op,s,y,z⟩ R ins=v) (hm:Sm M v) (hb:M < B) (k:∀ R',Lo s R R'->Sv (s+1) M R' s v->Rn B ins l R' Q):Rn B ins (⟨op,s,y,z⟩ :: l) R Q:=by
 have hb':¬ B<=(valOf ⟨op,s,y,z⟩ R ins).natAbs:=by rw[hv];unfold Sm at hm;omega
 obtain⟨R2,h2,k2⟩:=k (R.set s v) ⟨by simpa using hR,fun r hr=>BD (by omega)⟩ ⟨by omega,BA (by omega),hm⟩
 refine⟨R2,h2,fun rest st=>?_⟩
 rw[List.cons_append,wJ hop hb',hv]
 exact k2 rest st
theorem val_mul {s y z:Nat} {a b:Int} (h:reg R y=a) (k:reg R z=b):valOf ⟨4,s,y,z⟩ R ins=a*b:=by simp[valOf,h,k]
theorem val_add {s y z:Nat} {a b:Int} (h:reg R y=a) (k:reg R z=b):valOf ⟨2,s,y,z⟩ R ins=a+b:=by simp[valOf,h,k]
theorem val_sub {s y z:Nat} {a b:Int} (h:reg R y=a) (k:reg R z=b):valOf ⟨3,s,y,z⟩ R ins=a - b:=by simp[valOf,h,k]
theorem zP {s y:Nat}:valOf ⟨1,s,y,0⟩ R ins=(y:Int):=by simp[valOf]
theorem LB {s y:Nat} {a:Int} (h:reg R y=a):valOf ⟨5,s,y,0⟩ R ins=kL a:=by simp[valOf,h]
theorem Td {s y:Nat} {a:Int} (h:ins[y]?=some a):valOf ⟨0,s,y,0⟩ R ins=a:=by simp[valOf,h]
variable {s M:Nat}
theorem kK {p q r t:Nat} {a b c d:Int} (hR:R.length=128) (hs:s+3<=128) (hB:qd M < B) (hp:Sv s M R p a) (hq:Sv s M R q b) (hr:Sv s M R r c) (ht:Sv s M R t d)
  (k:∀ R',Lo s R R'->Sv (s+3) (qd M) R' (s+2) (a*b+c*d)->Rn B ins l R' Q):Rn B ins (bJ s p q r t++l) R Q:=by
 refine bQ (a*b) (qd M) hR (by omega) (by omega) (val_mul hp.2.1 hq.2.1) (hp.2.2.q hq.2.2) hB ?_
 intro R1 l1 v1
 have hr1:=hr.lo l1 (s+1) M (by omega) (Nat.le_refl _)
 have ht1:=ht.lo l1 (s+1) M (by omega) (Nat.le_refl _)
 refine bQ (c*d) (qd M) l1.1 (by omega) (by omega) (val_mul hr1.2.1 ht1.2.1) (hr.2.2.q ht.2.2) hB ?_
 intro R2 l2 v2
 have Zk:=v1.lo l2 (s+2) _ (by omega) (Nat.le_refl _)
 refine bQ (a*b+c*d) (qd M) l2.1 (by omega) (by omega) (val_add Zk.2.1 v2.2.1) (hp.2.2.qs hq.2.2 hr.2.2 ht.2.2) hB ?_
 intro R3 l3 v3
 exact k R3 ((l1.trans l2 (by omega)).trans l3 (by omega)) v3
theorem mg {p q r t:Nat} {a b c d:Int} (hR:R.length=128) (hs:s+3<=128) (hB:qd M < B) (hp:Sv s M R p a) (hq:Sv s M R q b) (hr:Sv s M R r c) (ht:Sv s M R t d)
  (k:∀ R',Lo s R R'->Sv (s+3) (qd M) R' (s+2) (a*b - c*d)->Rn B ins l R' Q):Rn B ins (bS s p q r t++l) R Q:=by
 refine bQ (a*b) (qd M) hR (by omega) (by omega) (val_mul hp.2.1 hq.2.1) (hp.2.2.q hq.2.2) hB ?_
 intro R1 l1 v1
 have hr1:=hr.lo l1 (s+1) M (by omega) (Nat.le_refl _)
 have ht1:=ht.lo l1 (s+1) M (by omega) (Nat.le_refl _)
 refine bQ (c*d) (qd M) l1.1 (by omega) (by omega) (val_mul hr1.2.1 ht1.2.1) (hr.2.2.q ht.2.2) hB ?_
 intro R2 l2 v2
 have Zk:=v1.lo l2 (s+2) _ (by omega) (Nat.le_refl _)
 refine bQ (a*b - c*d) (qd M) l2.1 (by omega) (by omega) (val_sub Zk.2.1 v2.2.1) (hp.2.2.qm hq.2.2 hr.2.2 ht.2.2) hB ?_
 intro R3 l3 v3
 exact k R3 ((l1.trans l2 (by omega)).trans l3 (by omega)) v3
theorem Kk {y:Nat} {a:Int} (hR:R.length=128) (hs:s+2<=128) (hB:M < B) (hy:Sv s M R y a)
  (k:∀ R',Lo s R R'->Sv (s+2) M R' (s+1) (0 - a)->Rn B ins l R' Q):Rn B ins (negL s y++l) R Q:=by
 refine bQ 0 M hR (by omega) (by omega) zP (by simp[Sm]) hB ?_
 intro R1 l1 v1
 have hy1:=hy.lo l1 (s+1) M (by omega) (Nat.le_refl _)
 refine bQ (0 - a) M l1.1 (by omega) (by omega) (val_sub v1.2.1 hy1.2.1) (by have:=hy.2.2;unfold Sm at *;omega) hB ?_
 intro R2 l2 v2
 exact k R2 (l1.trans l2 (by omega)) v2
theorem jQ (a:Int):kW a=0/\a≠0\/kW a=1/\a=0:=by
 unfold kW;rcases jy a with h | h | h<;>rw[h.1]<;>simp<;>omega
theorem Sm.isn {M:Nat} (a:Int) (h:1<=M):Sm M (kW a):=by unfold Sm;rcases jQ a with h | h<;>rw[h.1]<;>simp<;>omega
theorem sZ {y:Nat} {a:Int} (hR:R.length=128) (hs:s+4<=128) (hB:M < B) (h1:1<=M) (hy:Sv s M R y a)
  (k:∀ R',Lo s R R'->Sv (s+4) M R' (s+3) (kW a)->Rn B ins l R' Q):Rn B ins (eH s y++l) R Q:=by
 refine bQ (kL a) M hR (by omega) (by omega) (LB hy.2.1) (.kL a h1) hB ?_
 intro R1 l1 v1
 refine bQ (kL a*kL a) M l1.1 (by omega) (by omega) (val_mul v1.2.1 v1.2.1) (by unfold Sm;rcases jy a with h | h | h<;>rw[h.1]<;>simp<;>omega) hB ?_
 intro R2 l2 v2
 refine bQ 1 M l2.1 (by omega) (by omega) zP (by simp[Sm];omega) hB ?_
 intro R3 l3 v3
 have v2':=v2.lo l3 (s+3) _ (by omega) (Nat.le_refl _)
 refine bQ (kW a) M l3.1 (by omega) (by omega) (val_sub v3.2.1 v2'.2.1) (.isn a h1) hB ?_
 intro R4 l4 v4
 exact k R4 (((l1.trans l2 (by omega)).trans l3 (by omega)).trans l4 (by omega)) v4
theorem qp {a b:Tr} {u v:T3} (hR:R.length=128) (hs:s+9<=128) (hB:qd M < B) (ha:Tv s M R a u) (hb:Tv s M R b v)
  (k:∀ R',Lo s R R'->Tv (s+9) (qd M) R' (aA s) (aZ u v)->Rn B ins l R' Q):Rn B ins (dM s a b++l) R Q:=by
 unfold dM
 rw[List.append_assoc,List.append_assoc]
 refine mg hR (by omega) hB ha.2.1 hb.2.2 ha.2.2 hb.2.1 ?_
 intro R1 l1 v1
 have ha1:=ha.lo l1 (s+3) M (by omega) (Nat.le_refl _)
 have hb1:=hb.lo l1 (s+3) M (by omega) (Nat.le_refl _)
 refine mg l1.1 (by omega) hB ha1.2.2 hb1.1 ha1.1 hb1.2.2 ?_
 intro R2 l2 v2
 have ha2:=ha1.lo l2 (s+6) M (by omega) (Nat.le_refl _)
 have hb2:=hb1.lo l2 (s+6) M (by omega) (Nat.le_refl _)
 refine mg l2.1 (by omega) hB ha2.1 hb2.2.1 ha2.2.1 hb2.1 ?_
 intro R3 l3 v3
 exact k R3 ((l1.trans l2 (by omega)).trans l3 (by omega)) ⟨(v1.lo l2 (s+6) _ (by omega) (Nat.le_refl _)).lo l3 (s+9) _ (by omega) (Nat.le_refl _),v2.lo l3 (s+9) _ (by omega) (Nat.le_refl _),v3⟩
theorem Si {a b:Tr} {u v:T3} (hR:R.length=128) (hs:s+5<=128) (hB:qd M < B) (ha:Tv s M R a u) (hb:Tv s M R b v)
  (k:∀ R',Lo s R R'->Sv (s+5) (qd M) R' (s+4) (mY u v)->Rn B ins l R' Q):Rn B ins (vX s a b++l) R Q:=by
 unfold vX
 rw[List.append_assoc]
 refine kK hR (by omega) hB ha.1 hb.1 ha.2.1 hb.2.1 ?_
 intro R1 l1 v1
 have ha1:=ha.lo l1 (s+3) M (by omega) (Nat.le_refl _)
 have hb1:=hb.lo l1 (s+3) M (by omega) (Nat.le_refl _)
 refine bQ (u.w*v.w) (qd M) l1.1 (by omega) (by omega) (val_mul ha1.2.2.2.1 hb1.2.2.2.1) (ha.2.2.2.2.q hb.2.2.2.2) hB ?_
 intro R2 l2 v2
 have Zk:=v1.lo l2 (s+4) _ (by omega) (Nat.le_refl _)
 refine bQ (mY u v) (qd M) l2.1 (by omega) (by omega) (val_add Zk.2.1 v2.2.1) (ha.1.2.2.q3 hb.1.2.2 ha.2.1.2.2 hb.2.1.2.2 ha.2.2.2.2 hb.2.2.2.2) hB ?_
 intro R3 l3 v3
 exact k R3 ((l1.trans l2 (by omega)).trans l3 (by omega)) v3
theorem BH {a b c:Tr} {u v t:T3} (hR:R.length=128) (hs:s+14<=128) (h1:1<=M) (hB:qd (qd M) < B) (ha:Tv s M R a u) (hb:Tv s M R b v) (hc:Tv s M R c t)
  (k:∀ R',Lo s R R'->Sv (s+14) (qd (qd M)) R' (s+13) (eX u v t)->Rn B ins l R' Q):Rn B ins (iK s a b c++l) R Q:=by
 unfold iK
 rw[List.append_assoc]
 have hq:=iI (aP h1)
 refine qp hR (by omega) (by omega) ha hb ?_
 intro R1 l1 v1
 refine Si l1.1 (by omega) hB v1 (hc.lo l1 (s+9) _ (by omega) (iI h1)) ?_
 intro R2 l2 v2
 exact k R2 (l1.trans l2 (by omega)) v2
theorem Sl {a b:Tr} {u v:T3} (hR:R.length=128) (hs:s+8<=128) (hB:qd M < B) (ha:Tv s M R a u) (hb:Tv s M R b v)
  (k:∀ R',Lo s R R'->Tv (s+8) (qd M) R' (gP s) (su u v)->Rn B ins l R' Q):Rn B ins (uI s a b++l) R Q:=by
 unfold uI
 rw[List.append_assoc,List.append_assoc]
 refine kK hR (by omega) hB ha.1 hb.2.2 hb.1 ha.2.2 ?_
 intro R1 l1 v1
 have ha1:=ha.lo l1 (s+3) M (by omega) (Nat.le_refl _)
 have hb1:=hb.lo l1 (s+3) M (by omega) (Nat.le_refl _)
 refine kK l1.1 (by omega) hB ha1.2.1 hb1.2.2 hb1.2.1 ha1.2.2 ?_
 intro R2 l2 v2
 have ha2:=ha1.lo l2 (s+6) M (by omega) (Nat.le_refl _)
 have hb2:=hb1.lo l2 (s+6) M (by omega) (Nat.le_refl _)
 refine bQ (u.w*v.w) (qd M) l2.1 (by omega) (by omega) (val_mul ha2.2.2.2.1 hb2.2.2.2.1) (ha.2.2.2.2.q hb.2.2.2.2) hB ?_
 intro R3 l3 v3
 refine bQ (u.w*v.w+u.w*v.w) (qd M) l3.1 (by omega) (by omega) (val_add v3.2.1 v3.2.1) (ha.2.2.2.2.qs hb.2.2.2.2 ha.2.2.2.2 hb.2.2.2.2) hB ?_
 intro R4 l4 v4
 have l34:=l3.trans l4 (by omega)
 have l24:=l2.trans l34 (by omega)
 exact k R4 (l1.trans l24 (by omega)) ⟨v1.lo l24 (s+8) _ (by omega) (Nat.le_refl _),v2.lo l34 (s+8) _ (by omega) (Nat.le_refl _),v4⟩
theorem Sn {p l':Tr} {u v:T3} (hR:R.length=128) (hs:s+7<=128) (hB:qd M < B) (hp:Tv s M R p u) (hl:Tv s M R l' v)
  (k:∀ R',Lo s R R'->Tv (s+7) (qd M) R' (lZ s) (mK u v)->Rn B ins l R' Q):Rn B ins (zx s p l'++l) R Q:=by
 unfold zx
 rw[List.append_assoc,List.append_assoc]
 refine bQ (v.x*u.w) (qd M) hR (by omega) (by omega) (val_mul hl.1.2.1 hp.2.2.2.1) (hl.1.2.2.q hp.2.2.2.2) hB ?_
 intro R1 l1 v1
 have hp1:=hp.lo l1 (s+1) M (by omega) (Nat.le_refl _)
 have hl1:=hl.lo l1 (s+1) M (by omega) (Nat.le_refl _)
 refine bQ (v.y*u.w) (qd M) l1.1 (by omega) (by omega) (val_mul hl1.2.1.2.1 hp1.2.2.2.1) (hl.2.1.2.2.q hp.2.2.2.2) hB ?_
 intro R2 l2 v2
 have hp2:=hp1.lo l2 (s+2) M (by omega) (Nat.le_refl _)
 have hl2:=hl1.lo l2 (s+2) M (by omega) (Nat.le_refl _)
 refine kK l2.1 (by omega) hB hl2.1 hp2.1 hl2.2.1 hp2.2.1 ?_
 intro R3 l3 v3
 refine Kk l3.1 (by omega) hB v3 ?_
 intro R4 l4 v4
 have l34:=l3.trans l4 (by omega)
 have l24:=l2.trans l34 (by omega)
 exact k R4 (l1.trans l24 (by omega)) ⟨v1.lo l24 (s+7) _ (by omega) (Nat.le_refl _),v2.lo l34 (s+7) _ (by omega) (Nat.le_refl _),v4⟩
theorem Km {p l':Tr} {u v:T3} (hR:R.length=128) (hs:s+9<=128) (h1:1<=M) (hB:qd M < B) (hp:Tv s M R p u) (hl:Tv s M R l' v)
  (k:∀ R',Lo s R R'->Tv (s+9) (qd M) R' (eD s) (qZ u v)->Rn B ins l R' Q):Rn B ins (tC s p l'++l) R Q:=by
 unfold tC
 rw[List.append_assoc]
 have hq:=iI h1
 refine Kk hR (by omega) (by omega) hl.1 ?_
 intro R1 l1 v1
 have hl1:=hl.lo l1 (s+2) M (by omega) (Nat.le_refl _)
 refine Sn l1.1 (by omega) hB (hp.lo l1 (s+2) M (by omega) (Nat.le_refl _)) (v:=⟨v.y,0 - v.x,v.w⟩) ⟨hl1.2.1,v1,hl1.2.2⟩ ?_
 intro R2 l2 v2
 exact k R2 (l1.trans l2 (by omega)) v2
theorem Ll {p l':Tr} {u v:T3} (hR:R.length=128) (hs:s+18<=128) (h1:1<=M) (hB:qd (qd M) < B) (hp:Tv s M R p u) (hl:Tv s M R l' v)
  (k:∀ R',Lo s R R'->Tv (s+18) (qd (qd M)) R' (dX s) (gT u v)->Rn B ins l R' Q):Rn B ins (jC s p l'++l) R Q:=by
 unfold jC
 rw[List.append_assoc]
 have hq:=iI (aP h1)
 refine Km hR (by omega) h1 (by omega) hp hl ?_
 intro R1 l1 v1
 refine qp l1.1 (by omega) hB v1 (hl.lo l1 (s+9) _ (by omega) (iI h1)) ?_
 intro R2 l2 v2
 exact k R2 (l1.trans l2 (by omega)) v2
theorem Y5 {p l':Tr} {u v:T3} (hR:R.length=128) (hs:s+27<=128) (h1:1<=M) (hB:qd (qd (qd (qd M))) < B) (hp:Tv s M R p u) (hl:Tv s M R l' v)
  (k:∀ R',Lo s R R'->Tv (s+27) (qd (qd (qd (qd M)))) R' (wE s) (Cm u v)->Rn B ins l R' Q):Rn B ins (Eh s p l'++l) R Q:=by
 unfold Eh
 simp only[List.append_assoc]
 have q1:=iI h1
 have q2:=iI (aP h1)
 have q3:=iI (aP (aP h1))
 have q4:=iI (aP (aP (aP h1)))
 refine Ll hR (by omega) h1 (by omega) hp hl ?_
 intro R1 l1 f1
 refine bQ ((gT u v).x+(gT u v).x) (qd (qd (qd M))) l1.1 (by omega) (by omega) (val_add f1.1.2.1 f1.1.2.1) (f1.1.2.2.dbl (aP (aP h1))) (by omega) ?_
 intro R2 l2 v2
 have f2:=f1.lo l2 (s+19) _ (by omega) (Nat.le_refl _)
 refine bQ ((gT u v).y+(gT u v).y) (qd (qd (qd M))) l2.1 (by omega) (by omega) (val_add f2.2.1.2.1 f2.2.1.2.1) (f2.2.1.2.2.dbl (aP (aP h1))) (by omega) ?_
 intro R3 l3 v3
 have f3:=f2.lo l3 (s+20) (qd (qd (qd M))) (by omega) (by omega)
 have v2':=v2.lo l3 (s+20) _ (by omega) (Nat.le_refl _)
 have v3':=v3
 have p3:=hp.lo (l1.trans (l2.trans l3 (by omega)) (by omega)) (s+20) (qd (qd (qd M))) (by omega) (by omega)
 refine mg l3.1 (by omega) hB v2' p3.2.2 p3.1 f3.2.2 ?_
 intro R4 l4 v4
 have f4:=f3.lo l4 (s+23) _ (by omega) (Nat.le_refl _)
 have p4:=p3.lo l4 (s+23) _ (by omega) (Nat.le_refl _)
 refine mg l4.1 (by omega) hB (v3.lo l4 (s+23) _ (by omega) (Nat.le_refl _)) p4.2.2 p4.2.1 f4.2.2 ?_
 intro R5 l5 v5
 have f5:=f4.lo l5 (s+26) _ (by omega) (Nat.le_refl _)
 have p5:=p4.lo l5 (s+26) _ (by omega) (Nat.le_refl _)
 refine bQ ((gT u v).w*u.w) (qd (qd (qd (qd M)))) l5.1 (by omega) (by omega) (val_mul f5.2.2.2.1 p5.2.2.2.1) (f5.2.2.2.2.q p5.2.2.2.2) hB ?_
 intro R6 l6 v6
 have l56:=l5.trans l6 (by omega)
 have l46:=l4.trans l56 (by omega)
 exact k R6 (l1.trans (l2.trans (l3.trans l46 (by omega)) (by omega)) (by omega)) ⟨v4.lo l56 (s+27) _ (by omega) (Nat.le_refl _),v5.lo l6 (s+27) _ (by omega) (Nat.le_refl _),v6⟩
theorem Sj {a b:Tr} {u v:T3} (hR:R.length=128) (hs:s+26<=128) (h1:1<=M) (hB:qd (qd M) < B) (ha:Tv s M R a u) (hb:Tv s M R b v)
  (k:∀ R',Lo s R R'->Tv (s+26) (qd (qd M)) R' (dz s) (kV u v)->Rn B ins l R' Q):Rn B ins (rF s a b++l) R Q:=by
 unfold rF
 simp only[List.append_assoc]
 have q2:=iI (aP h1)
 refine Sl hR (by omega) (by omega) ha hb ?_
 intro R1 l1 v1
 refine qp l1.1 (by omega) (by omega) (ha.lo l1 (s+8) M (by omega) (Nat.le_refl _)) (hb.lo l1 (s+8) M (by omega) (Nat.le_refl _)) ?_
 intro R2 l2 v2
 refine Km l2.1 (by omega) (aP h1) hB (v1.lo l2 (s+17) _ (by omega) (Nat.le_refl _)) v2 ?_
 intro R3 l3 v3
 exact k R3 (l1.trans (l2.trans l3 (by omega)) (by omega)) v3
theorem Y4 {a b c:Tr} {u v t:T3} (hR:R.length=128) (hs:s+61<=128) (h1:1<=M) (hB:qd (qd (qd M)) < B) (ha:Tv s M R a u) (hb:Tv s M R b v) (hc:Tv s M R c t)
  (k:∀ R',Lo s R R'->Tv (s+61) (qd (qd (qd M))) R' (uT s) (vR u v t)->Rn B ins l R' Q):Rn B ins (zW s a b c++l) R Q:=by
 unfold zW
 simp only[List.append_assoc]
 have q3:=iI (aP (aP h1))
 refine Sj hR (by omega) h1 (by omega) ha hb ?_
 intro R1 l1 v1
 refine Sj l1.1 (by omega) h1 (by omega) (ha.lo l1 (s+26) M (by omega) (Nat.le_refl _)) (hc.lo l1 (s+26) M (by omega) (Nat.le_refl _)) ?_
 intro R2 l2 v2
 refine qp l2.1 (by omega) hB (v1.lo l2 (s+52) _ (by omega) (Nat.le_refl _)) v2 ?_
 intro R3 l3 v3
 exact k R3 (l1.trans (l2.trans l3 (by omega)) (by omega)) v3
theorem yC {a b:Tr} {u v:T3} (hR:R.length=128) (hs:s+7<=128) (hB:qd M < B) (ha:Tv s M R a u) (hb:Tv s M R b v)
  (k:∀ R',Lo s R R'->Tv (s+7) (qd M) R' (aD s) (aN u v)->Rn B ins l R' Q):Rn B ins (dh s a b++l) R Q:=by
 unfold dh
 simp only[List.append_assoc]
 refine mg hR (by omega) hB hb.1 ha.2.2 ha.1 hb.2.2 ?_
 intro R1 l1 v1
 have ha1:=ha.lo l1 (s+3) M (by omega) (Nat.le_refl _)
 have hb1:=hb.lo l1 (s+3) M (by omega) (Nat.le_refl _)
 refine mg l1.1 (by omega) hB hb1.2.1 ha1.2.2 ha1.2.1 hb1.2.2 ?_
 intro R2 l2 v2
 have ha2:=ha1.lo l2 (s+6) M (by omega) (Nat.le_refl _)
 have hb2:=hb1.lo l2 (s+6) M (by omega) (Nat.le_refl _)
 refine bQ (u.w*v.w) (qd M) l2.1 (by omega) (by omega) (val_mul ha2.2.2.2.1 hb2.2.2.2.1) (ha.2.2.2.2.q hb.2.2.2.2) hB ?_
 intro R3 l3 v3
 have TF:=l2.trans l3 (by omega)
 exact k R3 (l1.trans TF (by omega)) ⟨v1.lo TF (s+7) _ (by omega) (Nat.le_refl _),v2.lo l3 (s+7) _ (by omega) (Nat.le_refl _),v3⟩
theorem Kj {p:Tr} {u:T3} (hR:R.length=128) (hs:s+5<=128) (hB:qd M < B) (hp:Tv s M R p u)
  (k:∀ R',Lo s R R'->Tv (s+5) (qd M) R' (aR s) (oJ u)->Rn B ins l R' Q):Rn B ins (lH s p++l) R Q:=by
 unfold lH
 rw[List.append_assoc]
 refine bQ (u.x*u.w) (qd M) hR (by omega) (by omega) (val_mul hp.1.2.1 hp.2.2.2.1) (hp.1.2.2.q hp.2.2.2.2) hB ?_
 intro R1 l1 v1
 have hp1:=hp.lo l1 (s+1) M (by omega) (Nat.le_refl _)
 refine bQ (u.y*u.w) (qd M) l1.1 (by omega) (by omega) (val_mul hp1.2.1.2.1 hp1.2.2.2.1) (hp.2.1.2.2.q hp.2.2.2.2) hB ?_
 intro R2 l2 v2
 have hp2:=hp1.lo l2 (s+2) M (by omega) (Nat.le_refl _)
 refine kK l2.1 (by omega) hB hp2.1 hp2.1 hp2.2.1 hp2.2.1 ?_
 intro R3 l3 v3
 have TF:=l2.trans l3 (by omega)
 exact k R3 (l1.trans TF (by omega)) ⟨v1.lo TF (s+5) _ (by omega) (Nat.le_refl _),v2.lo l3 (s+5) _ (by omega) (Nat.le_refl _),v3⟩
theorem Y3 {a b c:Tr} {u v t:T3} (hR:R.length=128) (hs:s+38<=128) (h1:1<=M) (hB:qd (qd (qd M)) < B) (ha:Tv s M R a u) (hb:Tv s M R b v) (hc:Tv s M R c t)
  (k:∀ R',Lo s R R'->Sv (s+38) (qd (qd (qd M))) R' (s+37) (Ja u v t)->Rn B ins l R' Q):Rn B ins (zV s a b c++l) R Q:=by
 unfold zV
 simp only[List.append_assoc]
 have q1:=iI h1
 have q2:=iI (aP h1)
 have q3:=iI (aP (aP h1))
 refine BH hR (by omega) h1 (by omega) ha hb hc ?_
 intro R1 l1 v1
 refine sZ l1.1 (by omega) (by omega) (aP (aP h1)) v1 ?_
 intro R2 l2 v2
 have TD:=l1.trans l2 (by omega)
 have a2:=ha.lo TD (s+18) M (by omega) (Nat.le_refl _)
 have b2:=hb.lo TD (s+18) M (by omega) (Nat.le_refl _)
 have c2:=hc.lo TD (s+18) M (by omega) (Nat.le_refl _)
 refine yC l2.1 (by omega) (by omega) b2 a2 ?_
 intro R3 l3 v3
 refine yC l3.1 (by omega) (by omega) (b2.lo l3 (s+25) M (by omega) (Nat.le_refl _)) (c2.lo l3 (s+25) M (by omega) (Nat.le_refl _)) ?_
 intro R4 l4 v4
 have w3:=v3.lo l4 (s+32) _ (by omega) (Nat.le_refl _)
 refine kK l4.1 (by omega) (by omega) w3.1 v4.1 w3.2.1 v4.2.1 ?_
 intro R5 l5 v5
 refine Kk l5.1 (by omega) (by omega) v5 ?_
 intro R6 l6 v6
 have l36:=l3.trans (l4.trans (l5.trans l6 (by omega)) (by omega)) (by omega)
 have z2:=v2.lo l36 (s+37) _ (by omega) (Nat.le_refl _)
 refine bQ (Ja u v t) (qd (qd (qd M))) l6.1 (by omega) (by omega) (val_mul z2.2.1 v6.2.1) (z2.2.2.q v6.2.2) hB ?_
 intro R7 l7 v7
 exact k R7 (TD.trans (l36.trans l7 (by omega)) (by omega)) v7
theorem Y6 {a b c d:Tr} {u v t x:T3} (hR:R.length=128) (hs:s+50<=128) (h1:1<=M) (hB:qd (qd (qd (qd M))) < B) (ha:Tv s M R a u) (hb:Tv s M R b v) (hc:Tv s M R c t) (hd:Tv s M R d x)
  (k:∀ R',Lo s R R'->Sv (s+50) (qd (qd (qd (qd M)))) R' (s+49) (Ew u v t x)->Rn B ins l R' Q):Rn B ins (BI s a b c d++l) R Q:=by
 unfold BI
 simp only[List.append_assoc]
 have q1:=iI h1
 have q2:=iI (aP h1)
 have q3:=iI (aP (aP h1))
 have q4:=iI (aP (aP (aP h1)))
 refine yC hR (by omega) (by omega) ha hb ?_
 intro R1 l1 v1
 refine yC l1.1 (by omega) (by omega) (ha.lo l1 (s+7) M (by omega) (Nat.le_refl _)) (hc.lo l1 (s+7) M (by omega) (Nat.le_refl _)) ?_
 intro R2 l2 v2
 have TD:=l1.trans l2 (by omega)
 refine yC l2.1 (by omega) (by omega) (ha.lo TD (s+14) M (by omega) (Nat.le_refl _)) (hd.lo TD (s+14) M (by omega) (Nat.le_refl _)) ?_
 intro R3 l3 v3
 have TF:=l2.trans l3 (by omega)
 refine Kj l3.1 (by omega) (by omega) (v1.lo TF (s+21) _ (by omega) (Nat.le_refl _)) ?_
 intro R4 l4 v4
 refine Kj l4.1 (by omega) (by omega) (v2.lo (l3.trans l4 (by omega)) (s+26) _ (by omega) (Nat.le_refl _)) ?_
 intro R5 l5 v5
 have l45:=l4.trans l5 (by omega)
 refine Kj l5.1 (by omega) (by omega) (v3.lo l45 (s+31) _ (by omega) (Nat.le_refl _)) ?_
 intro R6 l6 v6
 have l56:=l5.trans l6 (by omega)
 refine BH l6.1 (by omega) (aP (aP h1)) (by omega) (v4.lo l56 (s+36) _ (by omega) (Nat.le_refl _)) (v5.lo l6 (s+36) _ (by omega) (Nat.le_refl _)) v6 ?_
 intro R7 l7 v7
 exact k R7 (TD.trans (l3.trans (l45.trans (l6.trans l7 (by omega)) (by omega)) (by omega)) (by omega)) v7
theorem Y7 {a b:Tr} {u v:T3} (hR:R.length=128) (hs:s+10<=128) (h1:1<=M) (hB:qd (qd M) < B) (ha:Tv s M R a u) (hb:Tv s M R b v)
  (k:∀ R',Lo s R R'->Sv (s+10) (qd (qd M)) R' (s+9) (Ht u v)->Rn B ins l R' Q):Rn B ins (Cz s a b++l) R Q:=by
 unfold Cz
 rw[List.append_assoc]
 have q2:=iI (aP h1)
 refine yC hR (by omega) (by omega) ha hb ?_
 intro R1 l1 v1
 refine kK l1.1 (by omega) hB v1.1 v1.1 v1.2.1 v1.2.1 ?_
 intro R2 l2 v2
 exact k R2 (l1.trans l2 (by omega)) v2
end
end Go.Proofs.YtmnfndpbblpjiabGreatDoor.Pu

/- Whole numbers in limbs of nine decimal digits: plain. -/
import Derived.Test.YtmnfndpbblpjiabGreatDoorZx08
set_option maxHeartbeats 1600000
set_option maxRecDepth 4000
namespace Go.Proofs.YtmnfndpbblpjiabGreatDoor.Pu
def v9:List Nat->Nat
 | []=>0
 | d :: l=>d+1000000000*v9 l
def D9 (l:List Nat):Prop:=∀ d∈l,d < 1000000000
def T9 (l:List Nat):Prop:=∀ d,l.getLast?=some d->d≠0
theorem nE (a b:List Nat):v9 (a++b)=v9 a+1000000000 ^ a.length*v9 b:=by
 induction a with
 | nil=>simp[v9]
 | cons d a ih =>
  simp only[List.cons_append,v9,ih,List.length_cons,Nat.pow_succ,Nat.mul_add]
  rw[Nat.add_assoc]
  congr 2
  rw[<- Nat.mul_assoc,Nat.mul_comm (1000000000:Nat) (1000000000 ^ a.length)]
theorem zf {a:List Nat} (h:D9 a):v9 a < 1000000000 ^ a.length:=by
 induction a with
 | nil=>simp[v9]
 | cons d a ih =>
  have h1:=h d (by simp)
  have h2:=ih (fun x hx=>h x (by simp[hx]))
  simp only[v9,List.length_cons,Nat.pow_succ]
  omega
theorem BU (n:Nat):v9 (List.replicate n 0)=0:=by
 induction n with
 | zero=>rfl
 | succ n ih=>simp[List.replicate_succ,v9,ih]
theorem KJ {a:List Nat} (ht:T9 a) (hn:a≠[]):1000000000 ^ (a.length - 1)<=v9 a:=by
 obtain⟨b,x,rfl⟩:∃ b x,a=b++[x]:=⟨a.dropLast,a.getLast hn,(List.dropLast_concat_getLast hn).symm⟩
 have hx:x≠0:=ht x (by simp)
 rw[nE]
 simp only[v9,List.length_append,List.length_cons,List.length_nil]
 have:1000000000 ^ b.length*1<=1000000000 ^ b.length*(x+1000000000*0):=Nat.mul_le_mul_left _ (by omega)
 simp at this ⊢
 omega
theorem Ie {l:List Nat}:v9 (l++[0])=v9 l:=by rw[nE];simp[v9]
theorem KI (l:List Nat) (k x:Nat) (hk:k < l.length):v9 (l.set k x)+1000000000 ^ k*l[k]=v9 l+1000000000 ^ k*x:=by
 induction l generalizing k with
 | nil=>simp at hk
 | cons d l ih =>
  cases k with
  | zero=>simp[v9];omega
  | succ k =>
   have hkl:k < l.length:=by simpa using hk
   have:=ih k hkl
   simp only[List.set_cons_succ,v9,List.getElem_cons_succ,Nat.pow_succ]
   have e1:1000000000 ^ k*1000000000*l[k]=1000000000*(1000000000 ^ k*l[k]):=by rw[Nat.mul_comm (1000000000 ^ k) 1000000000,Nat.mul_assoc]
   have e2:1000000000 ^ k*1000000000*x=1000000000*(1000000000 ^ k*x):=by rw[Nat.mul_comm (1000000000 ^ k) 1000000000,Nat.mul_assoc]
   rw[e1,e2]
   omega
theorem EO (l:List Nat) (k:Nat) (hk:k < l.length):v9 (l.take (k+1))=v9 (l.take k)+1000000000 ^ k*l[k]:=by
 rw[List.take_succ_eq_append_getElem hk,nE,List.length_take,Nat.min_eq_left (by omega)]
 simp[v9]
def bB (neg:Bool) (l:List Nat):Int:=if neg then -(v9 l:Int) else (v9 l:Int)
def C9 (neg:Bool) (l:List Nat):Prop:=D9 l/\T9 l/\(l=[]->neg=false)
theorem Zl {l:List Nat} (ht:T9 l) (h:v9 l=0):l=[]:=by
 cases hl:l with
 | nil=>rfl
 | cons d q =>
  have h1:=KJ ht (by rw[hl];simp)
  have h2:0 < 1000000000 ^ (l.length - 1):=Nat.pow_pos (by omega)
  omega
def cZ (L:List Nat) (a:Nat) (b:List Nat) (f:Nat):Nat->List Nat
 | 0=>L
 | k+1=>(cZ L a b f k).set (a+k) ((cZ L a b f k)[a+k]?.getD 0+b[k]?.getD 0*f)
theorem qw (L:List Nat) (a:Nat) (b:List Nat) (f k:Nat):(cZ L a b f k).length=L.length:=by
 induction k with
 | zero=>rfl
 | succ k ih=>simp[cZ,ih]
theorem Dj (L:List Nat) (a:Nat) (b:List Nat) (f k i:Nat) (hi:a+k<=i):(cZ L a b f k)[i]?=L[i]?:=by
 induction k with
 | zero=>rfl
 | succ k ih=>simp only[cZ];rw[List.getElem?_set,if_neg (by omega)];exact ih (by omega)
theorem yF (L:List Nat) (a:Nat) (b:List Nat) (f k:Nat) (hk:k<=b.length) (ha:a+b.length<=L.length):v9 (cZ L a b f k)=v9 L+1000000000 ^ a*(f*v9 (b.take k)):=by
 induction k with
 | zero=>simp[cZ,v9]
 | succ k ih =>
  have hkb:k < b.length:=by omega
  have hl:a+k < (cZ L a b f k).length:=by rw[qw];omega
  have hs:=KI (cZ L a b f k) (a+k) ((cZ L a b f k)[a+k]+b[k]*f) hl
  have e:cZ L a b f (k+1)=(cZ L a b f k).set (a+k) ((cZ L a b f k)[a+k]+b[k]*f):=by simp[cZ,hl,hkb]
  rw[e,EO b k hkb]
  rw[ih (by omega),Nat.mul_add (1000000000 ^ (a+k))]at hs
  have e2:1000000000 ^ a*(f*(v9 (b.take k)+1000000000 ^ k*b[k]))=1000000000 ^ a*(f*v9 (b.take k))+1000000000 ^ (a+k)*(b[k]*f):=by
   rw[Nat.mul_add,Nat.mul_add,Nat.pow_add]
   congr 1
   rw[Nat.mul_comm (b[k]) f,Nat.mul_left_comm f,Nat.mul_assoc]
  rw[e2]
  omega
def Bd (L:List Nat) (M:Nat):Prop:=∀ x∈L,x<=M
theorem wS {L:List Nat} {a:Nat} {b:List Nat} {f M N:Nat} (hL:Bd L M) (hb:Bd b N) (k:Nat):Bd (cZ L a b f k) (M+N*f):=by
 have key:∀ (i x:Nat),(cZ L a b f k)[i]?=some x->x<=M+N*f:=by
  induction k with
  | zero=>intro i x hx;have:=hL x (List.mem_of_getElem? hx);omega
  | succ k ih =>
   intro i x hx
   simp only[cZ]at hx
   rw[List.getElem?_set]at hx
   by_cases e:a+k=i
   ·rw[if_pos e]at hx
    split at hx
    ·simp at hx
     rw[Dj L a b f k (a+k) (Nat.le_refl _)]at hx
     have h1:L[a+k]?.getD 0<=M:=by
      cases h:L[a+k]? with
      | none=>simp
      | some y=>simpa using hL y (List.mem_of_getElem? h)
     have h2:b[k]?.getD 0<=N:=by
      cases h:b[k]? with
      | none=>simp
      | some y=>simpa using hb y (List.mem_of_getElem? h)
     have h3:b[k]?.getD 0*f<=N*f:=Nat.mul_le_mul_right _ h2
     omega
    ·cases hx
   ·rw[if_neg e]at hx
    exact ih i x hx
 intro x hx
 obtain⟨i,hi⟩:=List.getElem?_of_mem hx
 exact key i x hi
theorem Bd.at {L:List Nat} {M k:Nat} (h:Bd L M) (hk:k < L.length):L[k]<=M:=h _ (List.getElem_mem hk)
theorem D9.bd {L:List Nat} (h:D9 L):Bd L 999999999:=fun x hx=>by have:=h x hx;omega
def bf (L:List Nat):Nat->List Nat × Nat
 | 0=>(L,0)
 | k+1=>let c:=bf L k;(c.1.set k ((c.1[k]?.getD 0+c.2) % 1000000000),(c.1[k]?.getD 0+c.2) / 1000000000)
theorem lD (L:List Nat) (k:Nat):(bf L k).1.length=L.length:=by
 induction k with
 | zero=>rfl
 | succ k ih=>simp[bf,ih]
theorem CP (L:List Nat) (k i:Nat) (hi:k<=i):(bf L k).1[i]?=L[i]?:=by
 induction k with
 | zero=>rfl
 | succ k ih=>simp only[bf];rw[List.getElem?_set,if_neg (by omega)];exact ih (by omega)
theorem Fq (L:List Nat) (k i x:Nat) (hi:i < k) (hx:(bf L k).1[i]?=some x):x < 1000000000:=by
 induction k generalizing x with
 | zero=>omega
 | succ k ih =>
  simp only[bf]at hx
  rw[List.getElem?_set]at hx
  by_cases e:k=i
  ·rw[if_pos e]at hx
   split at hx
   ·simp at hx;rw[<- hx];exact Nat.mod_lt _ (by omega)
   ·cases hx
  ·rw[if_neg e]at hx
   exact ih x (by omega) hx
theorem Ml (L:List Nat) (k:Nat) (hk:k<=L.length):v9 (bf L k).1+1000000000 ^ k*(bf L k).2=v9 L:=by
 induction k with
 | zero=>simp[bf]
 | succ k ih =>
  have hl:k < (bf L k).1.length:=by rw[lD];omega
  have ih':=ih (by omega)
  have hs:=KI (bf L k).1 k (((bf L k).1[k]+(bf L k).2) % 1000000000) hl
  have e:bf L (k+1)=((bf L k).1.set k (((bf L k).1[k]+(bf L k).2) % 1000000000),((bf L k).1[k]+(bf L k).2) / 1000000000):=by simp[bf,hl]
  rw[e]
  generalize (bf L k).1=A at *
  generalize (bf L k).2=c at *
  have hd:=Nat.div_add_mod (A[k]+c) 1000000000
  generalize (A[k]+c) / 1000000000=q at *
  generalize (A[k]+c) % 1000000000=r at *
  simp only
  have e1:1000000000 ^ (k+1)*q=1000000000 ^ k*(1000000000*q):=by rw[Nat.pow_succ,Nat.mul_assoc]
  have e2:1000000000 ^ k*(1000000000*q)+1000000000 ^ k*r=1000000000 ^ k*A[k]+1000000000 ^ k*c:=by rw[<- Nat.mul_add,hd,Nat.mul_add]
  rw[e1]
  omega
theorem Jf {L:List Nat} {M:Nat} (hL:Bd L M) (hM:M<=17000000000000000000) (k:Nat):(bf L k).2<=18000000000:=by
 induction k with
 | zero=>simp[bf]
 | succ k ih =>
  simp only[bf]
  have:(bf L k).1[k]?.getD 0<=M:=by
   rw[CP L k k (Nat.le_refl _)]
   cases h:L[k]? with
   | none=>simp
   | some y=>simpa using hL y (List.mem_of_getElem? h)
  omega
theorem zD {L:List Nat} {k:Nat} (hk:k=L.length) (hv:v9 L < 1000000000 ^ L.length):D9 (bf L k).1/\v9 (bf L k).1=v9 L:=by
 subst hk
 have h:=Ml L L.length (Nat.le_refl _)
 have h0:(bf L L.length).2=0:=by
  refine Nat.eq_zero_of_not_pos fun hp=>?_
  have:1000000000 ^ L.length*1<=1000000000 ^ L.length*(bf L L.length).2:=Nat.mul_le_mul_left _ hp
  omega
 rw[h0]at h
 refine⟨fun d hd=>?_,by omega⟩
 obtain⟨i,hi⟩:=List.getElem?_of_mem hd
 have hil:=(List.getElem?_eq_some_iff.1 hi).1
 rw[lD]at hil
 exact Fq L L.length i d hil hi
end Go.Proofs.YtmnfndpbblpjiabGreatDoor.Pu

/- The program's rows of limbs: addRow. -/
namespace Go.Proofs.YtmnfndpbblpjiabGreatDoor
open Go.RowKit Pu
def mW (l:List Nat):List Value:=l.map fun (n:Nat)=>Value.int .u64 (n:Int)
theorem EN (d:List Nat) (k x:Nat):(mW d).set k (.int .u64 (x:Int))=mW (d.set k x):=by simp[mW,List.map_set]
theorem jk {w:World} {base n:Nat} {ao:Option Addr} {cap:Nat} {l:List Nat} (h:w.ownsRow base 188 1 (.slice ao n cap) n (mW l)) (hn:n=l.length) {k:Nat} (hk:k < l.length) :
  ∃ gb,ao=some ⟨gb,0,none⟩/\w.cell? ⟨gb,k,none⟩=some (.int .u64 (l[k]:Int)):=by
 subst hn
 obtain⟨gb,rfl,hc⟩:=iM h (j:=k) (by omega)
 exact⟨gb,rfl,by rw[hc];simp[mW,hk]⟩
def Tl (w:World) (tb:Nat) (v:Value):Prop:=w.heap[tb]?=some (.cells #[v] 248 (0,0))
theorem Tl.c0 {w:World} {tb:Nat} {v:Value} (h:Tl w tb v):w.cell? ⟨tb,0,none⟩=some v:=by unfold Tl at h;simp[World.cell?,h]
theorem Tl.keep {p:Nat->Prop} {w w':World} {tb:Nat} {v:Value} (h:Tl w tb v) (hm:Mod p w w') (hp:¬ p tb):Tl w' tb v:=hm.keep h hp
theorem wrap_u64 {n:Int} (h0:0<=n) (h:n < 18446744073709551616):IntKind.u64.wrap n=n:=by
 simp[IntKind.wrap,IntKind.signed,IntKind.bits];omega
theorem uS (tb gt tu:Nat) (bv:Value) (L b:List Nat) (a f M base rO:Nat) (w:World) (hT:Tl w tb (.slice (some ⟨gt,0,none⟩) L.length tu)) (hL:w.ownsRow base 188 1 (.slice (some ⟨gt,0,none⟩) L.length tu) L.length (mW L)) (hB:w.ownsRow rO 188 1 bv b.length (mW b))
  (hne:∀ g,bv.ownBlock=some g->g≠gt) (hnt:tb≠gt) (ha:a+b.length<=L.length) (hl:L.length<=100000) (hM:Bd L M) (hb:D9 b) (hf:f < 1000000000) (hMM:M<=17000000000000000000) :
  Calls Tryz.prog 207 #[.pointer (some ⟨tb,0,none⟩),.int .i64 a,bv,.int .u64 f] w fun e w'=>e=.returned (.tuple #[])/\Mod (fun q=>q=gt) w w'/\w'.ownsRow base 188 1 (.slice (some ⟨gt,0,none⟩) L.length tu) L.length (mW (cZ L a b f b.length)):=by
 obtain⟨bo,cK,rfl,-⟩:=aj hB
 have HBd:Hid (∀ k,Bd (cZ L a b f k) (M+999999999*f)):=fun k=>wS hM hb.bd k
 have Xm:Hid (∀ k,(cZ L a b f k)[a+k]?=L[a+k]?):=fun k=>Dj L a b f k (a+k) (Nat.le_refl _)
 have HM:Hid (Bd L M):=hM
 have HD:Hid (D9 b):=hb
 have Xp:Hid (∀ k,(cZ L a b f k).length=L.length):=fun k=>qw L a b f k
 have fP:Hid _:=hne
 clear hM hb hne
 go_in
 go_wp2_with fail
 go_loopw [8] (fun kv wr=>∃ k:Nat,k<=b.length/\kv=.int .i64 k/\wr.ownsRow base 188 1 (.slice (some ⟨gt,0,none⟩) L.length tu) L.length (mW (cZ L a b f k))/\Mod (fun q=>q=gt) w wr) (fun kv _=>b.length - (intOf kv).toNat)
 case atStart=>exact⟨0,by omega,rfl,hL,Mod.refl _ _⟩
 case round =>
  clear hL
  obtain⟨k,hk,rfl,hown,hm⟩:=hrel
  have t0:=(hT.keep hm hnt).c0
  by_cases hlt:k < b.length
  ·have hBr:=dW hB hm (fun g h1 h2=>fP.out g h1 h2)
   obtain⟨gb,rfl,cb⟩:=jk hBr rfl hlt
   have hak:a+k < (cZ L a b f k).length:=by rw[Xp.out];omega
   obtain⟨g2,hg2,ca⟩:=jk hown (Xp.out k).symm hak
   injection hg2 with hg2
   injection hg2 with hg2
   subst hg2
   have hfz:=hown.frozenAt (a+k)
   have hbk:b[k] < 1000000000:=HD.out _ (List.getElem_mem hlt)
   have haL:(cZ L a b f k)[a+k]<=M:=by
    have h1:=Xm.out k
    rw[List.getElem?_eq_getElem hak,List.getElem?_eq_getElem (by omega)]at h1
    rw[Option.some.inj h1]
    exact HM.out.at (by omega)
   have Zr:Hid (cZ L a b f (k+1)=(cZ L a b f k).set (a+k) ((cZ L a b f k)[a+k]+b[k]*f)):=show _=_ by simp[cZ,hak,hlt]
   have hst:(wr.setCell ⟨gt,a+k,none⟩ (.int .u64 (((cZ L a b f k)[a+k]+b[k]*f:Nat):Int))).ownsRow base 188 1 (.slice (some ⟨gt,0,none⟩) L.length tu) L.length (mW (cZ L a b f (k+1))):=by
    rw[Zr.out,<- EN];exact (hown.stored (a+k) _).1
   have hm2:Mod (fun q=>q=gt) w (wr.setCell ⟨gt,a+k,none⟩ (.int .u64 (((cZ L a b f k)[a+k]+b[k]*f:Nat):Int))):=hm.setCell ⟨gt,a+k,none⟩ _ (fun _=>rfl)
   have HST:Hid _:=zI hst hm2
   clear hst hm2 hown hBr Zr
   generalize (cZ L a b f k)[a+k]=x at *
   generalize b[k]=y at *
   have hyf:y*f<=999999999*999999999:=Nat.mul_le_mul (by omega) (by omega)
   have w1:IntKind.u64.wrap ((y:Int)*(f:Int))=(y:Int)*(f:Int):=by
    rw[<- Int.natCast_mul];exact wrap_u64 (by omega) (by omega)
   have w2:IntKind.u64.wrap ((x:Int)+(y:Int)*(f:Int))=(x:Int)+(y:Int)*(f:Int):=by
    rw[<- Int.natCast_mul];exact wrap_u64 (by omega) (by omega)
   have w3:IntKind.i64.wrap ((a:Int)+(k:Int))=(a:Int)+(k:Int):=by
    simp[IntKind.wrap,IntKind.signed,IntKind.bits];omega
   have q1:(a:Int)+(k:Int) < (L.length:Int):=by omega
   have q0:(0:Int)<=(a:Int)+(k:Int):=by omega
   have q2:((a:Int)+(k:Int)).toNat=a+k:=by omega
   clear hyf
   go_wp2
   go_region
   go_wp2
   go_roundw
   case rel =>
    have h2:=HST.out
    rw[show ((x+y*f:Nat):Int)=(x:Int)+(y:Int)*(f:Int) by simp]at h2
    exact⟨k+1,by omega,by go_num,h2.1.drew,h2.2.drew⟩
   case measure=>simp[intOf];omega
  ·have hks:k=b.length:=by omega
   subst hks
   go_wp2
   exact bodyPost_end (v:=.tuple #[]) (by simp[results,Tryz.results207]) rfl ⟨rfl,hm,hown⟩
theorem tN (tb gt tu:Nat) (L:List Nat) (M base:Nat) (w:World) (hT:Tl w tb (.slice (some ⟨gt,0,none⟩) L.length tu)) (hL:w.ownsRow base 188 1 (.slice (some ⟨gt,0,none⟩) L.length tu) L.length (mW L))
  (hnt:tb≠gt) (hl:L.length<=100000) (hM:Bd L M) (hMM:M<=17000000000000000000) :
  Calls Tryz.prog 202 #[.pointer (some ⟨tb,0,none⟩)] w fun e w'=>e=.returned (.tuple #[])/\Mod (fun q=>q=gt) w w'/\w'.ownsRow base 188 1 (.slice (some ⟨gt,0,none⟩) L.length tu) L.length (mW (bf L L.length).1):=by
 have HO:Hid (∀ k,(bf L k).2<=18000000000):=fun k=>Jf hM hMM k
 have Xm:Hid (∀ k,(bf L k).1[k]?=L[k]?):=fun k=>CP L k k (Nat.le_refl _)
 have HM:Hid (Bd L M):=hM
 have Xp:Hid (∀ k,(bf L k).1.length=L.length):=fun k=>lD L k
 have t00:=hT.c0
 clear hM
 go_in
 go_wp2_with fail
 go_loopw [2,10] (fun ov kv wr=>∃ k:Nat,k<=L.length/\kv=.int .i64 k/\ov=.int .u64 ((bf L k).2:Int)/\wr.ownsRow base 188 1 (.slice (some ⟨gt,0,none⟩) L.length tu) L.length (mW (bf L k).1)/\Mod (fun q=>q=gt) w wr) (fun _ kv _=>L.length - (intOf kv).toNat)
 case atStart=>exact⟨0,by omega,rfl,rfl,hL,Mod.refl _ _⟩
 case round =>
  clear hL t00
  obtain⟨k,hk,rfl,rfl,hown,hm⟩:=hrel
  have t0:=(hT.keep hm hnt).c0
  by_cases hlt:k < L.length
  ·have hak:k < (bf L k).1.length:=by rw[Xp.out];exact hlt
   obtain⟨g2,hg2,ca⟩:=jk hown (Xp.out k).symm hak
   injection hg2 with hg2
   injection hg2 with hg2
   subst hg2
   have hfz:=hown.frozenAt k
   have hxM:(bf L k).1[k]<=M:=by
    have h1:=Xm.out k
    rw[List.getElem?_eq_getElem hak,List.getElem?_eq_getElem hlt]at h1
    rw[Option.some.inj h1]
    exact HM.out.at hlt
   have hov:=HO.out k
   have Zr:Hid (bf L (k+1)=((bf L k).1.set k (((bf L k).1[k]+(bf L k).2) % 1000000000),((bf L k).1[k]+(bf L k).2) / 1000000000)):=show _=_ by simp[bf,hak]
   have hst:(wr.setCell ⟨gt,k,none⟩ (.int .u64 ((((bf L k).1[k]+(bf L k).2) % 1000000000:Nat):Int))).ownsRow base 188 1 (.slice (some ⟨gt,0,none⟩) L.length tu) L.length (mW (bf L (k+1)).1):=by
    rw[Zr.out,<- EN];exact (hown.stored k _).1
   have hm2:Mod (fun q=>q=gt) w (wr.setCell ⟨gt,k,none⟩ (.int .u64 ((((bf L k).1[k]+(bf L k).2) % 1000000000:Nat):Int))):=hm.setCell ⟨gt,k,none⟩ _ (fun _=>rfl)
   have Ce:Hid ((bf L (k+1)).2=((bf L k).1[k]+(bf L k).2) / 1000000000):=show _=_ by rw[Zr.out]
   have HST:Hid _:=zI hst hm2
   clear hst hm2 hown Zr
   generalize (bf L k).1[k]=x at *
   generalize (bf L k).2=y at *
   have w1:IntKind.u64.wrap ((x:Int)+(y:Int))=(x:Int)+(y:Int):=wrap_u64 (by omega) (by omega)
   go_wp2
   go_roundw
   case rel =>
    have h2:=HST.out
    rw[show (((x+y) % 1000000000:Nat):Int)=((x:Int)+(y:Int)) % 1000000000 by omega]at h2
    exact⟨k+1,by omega,by go_num,by rw[Ce.out];congr 1,h2.1,h2.2⟩
   case measure=>simp[intOf];omega
  ·have hks:k=L.length:=by omega
   subst hks
   go_wp2
   exact bodyPost_end (v:=.tuple #[]) (by simp[results,Tryz.results202]) rfl ⟨rfl,hm,hown⟩
theorem NU {w:World} {base:Nat} {e:TypeId} {g n cap:Nat} {l:List Nat} (h:w.ownsRow base e 1 (.slice (some ⟨g,0,none⟩) n cap) n (mW l)) (m:Nat) (hm:m<=n):w.ownsRow base e 1 (.slice (some ⟨g,0,none⟩) m cap) m (mW (l.take m)):=by
 obtain⟨hl,⟨he,_⟩ | ⟨g',cap',cur,he,hb,hg,h1,h2,h3,h4⟩⟩:=h
 ·simp at he
 ·simp at he
  obtain⟨rfl,rfl⟩:=he
  have hll:l.length=n:=by simpa [mW] using hl
  refine⟨by simp[mW];omega,.inr ⟨g,cap,cur,rfl,hb,hg,by omega,h2,h3,?_⟩⟩
  have:(mW (l.take m))=(mW l).take m:=by simp[mW,List.map_take]
  rw[this,<- h4,List.take_take]
  congr 1
  omega
theorem PG (tb gt tu:Nat) (L:List Nat) (base:Nat) (w:World) (hT:Tl w tb (.slice (some ⟨gt,0,none⟩) L.length tu)) (hL:w.ownsRow base 188 1 (.slice (some ⟨gt,0,none⟩) L.length tu) L.length (mW L)) (hl:L.length<=100000) :
  Calls Tryz.prog 203 #[.pointer (some ⟨tb,0,none⟩)] w fun e w'=>Mod (fun _=>False) w w'/\∃ n ao,e=.returned (.slice ao n tu)/\n<=L.length/\w'.ownsRow base 188 1 (.slice ao n tu) n (mW (L.take n))/\v9 (L.take n)=v9 L/\T9 (L.take n):=by
 have t0:=hT.c0
 go_in
 go_wp2_with fail
 go_loop [3] (fun kv=>∃ n:Nat,n<=L.length/\kv=.int .i64 n/\Hid (v9 (L.take n)=v9 L)) (fun kv=>(intOf kv).toNat)
 case atStart=>exact⟨L.length,by omega,rfl,show v9 _=_ by rw[List.take_length]⟩
 case round =>
  obtain⟨n,hn,rfl,HV⟩:=hrel
  have hcap:L.length<=tu:=by
   obtain⟨_,⟨he,_⟩ | ⟨g',cap',cur,he,_,_,h1,_⟩⟩:=hL
   ·simp at he
   ·simp at he;omega
  have hE:=NU hL n hn
  rcases Nat.eq_zero_or_pos n with hz | hz
  ·have HT:Hid (T9 (L.take n)):=by subst hz;intro d hd;simp at hd
   have hn0:¬ (0:Int) < (n:Int):=by omega
   have hn1:(n:Int)<=0:=by omega
   clear hz
   go_wp2
   go_ret
   exact⟨Mod.refl _ _,n,_,rfl,hn,hE,HV.out,HT.out⟩
  ·obtain⟨m,rfl⟩:∃ j,n=j+1:=⟨n - 1,by omega⟩
   clear hz
   have hml:m < L.length:=by omega
   obtain⟨gb,hgb,cm⟩:=jk hL rfl hml
   injection hgb with hgb
   injection hgb with hgb
   subst hgb
   have ZO:Hid (L.take (m+1)=L.take m++[L[m]]):=show _=_ by rw[List.take_succ_eq_append_getElem hml]
   by_cases h0:L[m]=0
   ·have Xq:Hid (v9 (L.take m)=v9 L):=show v9 (L.take m)=v9 L by rw[<- HV.out,ZO.out,h0,Ie]
    have hb:((L[m]:Int) == 0)=true:=bN (m:=0) h0
    clear h0
    go_wp2
    go_round
    case rel=>exact⟨m,by omega,by go_num,Xq⟩
    case measure=>simp[intOf]
   ·have hb:((L[m]:Int) == 0)=false:=aF (m:=0) h0
    have HT:Hid (T9 (L.take (m+1))):=show T9 _ by
     intro d hd
     rw[ZO.out,List.getLast?_concat]at hd
     injection hd with hd
     rw[<- hd];exact h0
    clear h0
    go_wp2
    go_ret
    exact⟨Mod.refl _ _,m+1,_,rfl,hn,hE,HV.out,HT.out⟩
theorem Tryz.infoU:(Tryz.prog.info? 188).map (fun i=>(i.zero,i.size,i.bytes))=some (some (.int .u64 0),1,8):=by kernel_rfl
theorem JK (n:Nat):(madeCells #[Value.int .u64 0] (n*1)).toList=mW (List.replicate n 0):=by rw[toList_madeCells_one];simp[mW]
def zR (w:World) (x:Nat) (n:Nat) (e:Ending) (w':World):Prop:=Mod (fun _=>False) w w'/\∃ v l,e=.returned v/\w'.ownsRow w.heap.size 188 1 v l.length (mW l)/\D9 l/\T9 l/\v9 l=x/\l.length<=n
theorem Ev (n:Nat):Bd (List.replicate n 0) 0:=fun x hx=>by rw[List.eq_of_mem_replicate hx];exact Nat.le_refl _
theorem KU {l:List Nat} (h:D9 l) (n:Nat):D9 (l.take n):=fun d hd=>h d (List.mem_of_mem_take hd)
theorem EL (w:World) (v:Value):Tl (w.alloc (.cells #[v] 248)) w.heap.size v:=heap_alloc_new w _
theorem yw {w:World} {base n:Nat} {v:Value} {xs:List Value} (h:w.ownsRow base 188 1 v n xs) {g:Nat} (hg:v.ownBlock=some g):g < w.heap.size:=(h.lt g hg).2
theorem vW {w W:World} {tb gt n:Nat} {L:List Nat} {x:Nat} (hT:Tl W tb (.slice (some ⟨gt,0,none⟩) n n)) (hO:W.ownsRow w.heap.size 188 1 (.slice (some ⟨gt,0,none⟩) n n) n (mW L)) (hl:L.length=n) (hn:n<=100000) (hd:D9 L) (hv:v9 L=x) (hm:Mod (fun _=>False) w W) :
  Calls Tryz.prog 203 #[.pointer (some ⟨tb,0,none⟩)] W (zR w x n):=by
 subst hl
 refine (PG tb gt L.length L w.heap.size W hT hO hn).mono ?_
 rintro e w' ⟨hm',k,ao,rfl,hk,hown,hvk,htk⟩
 have hlen:(L.take k).length=k:=by simp;omega
 exact⟨hm.trans hm',_,L.take k,rfl,by rw[hlen];exact hown,KU hd k,htk,hvk.trans hv,by omega⟩
theorem Ot (av bv:Value) (a b:List Nat) (yO rO:Nat) (w:World) (hA:w.ownsRow yO 188 1 av a.length (mW a)) (hB:w.ownsRow rO 188 1 bv b.length (mW b)) (da:D9 a) (db:D9 b) (la:a.length<=50000) (lb:b.length<=50000) :
  Calls Tryz.prog 204 #[av,bv] w (zR w (v9 a+v9 b) (max a.length b.length+1)):=by
 obtain⟨i0,hii,hz0,hz1,hz2⟩:=info_parts Tryz.infoU
 obtain⟨m,hm,hma,hmb⟩:∃ m,max a.length b.length=m/\a.length<=m/\b.length<=m:=⟨_,rfl,Nat.le_max_left _ _,Nat.le_max_right _ _⟩
 have HMX:Hid (max a.length b.length=m):=hm
 have hml:m<=50000:=by omega
 have hcs:(a.length < b.length/\m=b.length)\/(¬ a.length < b.length/\m=a.length):=by omega
 clear hm
 have HV:Hid (v9 a+v9 b < 1000000000 ^ (m+1)):=show _ < _ by
  have h1:=zf da
  have h2:=zf db
  have h3:1000000000 ^ a.length<=1000000000 ^ m:=Nat.pow_le_pow_right (by omega) hma
  have h4:1000000000 ^ b.length<=1000000000 ^ m:=Nat.pow_le_pow_right (by omega) hmb
  rw[Nat.pow_succ]
  omega
 rw[HMX.out]
 obtain⟨ao,aK,rfl,-⟩:=aj hA
 obtain⟨bo,cK,rfl,-⟩:=aj hB
 rcases hcs with ⟨hc,hcm⟩ | ⟨hc,hcm⟩
 all_goals
  have HCM:Hid _:=hcm
  clear hcm
  go_in
  go_wp2_with (at_make;refine wpList_make_full _ rfl _ _ 139 rfl w.heap.size 188 i0 (.int .u64 0) 1 Tryz.underlying139 hii hz0 hz1 _ _ _ _ (m+1) rfl rfl (by have:=HCM.out;omega) (by have:=HCM.out;omega) (by rw[hz2];omega) (by unfold maxLen;omega) (by simp) ?_)
  intro W hown0 gK
  have hm0:=(Mod.refl (fun _=>False) w).grown gK (fun k hk _=>by cases hk)
  have hown1:W.ownsRow w.heap.size 188 1 (.slice (some ⟨w.heap.size,0,none⟩) (m+1) (m+1)) (m+1) (mW (List.replicate (m+1) 0)):=by
   rw[<- JK];simpa using hown0
  clear gK hown0
  have hwl:w.heap.size < W.heap.size:=yw hown1 rfl
  have eu:Mod (fun _=>False) W (W.alloc (.cells #[.slice (some ⟨w.heap.size,0,none⟩) (m+1) (m+1)] 248)):=(Mod.refl _ W).alloc _
  have hT1:=EL W (.slice (some ⟨w.heap.size,0,none⟩) (m+1) (m+1))
  have HH:Hid _:=zI (au hown1 eu (fun _ _ f=>f)) (zI hT1 (hm0.trans eu))
  clear hown1 hT1 eu hm0
  go_wp2_with fail
  generalize W.alloc (.cells #[.slice (some ⟨w.heap.size,0,none⟩) (m+1) (m+1)] 248)=W1 at *
  obtain⟨mZ,hT1,hm1⟩:=HH.out
  clear HH
  have hrl:(List.replicate (m+1) 0).length=m+1:=by simp
  have r1:=uS W.heap.size w.heap.size (m+1) (.slice ao a.length aK) (List.replicate (m+1) 0) a 0 1 0 w.heap.size yO W1 (by rw[hrl];exact hT1) (by rw[hrl];exact mZ) (au hA hm1 (fun _ _ f=>f)) (fun g hg e=>by have:=yw hA hg;omega) (by omega) (by omega) (by omega) (Ev _) da (by omega) (by omega)
  rw[hrl]at r1
  refine r1.mono ?_
  rintro e W2 ⟨rfl,hm2,hO2⟩
  have uE:Mod (fun _=>False) w W2:=((hm1.mono (q:=fun q=>q=w.heap.size) (fun _ _ f=>f.elim)).trans hm2).mono (fun q hq h=>by omega)
  have Qh:Tl W2 W.heap.size (.slice (some ⟨w.heap.size,0,none⟩) (m+1) (m+1)):=hT1.keep hm2 (by omega)
  have hl2:(cZ (List.replicate (m+1) 0) 0 a 1 a.length).length=m+1:=by rw[qw];exact hrl
  have hb2:Bd (cZ (List.replicate (m+1) 0) 0 a 1 a.length) 999999999:=by simpa using wS (a:=0) (f:=1) (Ev (m+1)) da.bd a.length
  have hv2:v9 (cZ (List.replicate (m+1) 0) 0 a 1 a.length)=v9 a:=by rw[yF _ _ _ _ _ (Nat.le_refl _) (by omega),BU,List.take_length];simp
  generalize cZ (List.replicate (m+1) 0) 0 a 1 a.length=L2 at *
  clear r1 mZ hT1 hm1 hm2
  have r2:=uS W.heap.size w.heap.size (m+1) (.slice bo b.length cK) L2 b 0 1 999999999 w.heap.size rO W2 (by rw[hl2];exact Qh) (by rw[hl2];exact hO2) (au hB uE (fun _ _ f=>f)) (fun g hg e=>by have:=yw hB hg;omega) (by omega) (by omega) (by omega) hb2 db (by omega) (by omega)
  rw[hl2]at r2
  have HL2:Hid (L2.length=m+1):=hl2
  have Xq:Hid (v9 L2=v9 a):=hv2
  clear hl2 hrl hv2
  go_wp2_with fail
  refine r2.mono ?_
  rintro e W3 ⟨rfl,aC,hO3⟩
  have aaL:Mod (fun _=>False) w W3:=((uE.mono (q:=fun q=>q=w.heap.size) (fun _ _ f=>f.elim)).trans aC).mono (fun q hq h=>by omega)
  have hT3:Tl W3 W.heap.size (.slice (some ⟨w.heap.size,0,none⟩) (m+1) (m+1)):=Qh.keep aC (by omega)
  have hl3:(cZ L2 0 b 1 b.length).length=m+1:=by rw[qw];exact HL2.out
  have hb3:Bd (cZ L2 0 b 1 b.length) 1999999998:=by simpa using wS (a:=0) (f:=1) hb2 db.bd b.length
  have hv3:v9 (cZ L2 0 b 1 b.length)=v9 a+v9 b:=by rw[yF _ _ _ _ _ (Nat.le_refl _) (by rw[HL2.out];omega),Xq.out,List.take_length];simp
  generalize cZ L2 0 b 1 b.length=L3 at *
  clear r2 hO2 Qh uE aC hb2
  have r3:=tN W.heap.size w.heap.size (m+1) L3 1999999998 w.heap.size W3 (by rw[hl3];exact hT3) (by rw[hl3];exact hO3) (by omega) (by omega) hb3 (by omega)
  have hce:=zD (L:=L3) hl3.symm (by rw[hv3,hl3];exact HV.out)
  have hl4:(bf L3 (m+1)).1.length=m+1:=by rw[lD];exact hl3
  rw[hv3]at hce
  rw[hl3]at r3
  generalize (bf L3 (m+1)).1=L4 at *
  have HX:Hid _:=zI hce hl4
  clear hl3 hce hl4 hv3
  go_wp2_with fail
  refine r3.mono ?_
  rintro e W4 ⟨rfl,aO,hO4⟩
  have Cj:Mod (fun _=>False) w W4:=((aaL.mono (q:=fun q=>q=w.heap.size) (fun _ _ f=>f.elim)).trans aO).mono (fun q hq h=>by omega)
  have Tz:Tl W4 W.heap.size (.slice (some ⟨w.heap.size,0,none⟩) (m+1) (m+1)):=hT3.keep aO (by omega)
  obtain⟨⟨hd4,hv4⟩,hl4⟩:=HX.out
  have r4:=vW Tz hO4 hl4 (by omega) hd4 hv4 Cj
  clear hd4 hv4 hl4 HX r3 hO3 hT3 aaL aO Cj Tz hO4
  go_wp2_with fail
  refine r4.mono ?_
  rintro e W5 ⟨jH,v5,l5,rfl,hE⟩
  have HE:Hid _:=hE
  clear hE
  go_wp2
  go_ret
  exact⟨jH,v5,l5,rfl,HE.out⟩
theorem DI {L:List Nat} {M N:Nat} (h:Bd L M) (hn:M<=N):Bd L N:=fun x hx=>Nat.le_trans (h x hx) hn
theorem V7 {a:List Nat} (da:D9 a) (k:Nat):v9 (a.take k) < 1000000000 ^ a.length :=
 Nat.lt_of_lt_of_le (zf (KU da k)) (Nat.pow_le_pow_right (by omega) (by simp;omega))
theorem VJ {a b:List Nat} (da:D9 a) (db:D9 b) (k:Nat):v9 (a.take k)*v9 b < 1000000000 ^ (a.length+b.length):=by
 rw[Nat.pow_add]
 exact Nat.mul_lt_mul'' (V7 da k) (zf db)
theorem N8 {a b:List Nat} {k:Nat} (hk:k < a.length):v9 (a.take (k+1))*v9 b=v9 (a.take k)*v9 b+1000000000 ^ k*(a[k]*v9 b):=by
 rw[EO a k hk,Nat.add_mul,Nat.mul_assoc]
theorem G6 (av bv:Value) (a b:List Nat) (yO rO:Nat) (w:World) (hA:w.ownsRow yO 188 1 av a.length (mW a)) (hB:w.ownsRow rO 188 1 bv b.length (mW b)) (da:D9 a) (db:D9 b) (la:a.length<=40000) (lb:b.length<=40000) :
  Calls Tryz.prog 201 #[av,bv] w (zR w (v9 a*v9 b) (a.length+b.length)):=by
 obtain⟨i0,hii,hz0,hz1,hz2⟩:=info_parts Tryz.infoU
 obtain⟨n,hn⟩:∃ n,a.length+b.length=n:=⟨_,rfl⟩
 have HN:Hid (a.length+b.length=n):=hn
 have hnl:n<=80000:=by omega
 have hnb:b.length<=n:=by omega
 clear hn
 have HP:Hid (∀ k,v9 (a.take k)*v9 b < 1000000000 ^ n):=fun k=>by rw[<- HN.out];exact VJ da db k
 have HST:Hid (∀ (k:Nat) (hk:k < a.length),v9 (a.take (k+1))*v9 b=v9 (a.take k)*v9 b+1000000000 ^ k*(a[k]*v9 b)):=fun k hk=>N8 hk
 have HDA:Hid (D9 a):=da
 have HDB:Hid (D9 b):=db
 have HTA:Hid (v9 (a.take a.length)=v9 a):=show _=_ by rw[List.take_length]
 clear da db
 rw[HN.out]
 obtain⟨ao,aK,rfl,-⟩:=aj hA
 obtain⟨bo,cK,rfl,-⟩:=aj hB
 go_in
 go_wp2_with (at_make;refine wpList_make_full _ rfl _ _ 139 rfl w.heap.size 188 i0 (.int .u64 0) 1 Tryz.underlying139 hii hz0 hz1 _ _ _ _ n rfl rfl (by have:=HN.out;omega) (by have:=HN.out;omega) (by rw[hz2];omega) (by unfold maxLen;omega) (by simp) ?_)
 intro W hown0 gK
 have hm0:=(Mod.refl (fun _=>False) w).grown gK (fun k hk _=>by cases hk)
 have hown1:W.ownsRow w.heap.size 188 1 (.slice (some ⟨w.heap.size,0,none⟩) n n) n (mW (List.replicate n 0)):=by
  rw[<- JK];simpa using hown0
 clear gK hown0
 have hwl:w.heap.size < W.heap.size:=yw hown1 rfl
 have eu:Mod (fun _=>False) W (W.alloc (.cells #[.slice (some ⟨w.heap.size,0,none⟩) n n] 248)):=(Mod.refl _ W).alloc _
 have hT1:=EL W (.slice (some ⟨w.heap.size,0,none⟩) n n)
 have HH:Hid _:=zI (au hown1 eu (fun _ _ f=>f)) (zI hT1 (hm0.trans eu))
 clear hown1 hT1 eu hm0
 go_wp2_with fail
 generalize W.alloc (.cells #[.slice (some ⟨w.heap.size,0,none⟩) n n] 248)=W1 at *
 go_loopw [16] (fun kv wr=>∃ (k:Nat) (L:List Nat),k<=a.length/\kv=.int .i64 k/\Hid (L.length=n/\v9 L=v9 (a.take k)*v9 b/\Bd L (999999999+(k % 16)*999999998000000001))/\wr.ownsRow w.heap.size 188 1 (.slice (some ⟨w.heap.size,0,none⟩) n n) n (mW L)/\Tl wr W.heap.size (.slice (some ⟨w.heap.size,0,none⟩) n n)/\Mod (fun _=>False) w wr) (fun kv _=>a.length - (intOf kv).toNat)
 case atStart=>exact⟨0,List.replicate n 0,by omega,rfl,⟨by simp,by rw[BU];simp[v9],DI (Ev n) (by omega)⟩,HH.out.1,HH.out.2.1,HH.out.2.2⟩
 case round =>
  clear HH
  obtain⟨k,L,hk,rfl,HL,hO,hT,hm⟩:=hrel
  by_cases hlt:k < a.length
  ·obtain⟨hll,hvl,hbl⟩:=HL.out
   have hAr:=au hA hm (fun _ _ f=>f)
   obtain⟨ga,rfl,ca⟩:=jk hAr rfl hlt
   have hfk:a[k] < 1000000000:=HDA.out _ (List.getElem_mem hlt)
   have ace:k % 16 < 16:=Nat.mod_lt _ (by omega)
   have r1:=uS W.heap.size w.heap.size n (.slice bo b.length cK) L b k a[k] _ w.heap.size rO wr (by rw[hll];exact hT) (by rw[hll];exact hO) (au hB hm (fun _ _ f=>f)) (fun g hg e=>by have:=yw hB hg;omega) (by omega) (by rw[hll];have:=HN.out;omega) (by omega) hbl HDB.out hfk (by omega)
   rw[hll]at r1
   have hl2:(cZ L k b a[k] b.length).length=n:=by rw[qw];exact hll
   have hb2:Bd (cZ L k b a[k] b.length) (999999999+(k % 16+1)*999999998000000001):=DI (wS hbl HDB.out.bd b.length) (by
    have:999999999*a[k]<=999999999*999999999:=Nat.mul_le_mul_left _ (by omega)
    rw[Nat.add_mul]
    omega)
   have hv2:v9 (cZ L k b a[k] b.length)=v9 (a.take (k+1))*v9 b:=by
    rw[yF _ _ _ _ _ (Nat.le_refl _) (by rw[hll];have:=HN.out;omega),hvl,List.take_length,HST.out k hlt]
   have BZ:=HP.out (k+1)
   rw[<- hv2]at BZ
   have BZ:Hid _:=BZ
   generalize cZ L k b a[k] b.length=L2 at *
   generalize a[k]=f at *
   have HL2:Hid (L2.length=n/\v9 L2=v9 (a.take (k+1))*v9 b/\Bd L2 (999999999+(k % 16+1)*999999998000000001)):=⟨hl2,hv2,hb2⟩
   clear hl2 hv2 hb2 hll hvl hbl HL hAr
   go_wp2_with fail
   refine r1.mono ?_
   rintro e W2 ⟨rfl,hm2,hO2⟩
   have uE:Mod (fun _=>False) w W2:=((hm.mono (q:=fun q=>q=w.heap.size) (fun _ _ f=>f.elim)).trans hm2).mono (fun q hq h=>by omega)
   have Qh:Tl W2 W.heap.size (.slice (some ⟨w.heap.size,0,none⟩) n n):=hT.keep hm2 (by omega)
   clear r1 hO hT hm hm2 ca
   by_cases FT:k % 16=15
   ·have hq:(((k:Int) % 16) == 15)=true:=by simp;omega
    obtain⟨hl2,hv2,hb2⟩:=HL2.out
    have r3:=tN W.heap.size w.heap.size n L2 _ w.heap.size W2 (by rw[hl2];exact Qh) (by rw[hl2];exact hO2) (by omega) (by omega) hb2 (by rw[FT];omega)
    have hce:=zD (L:=L2) hl2.symm (by rw[hl2];exact BZ.out)
    rw[hl2]at r3
    have hl4:(bf L2 n).1.length=n:=by rw[lD];exact hl2
    have HX:Hid ((bf L2 n).1.length=n/\v9 (bf L2 n).1=v9 (a.take (k+1))*v9 b/\Bd (bf L2 n).1 (999999999+((k+1) % 16)*999999998000000001)):=⟨hl4,hce.2.trans hv2,DI hce.1.bd (by omega)⟩
    generalize (bf L2 n).1=L4 at *
    clear hl2 hv2 hb2 hce hl4 HL2 BZ FT
    go_wp2_with fail
    refine r3.mono ?_
    rintro e W4 ⟨rfl,aO,hO4⟩
    have Cj:Mod (fun _=>False) w W4:=((uE.mono (q:=fun q=>q=w.heap.size) (fun _ _ f=>f.elim)).trans aO).mono (fun q hq h=>by omega)
    have Tz:Tl W4 W.heap.size (.slice (some ⟨w.heap.size,0,none⟩) n n):=Qh.keep aO (by omega)
    clear r3 hO2 Qh uE aO
    go_wp2
    go_roundw
    case rel=>exact⟨k+1,L4,by omega,by go_num,HX,hO4,Tz,Cj⟩
    case measure=>simp[intOf];omega
   ·have hq:(((k:Int) % 16) == 15)=false:=by simp;omega
    have HX:Hid (L2.length=n/\v9 L2=v9 (a.take (k+1))*v9 b/\Bd L2 (999999999+((k+1) % 16)*999999998000000001)):=⟨HL2.out.1,HL2.out.2.1,by rw[show (k+1) % 16=k % 16+1 by omega];exact HL2.out.2.2⟩
    clear HL2 BZ FT
    go_wp2
    go_roundw
    case rel=>exact⟨k+1,L2,by omega,by go_num,HX,hO2,Qh,uE⟩
    case measure=>simp[intOf];omega
  ·have hks:k=a.length:=by omega
   subst hks
   obtain⟨hll,hvl,hbl⟩:=HL.out
   have ace:a.length % 16 < 16:=Nat.mod_lt _ (by omega)
   rw[HTA.out]at hvl
   have hpv:=HP.out a.length
   rw[HTA.out,<- hvl]at hpv
   have r3:=tN W.heap.size w.heap.size n L _ w.heap.size wr (by rw[hll];exact hT) (by rw[hll];exact hO) (by omega) (by omega) hbl (by omega)
   have hce:=zD (L:=L) hll.symm (by rw[hll];exact hpv)
   rw[hll]at r3
   have hl4:(bf L n).1.length=n:=by rw[lD];exact hll
   rw[hvl]at hce
   generalize (bf L n).1=L4 at *
   have HX:Hid _:=zI hce hl4
   clear hll hvl hbl hpv hce hl4 HL
   go_wp2_with fail
   refine r3.mono ?_
   rintro e W4 ⟨rfl,aO,hO4⟩
   have Cj:Mod (fun _=>False) w W4:=((hm.mono (q:=fun q=>q=w.heap.size) (fun _ _ f=>f.elim)).trans aO).mono (fun q hq h=>by omega)
   have Tz:Tl W4 W.heap.size (.slice (some ⟨w.heap.size,0,none⟩) n n):=hT.keep aO (by omega)
   obtain⟨⟨hd4,hv4⟩,hl4⟩:=HX.out
   have r4:=vW Tz hO4 hl4 (by omega) hd4 hv4 Cj
   clear hd4 hv4 hl4 HX r3 hO hT hm aO Cj Tz hO4
   go_wp2_with fail
   refine r4.mono ?_
   rintro e W5 ⟨jH,v5,l5,rfl,hE⟩
   have HE:Hid _:=hE
   clear hE
   go_wp2
   go_ret
   exact⟨jH,v5,l5,rfl,HE.out⟩
end Go.Proofs.YtmnfndpbblpjiabGreatDoor

/- Limbs: which is less; a difference. -/
namespace Go.Proofs.YtmnfndpbblpjiabGreatDoor.Pu
theorem vJ {a b:List Nat} (ha:D9 a) (hb:T9 b) (h:a.length < b.length):v9 a < v9 b:=by
 have h1:=zf ha
 have h2:=KJ hb (by intro e;subst e;simp at h)
 have h3:1000000000 ^ a.length<=1000000000 ^ (b.length - 1):=Nat.pow_le_pow_right (by omega) (by omega)
 omega
theorem Wh {a b t:List Nat} {x y:Nat} (ha:D9 a) (hl:a.length=b.length) (hxy:x < y):v9 (a++x :: t) < v9 (b++y :: t):=by
 rw[nE,nE,<- hl]
 have h1:=zf ha
 simp only[v9]
 have h2:1000000000 ^ a.length*(x+1000000000*v9 t+1)<=1000000000 ^ a.length*(y+1000000000*v9 t):=Nat.mul_le_mul_left _ (by omega)
 rw[Nat.mul_add]at h2
 omega
theorem S9 {a b:List Nat} (k:Nat) (ha:D9 a) (hl:a.length=b.length) (hk:k < a.length) (hlt:a[k] < b[k]'(by omega)) (he:a.drop (k+1)=b.drop (k+1)):v9 a < v9 b:=by
 have e1:a=a.take k++a[k] :: a.drop (k+1):=by rw[<- List.drop_eq_getElem_cons hk,List.take_append_drop]
 have e2:b=b.take k++b[k]'(by omega) :: b.drop (k+1):=by rw[<- List.drop_eq_getElem_cons (by omega),List.take_append_drop]
 rw[e1,e2,he]
 exact Wh (fun d hd=>ha d (List.mem_of_mem_take hd)) (by simp;omega) hlt
def rest (a b:List Nat) (k br:Nat):Nat:=1000000000+a[k]?.getD 0 - br - b[k]?.getD 0
def bR (a b:List Nat):Nat->List Nat × Nat
 | 0=>(List.replicate a.length 0,0)
 | k+1=>((bR a b k).1.set k (rest a b k (bR a b k).2 % 1000000000),1 - rest a b k (bR a b k).2 / 1000000000)
theorem xO (a b:List Nat) (k:Nat):(bR a b k).1.length=a.length:=by
 induction k with
 | zero=>simp[bR]
 | succ k ih=>simp[bR,ih]
theorem Mw (a b:List Nat) (k i:Nat) (hi:k<=i):(bR a b k).1[i]?=(List.replicate a.length 0)[i]?:=by
 induction k with
 | zero=>rfl
 | succ k ih=>simp only[bR];rw[List.getElem?_set,if_neg (by omega)];exact ih (by omega)
theorem zZ (a b:List Nat) (k:Nat):(bR a b k).2<=1:=by
 cases k with
 | zero=>simp[bR]
 | succ k=>simp only[bR];omega
theorem FD (a b:List Nat) (k:Nat):D9 (bR a b k).1:=by
 induction k with
 | zero=>intro d hd;rw[List.eq_of_mem_replicate hd];omega
 | succ k ih =>
  intro d hd
  simp only[bR]at hd
  rcases List.mem_or_eq_of_mem_set hd with h | h
  ·exact ih d h
  ·rw[h];exact Nat.mod_lt _ (by omega)
theorem getD_lt {b:List Nat} (db:D9 b) (k:Nat):b[k]?.getD 0 < 1000000000:=by
 cases h:b[k]? with
 | none=>simp
 | some y=>simpa using db y (List.mem_of_getElem? h)
theorem Dp (b:List Nat) (k:Nat):v9 (b.take (k+1))=v9 (b.take k)+1000000000 ^ k*b[k]?.getD 0:=by
 by_cases hk:k < b.length
 ·rw[EO b k hk];simp[hk]
 ·rw[List.take_of_length_le (by omega),List.take_of_length_le (by omega)];simp[hk]
theorem Mx {a b:List Nat} (da:D9 a) (db:D9 b) (k:Nat) (hk:k<=a.length):v9 (bR a b k).1+v9 (b.take k)=v9 (a.take k)+1000000000 ^ k*(bR a b k).2:=by
 induction k with
 | zero=>simp[bR,BU,v9]
 | succ k ih =>
  have ih':=ih (by omega)
  have hl:k < (bR a b k).1.length:=by rw[xO];omega
  have h0:(bR a b k).1[k]=0:=by
   have h:=Mw a b k k (Nat.le_refl _)
   rw[List.getElem?_eq_getElem hl,List.getElem?_replicate,if_pos (by omega)]at h
   exact Option.some.inj h
  have hs:=KI (bR a b k).1 k (rest a b k (bR a b k).2 % 1000000000) hl
  rw[h0]at hs
  have hbr:=zZ a b k
  have h1:=getD_lt db k
  have h2:=getD_lt da k
  rw[Dp a k,Dp b k]
  simp only[bR]
  have hd:=Nat.div_add_mod (rest a b k (bR a b k).2) 1000000000
  have hr:rest a b k (bR a b k).2=1000000000+a[k]?.getD 0 - (bR a b k).2 - b[k]?.getD 0:=rfl
  generalize (bR a b k).2=br at *
  generalize rest a b k br / 1000000000=q at *
  generalize rest a b k br % 1000000000=r at *
  generalize rest a b k br=rs at *
  generalize a[k]?.getD 0=x at *
  generalize b[k]?.getD 0=y at *
  have key:r+y+br=x+1000000000*(1 - q):=by omega
  have e1:1000000000 ^ (k+1)*(1 - q)=1000000000 ^ k*(1000000000*(1 - q)):=by rw[Nat.pow_succ,Nat.mul_assoc]
  rw[e1]
  have e2:1000000000 ^ k*r+1000000000 ^ k*y+1000000000 ^ k*br=1000000000 ^ k*x+1000000000 ^ k*(1000000000*(1 - q)):=by rw[<- Nat.mul_add,<- Nat.mul_add,key,Nat.mul_add]
  omega
theorem Ut {a b:List Nat} (da:D9 a) (db:D9 b) (hl:b.length<=a.length) (h:v9 b<=v9 a):v9 (bR a b a.length).1=v9 a - v9 b:=by
 have hv:=Mx da db a.length (Nat.le_refl _)
 rw[List.take_length,List.take_of_length_le hl]at hv
 have hlt:=zf (FD a b a.length)
 rw[xO]at hlt
 have hb:=zZ a b a.length
 have:(bR a b a.length).2=0:=by
  refine Nat.eq_zero_of_not_pos fun hp=>?_
  have:(bR a b a.length).2=1:=by omega
  rw[this]at hv
  omega
 rw[this]at hv
 omega
end Go.Proofs.YtmnfndpbblpjiabGreatDoor.Pu

/- The program's less, and its differences of limbs. -/
namespace Go.Proofs.YtmnfndpbblpjiabGreatDoor
open Go.RowKit Pu
theorem M9 (av bv:Value) (a b:List Nat) (yO rO:Nat) (w:World) (hA:w.ownsRow yO 188 1 av a.length (mW a)) (hB:w.ownsRow rO 188 1 bv b.length (mW b)) (da:D9 a) (db:D9 b) (ta:T9 a) (tb:T9 b) (la:a.length<=100000) (_lb:b.length<=100000) :
  Calls Tryz.prog 205 #[av,bv] w fun e w'=>e=.returned (.bool (decide (v9 a < v9 b)))/\Mod (fun _=>False) w w':=by
 obtain⟨ao,aK,rfl,-⟩:=aj hA
 obtain⟨bo,cK,rfl,-⟩:=aj hB
 by_cases hlen:a.length=b.length
 ·have HLen:Hid (a.length=b.length):=hlen
  have hb1:((a.length:Int) != (b.length:Int))=false:=by rw[hlen];simp
  clear hlen
  go_in
  go_wp2_with fail
  go_loopw [5] (fun i wr=>∃ j:Nat,j<=a.length/\i=.int .i64 ((j:Int) - 1)/\(∃ n,wr=w.drewN n)/\Hid (a.drop j=b.drop j)) (fun i _=>(intOf i+1).toNat)
  case atStart=>exact⟨a.length,by omega,rfl,⟨0,rfl⟩,show a.drop a.length=b.drop a.length by rw[List.drop_of_length_le (by omega),List.drop_of_length_le (by have:=HLen.out;omega)]⟩
  case round =>
   obtain⟨j,hj,rfl,⟨n,rfl⟩,HD⟩:=hrel
   cases j with
   | zero =>
    have HR:Hid (decide (v9 a < v9 b)=false):=show _=false by
     have:a=b:=by simpa using HD.out
     rw[this];simp
    go_wp2
    go_ret
    exact⟨by rw[HR.out];rfl,Mod.same n _ w⟩
   | succ j =>
    have hja:j < a.length:=by omega
    have hjb:j < b.length:=by have:=HLen.out;omega
    have e1:((j+1:Nat):Int) - 1=(j:Int):=by omega
    rw[e1]
    clear e1
    obtain⟨ga,rfl,ca⟩:=jk hA rfl hja
    obtain⟨gb,rfl,cb⟩:=jk hB rfl hjb
    have i1:(0:Int)<=(j:Int):=by omega
    have i2:(j:Int) < (a.length:Int):=by omega
    have i3:(j:Int) < (b.length:Int):=by omega
    rcases Nat.lt_trichotomy a[j] b[j] with hc | hc | hc
    ·have HR:Hid (decide (v9 a < v9 b)=true):=show _=true by
      have:=S9 j da HLen.out hja hc HD.out
      simpa using this
     have q1:((a[j]:Int) != (b[j]:Int))=true:=CO (by omega)
     have q2:(a[j]:Int) < (b[j]:Int):=by omega
     clear hc
     go_wp2_with fail
     go_quiet (fail)
     go_wp2_with fail
     go_quiet (fail)
     go_wp2
     go_ret
     exact⟨by rw[HR.out];rfl,by simp only[World.drewN_drewN];exact Mod.same _ _ w⟩
    ·have HE:Hid (a.drop j=b.drop j):=show a.drop j=b.drop j by rw[List.drop_eq_getElem_cons hja,List.drop_eq_getElem_cons hjb,HD.out,hc]
     have q1:((a[j]:Int) != (b[j]:Int))=false:=rP hc
     clear hc
     go_wp2_with fail
     go_quiet (fail)
     go_wp2
     go_roundw
     case rel=>exact⟨j,by omega,by go_num,⟨_,rfl⟩,HE⟩
     case measure=>simp[intOf]
    ·have HR:Hid (decide (v9 a < v9 b)=decide (a[j] < b[j])):=show _=_ by
      have:=S9 j db HLen.out.symm hjb hc HD.out.symm
      rw[decide_eq_false (by omega),decide_eq_false (by omega)]
     have q1:((a[j]:Int) != (b[j]:Int))=true:=CO (by omega)
     have q2:¬ (a[j]:Int) < (b[j]:Int):=by omega
     clear hc
     go_wp2_with fail
     go_quiet (fail)
     go_wp2_with fail
     go_quiet (fail)
     go_wp2
     go_ret
     exact⟨by rw[HR.out];rfl,by simp only[World.drewN_drewN];exact Mod.same _ _ w⟩
 ·have hb1:((a.length:Int) != (b.length:Int))=true:=CO hlen
  by_cases hlt:a.length < b.length
  ·have HR:Hid (decide (v9 a < v9 b)=true):=show _=true by simpa using vJ da tb hlt
   have q2:(a.length:Int) < (b.length:Int):=by omega
   clear hlen
   go_in
   go_wp2
   go_ret
   exact⟨by rw[HR.out];rfl,Mod.refl _ _⟩
  ·have HR:Hid (decide (v9 a < v9 b)=false):=show _=false by
    have:=vJ db ta (by omega)
    simp;omega
   have q2:¬ (a.length:Int) < (b.length:Int):=by omega
   clear hlen
   go_in
   go_wp2
   go_ret
   exact⟨by rw[HR.out];rfl,Mod.refl _ _⟩
theorem FE (av bv:Value) (a b:List Nat) (yO rO:Nat) (w:World) (hA:w.ownsRow yO 188 1 av a.length (mW a)) (hB:w.ownsRow rO 188 1 bv b.length (mW b)) (da:D9 a) (db:D9 b) (hle:v9 b<=v9 a) (hlen:b.length<=a.length) (la:a.length<=50000) :
  Calls Tryz.prog 206 #[av,bv] w (zR w (v9 a - v9 b) a.length):=by
 obtain⟨i0,hii,hz0,hz1,hz2⟩:=info_parts Tryz.infoU
 have HE:Hid (v9 (bR a b a.length).1=v9 a - v9 b):=Ut da db hlen hle
 have HD9:Hid (D9 (bR a b a.length).1):=FD a b _
 have HBR:Hid (∀ k,(bR a b k).2<=1):=zZ a b
 have rC:Hid (∀ k,(bR a b k).1.length=a.length):=xO a b
 have HDA:Hid (D9 a):=da
 have HDB:Hid (D9 b):=db
 generalize v9 a - v9 b=tot at *
 clear da db hle hlen
 obtain⟨ao,aK,rfl,-⟩:=aj hA
 obtain⟨bo,cK,rfl,-⟩:=aj hB
 go_in
 go_wp2_with (at_make;refine wpList_make_full _ rfl _ _ 139 rfl w.heap.size 188 i0 (.int .u64 0) 1 Tryz.underlying139 hii hz0 hz1 _ _ _ _ a.length rfl rfl (by omega) (by omega) (by rw[hz2];omega) (by unfold maxLen;omega) (by simp) ?_)
 intro W hown0 gK
 have hm0:=(Mod.refl (fun _=>False) w).grown gK (fun k hk _=>by cases hk)
 have hown1:W.ownsRow w.heap.size 188 1 (.slice (some ⟨w.heap.size,0,none⟩) a.length a.length) a.length (mW (bR a b 0).1):=by
  show W.ownsRow w.heap.size 188 1 (.slice (some ⟨w.heap.size,0,none⟩) a.length a.length) a.length (mW (List.replicate a.length 0))
  rw[<- JK];simpa using hown0
 clear gK hown0
 have hwl:w.heap.size < W.heap.size:=yw hown1 rfl
 have eu:Mod (fun _=>False) W (W.alloc (.cells #[.slice (some ⟨w.heap.size,0,none⟩) a.length a.length] 248)):=(Mod.refl _ W).alloc _
 have hT1:=EL W (.slice (some ⟨w.heap.size,0,none⟩) a.length a.length)
 have HH:Hid _:=zI (au hown1 eu (fun _ _ f=>f)) (zI hT1 (hm0.trans eu))
 clear hown1 hT1 eu hm0
 go_wp2_with fail
 generalize W.alloc (.cells #[.slice (some ⟨w.heap.size,0,none⟩) a.length a.length] 248)=W1 at *
 go_loopw [6,15] (fun ov kv wr=>∃ k:Nat,k<=a.length/\kv=.int .i64 k/\ov=.int .u64 ((bR a b k).2:Int)/\wr.ownsRow w.heap.size 188 1 (.slice (some ⟨w.heap.size,0,none⟩) a.length a.length) a.length (mW (bR a b k).1)/\Tl wr W.heap.size (.slice (some ⟨w.heap.size,0,none⟩) a.length a.length)/\Mod (fun _=>False) w wr) (fun _ kv _=>a.length - (intOf kv).toNat)
 case atStart=>exact⟨0,by omega,rfl,rfl,HH.out.1,HH.out.2.1,HH.out.2.2⟩
 case round =>
  clear HH
  obtain⟨k,hk,rfl,rfl,hO,hT,hm⟩:=hrel
  have t0:=hT.c0
  by_cases hlt:k < a.length
  ·have hAr:=au hA hm (fun _ _ f=>f)
   have hBr:=au hB hm (fun _ _ f=>f)
   obtain⟨ga,rfl,ca⟩:=jk hAr rfl hlt
   have hdk:k < (bR a b k).1.length:=by rw[rC.out];exact hlt
   obtain⟨g2,hg2,cd⟩:=jk hO (rC.out k).symm hdk
   injection hg2 with hg2
   injection hg2 with hg2
   subst hg2
   have hfz:=hO.frozenAt k
   have hak:a[k] < 1000000000:=HDA.out _ (List.getElem_mem hlt)
   have hbk:b[k]?.getD 0 < 1000000000:=getD_lt HDB.out k
   have hbr:=HBR.out k
   have hst:(wr.setCell ⟨w.heap.size,k,none⟩ (.int .u64 ((rest a b k (bR a b k).2 % 1000000000:Nat):Int))).ownsRow w.heap.size 188 1 (.slice (some ⟨w.heap.size,0,none⟩) a.length a.length) a.length (mW (bR a b (k+1)).1):=by
    show World.ownsRow _ _ _ _ _ _ (mW ((bR a b k).1.set k (rest a b k (bR a b k).2 % 1000000000)))
    rw[<- EN];exact (hO.stored k _).1
   have hmq:Mod (fun q=>q=w.heap.size) wr (wr.setCell ⟨w.heap.size,k,none⟩ (.int .u64 ((rest a b k (bR a b k).2 % 1000000000:Nat):Int))):=(Mod.refl _ wr).setCell ⟨w.heap.size,k,none⟩ _ (fun _=>rfl)
   have hm2:Mod (fun _=>False) w (wr.setCell ⟨w.heap.size,k,none⟩ (.int .u64 ((rest a b k (bR a b k).2 % 1000000000:Nat):Int))):=hm.setCell ⟨w.heap.size,k,none⟩ _ (fun h=>absurd h (Nat.lt_irrefl _))
   have Qh:Tl (wr.setCell ⟨w.heap.size,k,none⟩ (.int .u64 ((rest a b k (bR a b k).2 % 1000000000:Nat):Int))) W.heap.size (.slice (some ⟨w.heap.size,0,none⟩) a.length a.length):=hT.keep hmq (by omega)
   have Ce:Hid ((bR a b (k+1)).2=1 - rest a b k (bR a b k).2 / 1000000000):=rfl
   have HST:Hid _:=zI hst (zI Qh hm2)
   have OI:Hid (rest a b k (bR a b k).2=1000000000+a[k] - (bR a b k).2 - b[k]?.getD 0):=show _=_ by simp[rest,hlt]
   clear hst hm2 Qh hmq hAr
   generalize rest a b k (bR a b k).2=rs at *
   by_cases hkb:k < b.length
   ·obtain⟨gb,rfl,cb⟩:=jk hBr rfl hkb
    have HG:Hid (b[k]?.getD 0=b[k]):=show _=_ by simp[hkb]
    rw[HG.out]at OI hbk
    clear hBr HG
    generalize a[k]=x at *
    generalize b[k]=y at *
    generalize (bR a b k).2=br at *
    have hrs:rs=1000000000+x - br - y:=OI.out
    have w1:IntKind.u64.wrap ((1000000000:Int)+(x:Int))=(1000000000:Int)+(x:Int):=wrap_u64 (by omega) (by omega)
    have w2:IntKind.u64.wrap ((1000000000:Int)+(x:Int) - (br:Int))=(1000000000:Int)+(x:Int) - (br:Int):=wrap_u64 (by omega) (by omega)
    have w3:IntKind.u64.wrap ((1000000000:Int)+(x:Int) - (br:Int) - (y:Int))=(rs:Int):=by rw[wrap_u64 (by omega) (by omega)];omega
    have w4:IntKind.u64.wrap ((1:Int) - (rs:Int) / 1000000000)=(1:Int) - (rs:Int) / 1000000000:=wrap_u64 (by omega) (by omega)
    have hrl:rs < 2000000000:=by omega
    clear hrs OI
    go_wp2
    go_roundw
    case rel =>
     have h2:=HST.out
     exact⟨k+1,by omega,by go_num,by rw[Ce.out];congr 1;omega,h2.1,h2.2.1,h2.2.2⟩
    case measure=>simp[intOf];omega
   ·have HG:Hid (b[k]?.getD 0=0):=show _=_ by simp[hkb]
    rw[HG.out]at OI hbk
    clear hBr HG
    generalize a[k]=x at *
    generalize (bR a b k).2=br at *
    have hrs:rs=1000000000+x - br:=by have:=OI.out;omega
    have w1:IntKind.u64.wrap ((1000000000:Int)+(x:Int))=(1000000000:Int)+(x:Int):=wrap_u64 (by omega) (by omega)
    have w2:IntKind.u64.wrap ((1000000000:Int)+(x:Int) - (br:Int))=(rs:Int):=by rw[wrap_u64 (by omega) (by omega)];omega
    have w4:IntKind.u64.wrap ((1:Int) - (rs:Int) / 1000000000)=(1:Int) - (rs:Int) / 1000000000:=wrap_u64 (by omega) (by omega)
    have hrl:rs < 2000000000:=by omega
    clear hrs OI
    go_wp2
    go_roundw
    case rel =>
     have h2:=HST.out
     exact⟨k+1,by omega,by go_num,by rw[Ce.out];congr 1;omega,h2.1,h2.2.1,h2.2.2⟩
    case measure=>simp[intOf];omega
  ·have hks:k=a.length:=by omega
   subst hks
   have r4:=vW hT hO (rC.out _) (by omega) HD9.out HE.out hm
   clear hO hT t0 hm
   go_wp2_with fail
   refine r4.mono ?_
   rintro e W5 ⟨jH,v5,l5,rfl,hE⟩
   have HE5:Hid _:=hE
   clear hE
   go_wp2
   go_ret
   exact⟨jH,v5,l5,rfl,HE5.out⟩
theorem C8 (n:Nat) (w:World) (hn:n<=1000000):Calls Tryz.prog 198 #[.int .u64 n] w (zR w n 3):=by
 have Qe:(w.alloc (.cells #[.int .u64 n,.int .u64 0,.int .u64 0] 188)).ownsRow w.heap.size 188 1 (.slice (some ⟨w.heap.size,0,none⟩) 3 3) 3 (mW [n,0,0]) :=
  ⟨by simp[mW],.inr ⟨w.heap.size,3,#[.int .u64 n,.int .u64 0,.int .u64 0],rfl,Nat.le_refl _,heap_alloc_new w _,Nat.le_refl _,by unfold maxLen;omega,by simp,by simp[mW]⟩⟩
 have hT:=EL (w.alloc (.cells #[.int .u64 n,.int .u64 0,.int .u64 0] 188)) (.slice (some ⟨w.heap.size,0,none⟩) 3 3)
 have eu:Mod (fun _=>False) (w.alloc (.cells #[.int .u64 n,.int .u64 0,.int .u64 0] 188)) ((w.alloc (.cells #[.int .u64 n,.int .u64 0,.int .u64 0] 188)).alloc (.cells #[.slice (some ⟨w.heap.size,0,none⟩) 3 3] 248)):=(Mod.refl _ _).alloc _
 have hm1:Mod (fun _=>False) w ((w.alloc (.cells #[.int .u64 n,.int .u64 0,.int .u64 0] 188)).alloc (.cells #[.slice (some ⟨w.heap.size,0,none⟩) 3 3] 248)):=((Mod.refl _ w).alloc _).trans eu
 have mZ:=au Qe eu (fun _ _ f=>f)
 simp only[World.size_alloc]at hT
 have HH:Hid _:=zI mZ (zI hT hm1)
 clear Qe hT eu hm1 mZ
 go_in
 go_wp2_with fail
 generalize (w.alloc (.cells #[.int .u64 n,.int .u64 0,.int .u64 0] 188)).alloc (.cells #[.slice (some ⟨w.heap.size,0,none⟩) 3 3] 248)=W1 at *
 obtain⟨mZ,hT1,hm1⟩:=HH.out
 clear HH
 have hb:Bd [n,0,0] 1000000:=fun x hx=>by simp at hx;omega
 have r3:=tN (w.heap.size+1) w.heap.size 3 [n,0,0] 1000000 w.heap.size W1 hT1 mZ (by omega) (by simp) hb (by omega)
 have hce:=zD (L:=[n,0,0]) (k:=3) rfl (by simp[v9];omega)
 have hl4:(bf [n,0,0] 3).1.length=3:=by rw[lD];rfl
 have hv0:v9 [n,0,0]=n:=by simp[v9]
 rw[hv0]at hce
 have r3':Calls Tryz.prog 202 #[.pointer (some ⟨w.heap.size+1,0,none⟩)] W1 fun e w'=>e=.returned (.tuple #[])/\Mod (fun q=>q=w.heap.size) W1 w'/\w'.ownsRow w.heap.size 188 1 (.slice (some ⟨w.heap.size,0,none⟩) 3 3) 3 (mW (bf [n,0,0] 3).1):=r3
 clear r3 hv0 hb
 generalize (bf [n,0,0] 3).1=L4 at *
 refine r3'.mono ?_
 rintro e W4 ⟨rfl,aO,hO4⟩
 have Cj:Mod (fun _=>False) w W4:=((hm1.mono (q:=fun q=>q=w.heap.size) (fun _ _ f=>f.elim)).trans aO).mono (fun q hq h=>by omega)
 have Tz:Tl W4 (w.heap.size+1) (.slice (some ⟨w.heap.size,0,none⟩) 3 3):=hT1.keep aO (by omega)
 have r4:=vW Tz hO4 hl4 (by omega) hce.1 hce.2 Cj
 clear hce hl4 r3' mZ hT1 hm1 aO Cj Tz hO4
 go_wp2_with fail
 refine r4.mono ?_
 rintro e W5 ⟨jH,v5,l5,rfl,hE⟩
 have HE5:Hid _:=hE
 clear hE
 go_wp2
 go_ret
 exact⟨jH,v5,l5,rfl,HE5.out⟩
end Go.Proofs.YtmnfndpbblpjiabGreatDoor

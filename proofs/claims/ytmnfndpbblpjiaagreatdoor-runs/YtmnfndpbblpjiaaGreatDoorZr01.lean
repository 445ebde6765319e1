/- The plain functions by which the two sides are held together: the document's scanner and its gathering of statements, byte by byte; names, sorts, weights, faults. No program is named here. -/
import Derived.WalkKit
namespace Go.Proofs.YtmnfndpbblpjiaaGreatDoor.Pu
def bt (s:ByteArray) (i:Nat):UInt8:=if h:i < s.size then s[i] else 0
def g (s:ByteArray) (i:Nat):Nat:=(bt s i).toNat
def isL (c:Nat):Bool:=decide (97≤c) && decide (c≤122)
theorem bt_in {s:ByteArray} {i:Nat} (h:i < s.size):bt s i=s[i]:=by simp [bt,h]
theorem g_in {s:ByteArray} {i:Nat} (h:i < s.size):g s i=s[i].toNat:=by simp [g,bt,h]
theorem g_out {s:ByteArray} {i:Nat} (h:s.size≤i):g s i=0:=by simp [g,bt,show ¬ i < s.size by omega]
theorem g_lt (s:ByteArray) (i:Nat):g s i < 256:=(bt s i).toNat_lt
theorem lt_of_g {s:ByteArray} {i:Nat} (h:g s i≠0):i < s.size:=by
 by_cases hl:i < s.size
 ·exact hl
 ·exact absurd (g_out (by omega)) h
structure Sc where
 st:Nat
 n:Nat
 le:Nat
 ar:Nat
def nx (x:Sc) (c:Nat):Option Sc :=
 if x.st=0 then
  if x.n=16 then none else if c=63 then some ⟨2,x.n,x.le,x.ar⟩ else if isL c then some ⟨1,x.n,x.le,x.ar⟩ else none
 else if x.st=1 then (if c=61 then some ⟨2,x.n,x.le,x.ar⟩ else none)
 else if x.st=2 then (if isL c then some ⟨3,x.n,1,x.ar⟩ else none)
 else if x.st=3 then (if isL c && decide (x.le < 6) then some ⟨3,x.n,x.le+1,x.ar⟩ else if c=40 then some ⟨4,x.n,x.le,0⟩ else none)
 else if x.st=4 then (if isL c then some ⟨5,x.n,x.le,x.ar+1⟩ else if c=41 then some ⟨7,x.n,x.le,x.ar⟩ else none)
 else if x.st=5 then (if c=41 then some ⟨7,x.n,x.le,x.ar⟩ else if c=44∧x.ar < 4 then some ⟨6,x.n,x.le,x.ar⟩ else none)
 else if x.st=6 then (if isL c then some ⟨5,x.n,x.le,x.ar+1⟩ else none)
 else if x.st=7 then (if c=59 then some ⟨0,x.n+1,x.le,x.ar⟩ else none)
 else none
def stA (s:ByteArray):Nat→Option Sc
 | 0=>some ⟨0,0,0,0⟩
 | i+1=>(stA s i).bind fun x=>nx x (g s i)
theorem stA_succ {s:ByteArray} {i:Nat} {x y:Sc} (h:stA s i=some x) (hn:nx x (g s i)=some y):stA s (i+1)=some y:=by simp [stA,h,hn]
theorem stA_back {s:ByteArray}:∀ {i:Nat} {y:Sc},stA s (i+1)=some y→∃ x,stA s i=some x∧nx x (g s i)=some y:=by
 intro i y h
 simp only [stA] at h
 cases hx:stA s i with
 | none=>simp [hx] at h
 | some x=>exact ⟨x,rfl,by simpa [hx] using h⟩
theorem stA_le {s:ByteArray}:∀ {d i:Nat} {y:Sc},stA s (i+d)=some y→∃ x,stA s i=some x:=by
 intro d
 induction d with
 | zero=>intro i y h;exact ⟨y,h⟩
 | succ d ih=>intro i y h;obtain ⟨x,hx,_⟩:=stA_back (i:=i+d) h;exact ih hx
def Stuck (s:ByteArray) (k:Nat):Prop:=∃ x,stA s k=some x∧((k < s.size∧nx x (g s k)=none)∨(k=s.size∧x.st≠0))
def Whole (s:ByteArray):Prop:=∃ x,stA s s.size=some x∧x.st=0
theorem Stuck.le {s:ByteArray} {k:Nat} (h:Stuck s k):k≤s.size:=by
 obtain ⟨x,_,h | h⟩:=h <;> omega
theorem Stuck.not_lt {s:ByteArray} {p q:Nat} (h:Stuck s p) {y:Sc} (hq:stA s q=some y) (hs:q≤s.size):q≤p:=by
 obtain ⟨x,hx,⟨hlt,hn⟩ | ⟨he,_⟩⟩:=h
 ·by_cases hle:q≤p
  ·exact hle
  ·obtain ⟨d,rfl⟩:∃ d,q=p+1+d:=⟨q - (p+1),by omega⟩
   obtain ⟨z,hz⟩:=stA_le hq
   simp [stA,hx,hn] at hz
 ·omega
theorem Stuck.unique {s:ByteArray} {p q:Nat} (h:Stuck s p) (k:Stuck s q):p=q:=by
 have h1:=h;have k1:=k
 obtain ⟨x,hx,_⟩:=h
 obtain ⟨y,hy,_⟩:=k
 have a:=h1.not_lt hy k1.le
 have b:=k1.not_lt hx h1.le
 omega
theorem Stuck.not_whole {s:ByteArray} {p:Nat} (h:Stuck s p) (k:Whole s):False:=by
 obtain ⟨y,hy,h0⟩:=k
 have a:=h.not_lt hy (Nat.le_refl _)
 have hp:p=s.size:=by have:=h.le;omega
 subst hp
 obtain ⟨x,hx,⟨hlt,_⟩ | ⟨_,hn⟩⟩:=h
 ·omega
 ·rw [hy] at hx;cases hx;exact hn h0
structure St where
 name:Nat
 word:List UInt8
 args:List UInt8
structure Ga where
 l:List St
 x:St
 ins:Bool
def gaStep (s:ByteArray) (i:Nat) (a:Ga):Ga :=
 if g s i=61 then ⟨a.l,⟨g s (i - 1),[],a.x.args⟩,a.ins⟩
 else if g s i=63 then ⟨a.l,⟨a.x.name,[],a.x.args⟩,a.ins⟩
 else if g s i=40 then ⟨a.l,a.x,true⟩
 else if g s i=41 then ⟨a.l,a.x,false⟩
 else if g s i=59 then ⟨a.l++[a.x],⟨0,[],[]⟩,a.ins⟩
 else if isL (g s i) then
  if a.ins then ⟨a.l,⟨a.x.name,a.x.word,a.x.args++[bt s i]⟩,a.ins⟩ else ⟨a.l,⟨a.x.name,a.x.word++[bt s i],a.x.args⟩,a.ins⟩
 else a
def gaA (s:ByteArray):Nat→Ga
 | 0=>⟨[],⟨0,[],[]⟩,false⟩
 | i+1=>gaStep s i (gaA s i)
def At (s:ByteArray) (k st n le ar:Nat) (l:List St) (x:St) (ins:Bool):Prop:=stA s k=some ⟨st,n,le,ar⟩∧gaA s k=⟨l,x,ins⟩
theorem isL_iff (c:Nat):isL c=true↔97≤c∧c≤122:=by simp [isL]
section steps
variable {s:ByteArray} {k n le ar:Nat} {l:List St} {x:St} {ins:Bool}
theorem at_start (s:ByteArray):At s 0 0 0 0 0 [] ⟨0,[],[]⟩ false:=⟨rfl,rfl⟩
theorem at_ask (h:At s k 0 n le ar l x ins) (hn:n≠16) (hc:g s k=63):At s (k+1) 2 n le ar l ⟨x.name,[],x.args⟩ ins :=
 ⟨stA_succ h.1 (by simp [nx,hn,hc]),by simp [gaA,h.2,gaStep,hc]⟩
theorem at_name (h:At s k 0 n le ar l x false) (hn:n≠16) (hc:isL (g s k)=true):At s (k+1) 1 n le ar l ⟨x.name,x.word++[bt s k],x.args⟩ false:=by
 have hl:=(isL_iff _).1 hc
 exact ⟨stA_succ h.1 (by simp [nx,hn,hc,show g s k≠63 by omega]),by
  simp [gaA,h.2,gaStep,hc,show g s k≠61 by omega,show g s k≠63 by omega,show g s k≠40 by omega,show g s k≠41 by omega,show g s k≠59 by omega]⟩
theorem at_equal (h:At s k 1 n le ar l x ins) (hc:g s k=61):At s (k+1) 2 n le ar l ⟨g s (k - 1),[],x.args⟩ ins :=
 ⟨stA_succ h.1 (by simp [nx,hc]),by simp [gaA,h.2,gaStep,hc]⟩
theorem at_first (h:At s k 2 n le ar l x false) (hc:isL (g s k)=true):At s (k+1) 3 n 1 ar l ⟨x.name,x.word++[bt s k],x.args⟩ false:=by
 have hl:=(isL_iff _).1 hc
 exact ⟨stA_succ h.1 (by simp [nx,hc]),by
  simp [gaA,h.2,gaStep,hc,show g s k≠61 by omega,show g s k≠63 by omega,show g s k≠40 by omega,show g s k≠41 by omega,show g s k≠59 by omega]⟩
theorem at_more (h:At s k 3 n le ar l x false) (hle:le < 6) (hc:isL (g s k)=true):At s (k+1) 3 n (le+1) ar l ⟨x.name,x.word++[bt s k],x.args⟩ false:=by
 have hl:=(isL_iff _).1 hc
 exact ⟨stA_succ h.1 (by simp [nx,hc,hle]),by
  simp [gaA,h.2,gaStep,hc,show g s k≠61 by omega,show g s k≠63 by omega,show g s k≠40 by omega,show g s k≠41 by omega,show g s k≠59 by omega]⟩
theorem at_open (h:At s k 3 n le ar l x ins) (hc:g s k=40):At s (k+1) 4 n le 0 l x true :=
 ⟨stA_succ h.1 (by simp [nx,hc,isL]),by simp [gaA,h.2,gaStep,hc]⟩
theorem at_none (h:At s k 4 n le ar l x ins) (hc:g s k=41):At s (k+1) 7 n le ar l x false :=
 ⟨stA_succ h.1 (by simp [nx,hc,isL]),by simp [gaA,h.2,gaStep,hc]⟩
theorem at_arg (h:At s k 4 n le ar l x true∨At s k 6 n le ar l x true) (hc:isL (g s k)=true):At s (k+1) 5 n le (ar+1) l ⟨x.name,x.word,x.args++[bt s k]⟩ true:=by
 have hl:=(isL_iff _).1 hc
 rcases h with h | h <;>
 exact ⟨stA_succ h.1 (by simp [nx,hc]),by
  simp [gaA,h.2,gaStep,hc,show g s k≠61 by omega,show g s k≠63 by omega,show g s k≠40 by omega,show g s k≠41 by omega,show g s k≠59 by omega]⟩
theorem at_shut (h:At s k 5 n le ar l x ins) (hc:g s k=41):At s (k+1) 7 n le ar l x false :=
 ⟨stA_succ h.1 (by simp [nx,hc]),by simp [gaA,h.2,gaStep,hc]⟩
theorem at_comma (h:At s k 5 n le ar l x ins) (har:ar < 4) (hc:g s k=44):At s (k+1) 6 n le ar l x ins :=
 ⟨stA_succ h.1 (by simp [nx,hc,har]),by simp [gaA,h.2,gaStep,hc,isL]⟩
theorem at_end (h:At s k 7 n le ar l x ins) (hc:g s k=59):At s (k+1) 0 (n+1) le ar (l++[x]) ⟨0,[],[]⟩ ins :=
 ⟨stA_succ h.1 (by simp [nx,hc]),by simp [gaA,h.2,gaStep,hc]⟩
theorem stuck_of {st:Nat} (h:At s k st n le ar l x ins) (hk:k≤s.size) (h0:st≠0∨k < s.size) (hn:nx ⟨st,n,le,ar⟩ (g s k)=none):Stuck s k:=by
 refine ⟨_,h.1,?_⟩
 by_cases hlt:k < s.size
 ·exact .inl ⟨hlt,hn⟩
 ·exact .inr ⟨by omega,by rcases h0 with h0 | h0 <;> first | exact h0 | omega⟩
end steps
end Go.Proofs.YtmnfndpbblpjiaaGreatDoor.Pu

/- Codes: plain functions: steps, what sets a register, what is right. -/
namespace Go.Proofs.YtmnfndpbblpjiaaGreatDoor.Pu
structure Stp where
 op:Nat
 x:Nat
 y:Nat
 z:Nat
def stepAt (s:ByteArray) (k:Nat):Stp:=⟨g s (6+4*k),g s (6+4*k+1),g s (6+4*k+2),g s (6+4*k+3)⟩
def nst (s:ByteArray):Nat:=(s.size - 6) / 4
def stepsTo (s:ByteArray) (n:Nat):List Stp:=(List.range n).map (stepAt s)
def steps (s:ByteArray):List Stp:=stepsTo s (nst s)
def Small (t:Stp):Prop:=t.op < 256∧t.x < 256∧t.y < 256∧t.z < 256
def setterI (l:List Stp) (r:Nat):Nat→Int
 | 0=>-1
 | k+1=>match l[k]? with
  | some t=>if t.op≤5∧t.x=r then (k:Int) else setterI l r k
  | none=>setterI l r k
def readsOf (t:Stp):List Nat:=(if 2≤t.op∧t.op≤5 then [t.y] else [])++(if 2≤t.op∧t.op≤4 then [t.z] else [])++(if 6≤t.op then [t.x] else [])
def properB (t:Stp) (regs ins:Nat):Bool :=
 if 7 < t.op∨regs≤t.x then false
 else if t.op=0∧ins≤t.y then false
 else if t.op=6∧t.y≠0 then false
 else if t.op=7 then decide (t.y < 3) && decide (t.z < 16)
 else decide (t.z=0) || (decide (2≤t.op) && decide (t.op≤4))
def rightB (l:List Stp) (k:Nat) (t:Stp) (regs ins:Nat):Bool:=properB t regs ins && (readsOf t).all fun r=>decide (r < regs) && decide (0≤setterI l r k)
theorem setterI_lt (l:List Stp) (r:Nat):∀ k,setterI l r k < k:=by
 intro k
 induction k with
 | zero=>simp [setterI]
 | succ k ih =>
  simp only [setterI]
  split
  ·split
   ·omega
   ·omega
  ·omega
theorem setterI_hit {l:List Stp} {r k:Nat} (hk:k < l.length) (h:l[k].op≤5∧l[k].x=r):setterI l r (k+1)=(k:Int):=by simp [setterI,hk,h]
theorem setterI_miss {l:List Stp} {r k:Nat} (hk:k < l.length) (h:¬ (l[k].op≤5∧l[k].x=r)):setterI l r (k+1)=setterI l r k:=by
 simp only [setterI,List.getElem?_eq_getElem hk]
 rw [if_neg h]
def val:List Nat→Nat
 | []=>0
 | d :: l=>d+10000*val l
def valI:List Int→Int
 | []=>0
 | d :: l=>d+10000*valI l
def Dig (l:List Nat):Prop:=∀ d∈l,d < 10000
def Top (l:List Nat):Prop:=∀ d,l.getLast?=some d→d≠0
theorem val_append (a b:List Nat):val (a++b)=val a+10000 ^ a.length*val b:=by
 induction a with
 | nil=>simp [val]
 | cons d a ih =>
  simp only [List.cons_append,val,List.length_cons,Nat.pow_succ,ih]
  rw [Nat.mul_add,Nat.mul_comm (10000 ^ a.length) 10000,Nat.mul_assoc];omega
theorem val_lt {a:List Nat} (h:Dig a):val a < 10000 ^ a.length:=by
 induction a with
 | nil=>simp [val]
 | cons d a ih =>
  have h1:=ih (fun x hx=>h x (List.mem_cons_of_mem _ hx))
  have h2:=h d List.mem_cons_self
  simp only [val,List.length_cons,Nat.pow_succ]
  omega
theorem val_top {a:List Nat} (ht:Top a) (hn:a≠[]):10000 ^ (a.length - 1)≤val a:=by
 obtain ⟨b,d,rfl⟩:∃ b d,a=b++[d]:=⟨a.dropLast,a.getLast hn,(List.dropLast_concat_getLast hn).symm⟩
 have hd:d≠0:=ht d (by simp)
 rw [val_append]
 simp only [List.length_append,List.length_cons,List.length_nil,Nat.zero_add,Nat.add_sub_cancel,val,Nat.mul_zero,Nat.add_zero]
 have:10000 ^ b.length*1≤10000 ^ b.length*d:=Nat.mul_le_mul_left _ (by omega)
 omega
theorem val_shorter {a b:List Nat} (ha:Dig a) (hb:Top b) (h:a.length < b.length):val a < val b:=by
 have h1:=val_lt ha
 have h2:=val_top hb (by intro e;subst e;simp at h)
 have h3:10000 ^ a.length≤10000 ^ (b.length - 1):=Nat.pow_le_pow_right (by omega) (by omega)
 omega
theorem val_less {a b t:List Nat} {x y:Nat} (ha:Dig a) (hl:a.length=b.length) (hxy:x < y):val (a++x :: t) < val (b++y :: t):=by
 rw [val_append,val_append,← hl]
 have h1:=val_lt ha
 simp only [val]
 have h2:10000 ^ a.length*(x+10000*val t+1)≤10000 ^ a.length*(y+10000*val t):=Nat.mul_le_mul_left _ (by omega)
 rw [Nat.mul_add] at h2
 omega
theorem val_zero_top {l:List Nat}:val (l++[0])=val l:=by rw [val_append];simp [val]
theorem val_nil {l:List Nat} (ht:Top l) (h:val l=0):l=[]:=by
 by_cases hn:l=[]
 ·exact hn
 ·have:=val_top ht hn
  have:0 < 10000 ^ (l.length - 1):=Nat.pow_pos (by omega)
  omega
def num (neg:Bool) (l:List Nat):Int:=if neg then -(val l:Int) else (val l:Int)
def Canon (neg:Bool) (l:List Nat):Prop:=Dig l∧Top l∧(l=[]→neg=false)
theorem num_neg (neg:Bool) (l:List Nat):num (!neg) l=-num neg l:=by cases neg <;> simp [num]
theorem Canon.sign {neg:Bool} {l:List Nat} (h:Canon neg l):(num neg l=0↔l=[])∧(num neg l < 0↔neg=true):=by
 constructor
 ·constructor
  ·intro h0
   refine val_nil h.2.1 ?_
   unfold num at h0;cases neg <;> simp at h0 <;> omega
  ·intro h0;subst h0;cases neg <;> simp [num,val]
 ·constructor
  ·intro h0;unfold num at h0;cases neg
   ·simp at h0;omega
   ·rfl
  ·intro h0;subst h0
   have hn:l≠[]:=fun e=>by have:=h.2.2 e;cases this
   have h1:=val_top h.2.1 hn
   have h2:0 < 10000 ^ (l.length - 1):=Nat.pow_pos (by omega)
   simp [num];omega
theorem Dig.append {a b:List Nat} (ha:Dig a) (hb:Dig b):Dig (a++b):=fun d hd=>by
 rcases List.mem_append.1 hd with h | h
 ·exact ha d h
 ·exact hb d h
theorem valI_le {d:List Int} (h:∀ x∈d,x≤200000000000000000):9999*valI d≤200000000000000000*((10000:Int) ^ d.length - 1):=by
 induction d with
 | nil=>simp [valI]
 | cons x d ih =>
  have h1:=ih (fun y hy=>h y (List.mem_cons_of_mem _ hy))
  have h2:=h x List.mem_cons_self
  simp only [valI,List.length_cons,Int.pow_succ]
  generalize (10000:Int) ^ d.length=P at *
  omega
def CInv (d:List Int) (k:Nat) (os:List Nat) (over:Int):Prop :=
 os.length=k∧Dig os∧(val os:Int)+(10000:Int) ^ k*(over+valI (d.drop k))=valI d∧-100000000000000≤over∧over≤100000000000000
theorem CInv.start (d:List Int):CInv d 0 [] 0:=⟨rfl,fun _ h=>by simp at h,by simp [val],by omega,by omega⟩
theorem valI_drop (d:List Int) (k:Nat):valI (d.drop k)=d[k]?.getD 0+10000*valI (d.drop (k+1)):=by
 by_cases h:k < d.length
 ·rw [List.drop_eq_getElem_cons h];simp [valI,h]
 ·rw [List.drop_of_length_le (by omega),List.drop_of_length_le (by omega)];simp [valI,show d.length≤k by omega]
theorem CInv.step {d:List Int} {k:Nat} {os:List Nat} {over:Int} (h:CInv d k os over) (hd:∀ x∈d,-200000000000000000≤x∧x≤200000000000000000) (n:Int) (hn:n=over+d[k]?.getD 0) :
  CInv d (k+1) (os++[(n % 10000).toNat]) (n / 10000):=by
 obtain ⟨h1,h2,h3,h4,h5⟩:=h
 have hb:-200000000000000000≤d[k]?.getD 0∧d[k]?.getD 0≤200000000000000000:=by
  by_cases hk:k < d.length
  ·simp [hk];exact hd _ (List.getElem_mem hk)
  ·simp [show d.length≤k by omega]
 have hm:((n % 10000).toNat:Int)=n % 10000:=Int.toNat_of_nonneg (Int.emod_nonneg _ (by omega))
 refine ⟨by simp [h1],h2.append (fun x hx=>by simp at hx;omega),?_,by omega,by omega⟩
 have e:(val (os++[(n % 10000).toNat]):Int)=(val os:Int)+(10000:Int) ^ k*(n % 10000):=by
  rw [val_append,h1]
  simp only [val,Nat.mul_zero,Nat.add_zero]
  rw [Int.natCast_add,Int.natCast_mul,hm]
  congr 2
 rw [e,Int.pow_succ,Int.mul_assoc,Int.add_assoc,← Int.mul_add]
 rw [← h3,valI_drop d k]
 congr 2
 have:=Int.emod_add_mul_ediv n 10000
 omega
theorem CInv.finish {d:List Int} {k:Nat} {os:List Nat} {over:Int} (h:CInv d k os over) (hk:d.length≤k) (ho:over≤0) (hd:0≤valI d):(val os:Int)=valI d:=by
 obtain ⟨h1,h2,h3,h4,h5⟩:=h
 rw [List.drop_of_length_le hk] at h3
 simp only [valI,Int.add_zero] at h3
 have hv:=val_lt h2
 rw [h1] at hv
 have hp:(val os:Int) < (10000:Int) ^ k:=by
  have:((10000 ^ k:Nat):Int)=(10000:Int) ^ k:=by simp
  omega
 by_cases h0:over=0
 ·rw [h0] at h3;simpa using h3
 ·exfalso
  have:(10000:Int) ^ k*over≤(10000:Int) ^ k*(-1):=Int.mul_le_mul_of_nonneg_left (by omega) (by have:(0:Int) < (10000:Int) ^ k:=Int.pow_pos (by omega);omega)
  omega
theorem CInv.bound {d:List Int} {k:Nat} {os:List Nat} {over:Int} (h:CInv d k os over) (hk:d.length≤k) (ho:0 < over) (hd:∀ x∈d,-200000000000000000≤x∧x≤200000000000000000):k≤d.length+3:=by
 obtain ⟨h1,h2,h3,h4,h5⟩:=h
 rw [List.drop_of_length_le hk] at h3
 simp only [valI,Int.add_zero] at h3
 have hl:=valI_le (fun x hx=>(hd x hx).2)
 have hp:(10000:Int) ^ k*1≤(10000:Int) ^ k*over:=Int.mul_le_mul_of_nonneg_left (by omega) (by have:(0:Int) < (10000:Int) ^ k:=Int.pow_pos (by omega);omega)
 by_cases hle:k≤d.length+3
 ·exact hle
 ·exfalso
  have hm:(10000:Int) ^ (d.length+4)≤(10000:Int) ^ k:=by
   have:10000 ^ (d.length+4)≤10000 ^ k:=Nat.pow_le_pow_right (by omega) (by omega)
   have e1:((10000 ^ (d.length+4):Nat):Int)=(10000:Int) ^ (d.length+4):=by simp
   have e2:((10000 ^ k:Nat):Int)=(10000:Int) ^ k:=by simp
   omega
  have e4:(10000:Int) ^ (d.length+4)=(10000:Int) ^ d.length*10000000000000000:=by rw [Int.pow_add];rfl
  have hq:(0:Int) < (10000:Int) ^ d.length:=Int.pow_pos (by omega)
  rw [e4] at hm
  generalize (10000:Int) ^ d.length=P at *
  generalize (10000:Int) ^ k=K at *
  generalize K*over=KO at *
  omega
theorem valI_set {d:List Int} {k:Nat} (hk:k < d.length) (x:Int):valI (d.set k x)=valI d+(10000:Int) ^ k*(x - d[k]):=by
 induction d generalizing k with
 | nil=>simp at hk
 | cons y d ih =>
  cases k with
  | zero=>simp [valI];omega
  | succ k =>
   have:=ih (k:=k) (by simpa using hk)
   simp only [List.set_cons_succ,valI,List.getElem_cons_succ,this,Int.pow_succ,Int.mul_add]
   rw [Int.mul_comm ((10000:Int) ^ k) 10000,Int.mul_assoc];omega
theorem valI_zero (n:Nat):valI (List.replicate n 0)=0:=by
 induction n with
 | zero=>rfl
 | succ n ih=>simp [List.replicate_succ,valI,ih]
theorem val_take {l:List Nat} {k:Nat} (h:k < l.length):(val (l.take (k+1)):Int)=(val (l.take k):Int)+(10000:Int) ^ k*(l[k]:Int):=by
 rw [List.take_succ_eq_append_getElem h,val_append]
 have:(l.take k).length=k:=by simp;omega
 rw [this];simp [val]
def MInv (a b:List Nat) (d:List Int) (i j:Nat):Prop :=
 d.length=a.length+b.length∧valI d=(val (a.take i):Int)*(val b:Int)+(10000:Int) ^ i*((a[i]?.getD 0:Nat):Int)*(val (b.take j):Int) ∧
 (∀ k (hk:k < d.length),0≤d[k]∧d[k]≤100000000*((i:Int)+1))∧(∀ k (hk:k < d.length),i+j≤k→d[k]≤100000000*(i:Int))
theorem MInv.start (a b:List Nat):MInv a b (List.replicate (a.length+b.length) 0) 0 0:=by
 refine ⟨by simp,?_,fun k hk=>?_,fun k hk _=>?_⟩
 ·rw [valI_zero];simp [val]
 ·simp
 ·simp
theorem MInv.step {a b:List Nat} {d:List Int} {i j:Nat} (h:MInv a b d i j) (ha:Dig a) (hb:Dig b) (hi:i < a.length) (hj:j < b.length) (hk:i+j < d.length) :
  MInv a b (d.set (i+j) (d[i+j]+(a[i]:Int)*(b[j]:Int))) i (j+1):=by
 obtain ⟨h1,h2,h3,h4⟩:=h
 have hda:=ha _ (List.getElem_mem hi)
 have hdb:=hb _ (List.getElem_mem hj)
 have hp0:0≤(a[i]:Int)*(b[j]:Int):=Int.mul_nonneg (by omega) (by omega)
 have hp1:(a[i]:Int)*(b[j]:Int)≤9999*9999:=by
  have:a[i]*b[j]≤9999*9999:=Nat.mul_le_mul (by omega) (by omega)
  have e:((a[i]*b[j]:Nat):Int)=(a[i]:Int)*(b[j]:Int):=by simp
  omega
 refine ⟨by simpa using h1,?_,fun k hk'=>?_,fun k hk' hle=>?_⟩
 ·rw [valI_set hk,h2,val_take hj]
  have e0:((a[i]?.getD 0:Nat):Int)=(a[i]:Int):=by simp [hi]
  rw [e0]
  have e1:d[i+j]+(a[i]:Int)*(b[j]:Int) - d[i+j]=(a[i]:Int)*(b[j]:Int):=by omega
  rw [e1,Int.mul_add,Int.pow_add,Int.add_assoc]
  congr 2
  simp only [Int.mul_assoc,Int.mul_left_comm]
 ·have hkd:k < d.length:=by simpa using hk'
  rw [List.getElem_set]
  split
  ·have:=(h3 (i+j) hk).1
   have:=h4 (i+j) hk (Nat.le_refl _)
   omega
  ·exact h3 k hkd
 ·have hkd:k < d.length:=by simpa using hk'
  rw [List.getElem_set,if_neg (by omega)]
  exact h4 k hkd (by omega)
theorem MInv.row {a b:List Nat} {d:List Int} {i:Nat} (h:MInv a b d i b.length) (hi:i < a.length):MInv a b d (i+1) 0:=by
 obtain ⟨h1,h2,h3,h4⟩:=h
 refine ⟨h1,?_,fun k hk=>?_,fun k hk hle=>?_⟩
 ·rw [h2,val_take hi,List.take_length]
  have e0:((a[i]?.getD 0:Nat):Int)=(a[i]:Int):=by simp [hi]
  rw [e0]
  simp [val,Int.add_mul]
 ·have:=h3 k hk;omega
 ·have:=(h3 k hk).2;omega
theorem MInv.done {a b:List Nat} {d:List Int} {i:Nat} (h:MInv a b d i 0) (hi:a.length≤i):valI d=(val a:Int)*(val b:Int):=by
 rw [h.2.1,List.take_of_length_le hi]
 simp [val]
theorem MInv.bound {a b:List Nat} {d:List Int} {i j:Nat} (h:MInv a b d i j) (hi:i≤1000000001):∀ x∈d,-200000000000000000≤x∧x≤200000000000000000:=by
 intro x hx
 obtain ⟨k,hk,rfl⟩:=List.getElem_of_mem hx
 have:=h.2.2.1 k hk
 omega
theorem num_mul (nx ny:Bool) (a b os:List Nat) (h:(val os:Int)=(val a:Int)*(val b:Int)):num (nx != ny) os=num nx a*num ny b:=by
 cases nx <;> cases ny <;> simp [num,h,Int.neg_mul,Int.mul_neg]
def fm (w:List UInt8):List UInt8 × Nat :=
 if w == [112,116] then ([],80) else
 if w == [109,105,100] then ([80,80],80) else
 if w == [108,105,110,101] then ([80,80],76) else
 if w == [112,97,114] then ([80,76],76) else
 if w == [112,101,114,112] then ([80,76],76) else
 if w == [109,101,101,116] then ([76,76],80) else
 if w == [102,111,111,116] then ([80,76],80) else
 if w == [109,105,114,114,111,114] then ([80,76],80) else
 if w == [99,101,110,116,114,101] then ([80,80,80],80) else
 if w == [115,97,109,101] then ([80,80],63) else
 if w == [99,111,108] then ([80,80,80],63) else
 if w == [99,99,119] then ([80,80,80],63) else
 if w == [98,116,119] then ([80,80,80],63) else
 if w == [99,111,110] then ([80,80,80,80],63) else
 if w == [111,110] then ([80,76],63) else
 if w == [112,108,108] then ([76,76],63) else
 if w == [112,114,112] then ([76,76],63) else
 if w == [99,99] then ([76,76,76],63) else ([],0)
def qT (w:List UInt8):List UInt8 × Bool :=
 if w == [115,97,109,101] then ([80,80],true) else
 if w == [99,111,108] then ([80,80,80],true) else
 if w == [99,99,119] then ([80,80,80],true) else
 if w == [98,116,119] then ([80,80,80],true) else
 if w == [99,111,110] then ([80,80,80,80],true) else
 if w == [111,110] then ([80,76],true) else
 if w == [112,108,108] then ([76,76],true) else
 if w == [112,114,112] then ([76,76],true) else
 if w == [99,99] then ([76,76,76],true) else ([],false)
def cT (w:List UInt8):List UInt8 × Bool :=
 if w == [112,116] then ([],true) else
 if w == [109,105,100] then ([80,80],true) else
 if w == [108,105,110,101] then ([80,80],true) else
 if w == [112,97,114] then ([80,76],true) else
 if w == [112,101,114,112] then ([80,76],true) else
 if w == [109,101,101,116] then ([76,76],true) else
 if w == [102,111,111,116] then ([80,76],true) else
 if w == [109,105,114,114,111,114] then ([80,76],true) else
 if w == [99,101,110,116,114,101] then ([80,80,80],true) else ([],false)
def sG (w:List UInt8):Nat :=
 if w == [108,105,110,101] then 76 else if w == [112,97,114] then 76 else if w == [112,101,114,112] then 76 else 80
def wG (w:List UInt8) (sum last:Nat):Nat :=
 if w == [112,116] then 1 else if w == [102,111,111,116] then sum+last else if w == [109,105,114,114,111,114] then 2*sum else if w == [99,101,110,116,114,101] then 4*sum else sum
theorem qT_fm (w:List UInt8):((qT w).2=true↔(fm w).2=63)∧((qT w).2=true→(qT w).1=(fm w).1):=by
 by_cases h0:w=[112,116]
 ·subst h0;first | decide | (intros;decide)
 by_cases h1:w=[109,105,100]
 ·subst h1;first | decide | (intros;decide)
 by_cases h2:w=[108,105,110,101]
 ·subst h2;first | decide | (intros;decide)
 by_cases h3:w=[112,97,114]
 ·subst h3;first | decide | (intros;decide)
 by_cases h4:w=[112,101,114,112]
 ·subst h4;first | decide | (intros;decide)
 by_cases h5:w=[109,101,101,116]
 ·subst h5;first | decide | (intros;decide)
 by_cases h6:w=[102,111,111,116]
 ·subst h6;first | decide | (intros;decide)
 by_cases h7:w=[109,105,114,114,111,114]
 ·subst h7;first | decide | (intros;decide)
 by_cases h8:w=[99,101,110,116,114,101]
 ·subst h8;first | decide | (intros;decide)
 by_cases h9:w=[115,97,109,101]
 ·subst h9;first | decide | (intros;decide)
 by_cases h10:w=[99,111,108]
 ·subst h10;first | decide | (intros;decide)
 by_cases h11:w=[99,99,119]
 ·subst h11;first | decide | (intros;decide)
 by_cases h12:w=[98,116,119]
 ·subst h12;first | decide | (intros;decide)
 by_cases h13:w=[99,111,110]
 ·subst h13;first | decide | (intros;decide)
 by_cases h14:w=[111,110]
 ·subst h14;first | decide | (intros;decide)
 by_cases h15:w=[112,108,108]
 ·subst h15;first | decide | (intros;decide)
 by_cases h16:w=[112,114,112]
 ·subst h16;first | decide | (intros;decide)
 by_cases h17:w=[99,99]
 ·subst h17;first | decide | (intros;decide)
 simp [qT,fm,show (w == [112,116])=false from beq_eq_false_iff_ne.2 h0,show (w == [109,105,100])=false from beq_eq_false_iff_ne.2 h1,show (w == [108,105,110,101])=false from beq_eq_false_iff_ne.2 h2,show (w == [112,97,114])=false from beq_eq_false_iff_ne.2 h3,show (w == [112,101,114,112])=false from beq_eq_false_iff_ne.2 h4,show (w == [109,101,101,116])=false from beq_eq_false_iff_ne.2 h5,show (w == [102,111,111,116])=false from beq_eq_false_iff_ne.2 h6,show (w == [109,105,114,114,111,114])=false from beq_eq_false_iff_ne.2 h7,show (w == [99,101,110,116,114,101])=false from beq_eq_false_iff_ne.2 h8,show (w == [115,97,109,101])=false from beq_eq_false_iff_ne.2 h9,show (w == [99,111,108])=false from beq_eq_false_iff_ne.2 h10,show (w == [99,99,119])=false from beq_eq_false_iff_ne.2 h11,show (w == [98,116,119])=false from beq_eq_false_iff_ne.2 h12,show (w == [99,111,110])=false from beq_eq_false_iff_ne.2 h13,show (w == [111,110])=false from beq_eq_false_iff_ne.2 h14,show (w == [112,108,108])=false from beq_eq_false_iff_ne.2 h15,show (w == [112,114,112])=false from beq_eq_false_iff_ne.2 h16,show (w == [99,99])=false from beq_eq_false_iff_ne.2 h17]
theorem cT_fm (w:List UInt8):((cT w).2=true↔(fm w).2≠63∧(fm w).2≠0)∧((cT w).2=true→(cT w).1=(fm w).1):=by
 by_cases h0:w=[112,116]
 ·subst h0;first | decide | (intros;decide)
 by_cases h1:w=[109,105,100]
 ·subst h1;first | decide | (intros;decide)
 by_cases h2:w=[108,105,110,101]
 ·subst h2;first | decide | (intros;decide)
 by_cases h3:w=[112,97,114]
 ·subst h3;first | decide | (intros;decide)
 by_cases h4:w=[112,101,114,112]
 ·subst h4;first | decide | (intros;decide)
 by_cases h5:w=[109,101,101,116]
 ·subst h5;first | decide | (intros;decide)
 by_cases h6:w=[102,111,111,116]
 ·subst h6;first | decide | (intros;decide)
 by_cases h7:w=[109,105,114,114,111,114]
 ·subst h7;first | decide | (intros;decide)
 by_cases h8:w=[99,101,110,116,114,101]
 ·subst h8;first | decide | (intros;decide)
 by_cases h9:w=[115,97,109,101]
 ·subst h9;first | decide | (intros;decide)
 by_cases h10:w=[99,111,108]
 ·subst h10;first | decide | (intros;decide)
 by_cases h11:w=[99,99,119]
 ·subst h11;first | decide | (intros;decide)
 by_cases h12:w=[98,116,119]
 ·subst h12;first | decide | (intros;decide)
 by_cases h13:w=[99,111,110]
 ·subst h13;first | decide | (intros;decide)
 by_cases h14:w=[111,110]
 ·subst h14;first | decide | (intros;decide)
 by_cases h15:w=[112,108,108]
 ·subst h15;first | decide | (intros;decide)
 by_cases h16:w=[112,114,112]
 ·subst h16;first | decide | (intros;decide)
 by_cases h17:w=[99,99]
 ·subst h17;first | decide | (intros;decide)
 simp [cT,fm,show (w == [112,116])=false from beq_eq_false_iff_ne.2 h0,show (w == [109,105,100])=false from beq_eq_false_iff_ne.2 h1,show (w == [108,105,110,101])=false from beq_eq_false_iff_ne.2 h2,show (w == [112,97,114])=false from beq_eq_false_iff_ne.2 h3,show (w == [112,101,114,112])=false from beq_eq_false_iff_ne.2 h4,show (w == [109,101,101,116])=false from beq_eq_false_iff_ne.2 h5,show (w == [102,111,111,116])=false from beq_eq_false_iff_ne.2 h6,show (w == [109,105,114,114,111,114])=false from beq_eq_false_iff_ne.2 h7,show (w == [99,101,110,116,114,101])=false from beq_eq_false_iff_ne.2 h8,show (w == [115,97,109,101])=false from beq_eq_false_iff_ne.2 h9,show (w == [99,111,108])=false from beq_eq_false_iff_ne.2 h10,show (w == [99,99,119])=false from beq_eq_false_iff_ne.2 h11,show (w == [98,116,119])=false from beq_eq_false_iff_ne.2 h12,show (w == [99,111,110])=false from beq_eq_false_iff_ne.2 h13,show (w == [111,110])=false from beq_eq_false_iff_ne.2 h14,show (w == [112,108,108])=false from beq_eq_false_iff_ne.2 h15,show (w == [112,114,112])=false from beq_eq_false_iff_ne.2 h16,show (w == [99,99])=false from beq_eq_false_iff_ne.2 h17]
theorem sG_fm (w:List UInt8):(fm w).2≠63→(fm w).2≠0→sG w=(fm w).2:=by
 by_cases h0:w=[112,116]
 ·subst h0;first | decide | (intros;decide)
 by_cases h1:w=[109,105,100]
 ·subst h1;first | decide | (intros;decide)
 by_cases h2:w=[108,105,110,101]
 ·subst h2;first | decide | (intros;decide)
 by_cases h3:w=[112,97,114]
 ·subst h3;first | decide | (intros;decide)
 by_cases h4:w=[112,101,114,112]
 ·subst h4;first | decide | (intros;decide)
 by_cases h5:w=[109,101,101,116]
 ·subst h5;first | decide | (intros;decide)
 by_cases h6:w=[102,111,111,116]
 ·subst h6;first | decide | (intros;decide)
 by_cases h7:w=[109,105,114,114,111,114]
 ·subst h7;first | decide | (intros;decide)
 by_cases h8:w=[99,101,110,116,114,101]
 ·subst h8;first | decide | (intros;decide)
 by_cases h9:w=[115,97,109,101]
 ·subst h9;first | decide | (intros;decide)
 by_cases h10:w=[99,111,108]
 ·subst h10;first | decide | (intros;decide)
 by_cases h11:w=[99,99,119]
 ·subst h11;first | decide | (intros;decide)
 by_cases h12:w=[98,116,119]
 ·subst h12;first | decide | (intros;decide)
 by_cases h13:w=[99,111,110]
 ·subst h13;first | decide | (intros;decide)
 by_cases h14:w=[111,110]
 ·subst h14;first | decide | (intros;decide)
 by_cases h15:w=[112,108,108]
 ·subst h15;first | decide | (intros;decide)
 by_cases h16:w=[112,114,112]
 ·subst h16;first | decide | (intros;decide)
 by_cases h17:w=[99,99]
 ·subst h17;first | decide | (intros;decide)
 simp [sG,fm,show (w == [112,116])=false from beq_eq_false_iff_ne.2 h0,show (w == [109,105,100])=false from beq_eq_false_iff_ne.2 h1,show (w == [108,105,110,101])=false from beq_eq_false_iff_ne.2 h2,show (w == [112,97,114])=false from beq_eq_false_iff_ne.2 h3,show (w == [112,101,114,112])=false from beq_eq_false_iff_ne.2 h4,show (w == [109,101,101,116])=false from beq_eq_false_iff_ne.2 h5,show (w == [102,111,111,116])=false from beq_eq_false_iff_ne.2 h6,show (w == [109,105,114,114,111,114])=false from beq_eq_false_iff_ne.2 h7,show (w == [99,101,110,116,114,101])=false from beq_eq_false_iff_ne.2 h8,show (w == [115,97,109,101])=false from beq_eq_false_iff_ne.2 h9,show (w == [99,111,108])=false from beq_eq_false_iff_ne.2 h10,show (w == [99,99,119])=false from beq_eq_false_iff_ne.2 h11,show (w == [98,116,119])=false from beq_eq_false_iff_ne.2 h12,show (w == [99,111,110])=false from beq_eq_false_iff_ne.2 h13,show (w == [111,110])=false from beq_eq_false_iff_ne.2 h14,show (w == [112,108,108])=false from beq_eq_false_iff_ne.2 h15,show (w == [112,114,112])=false from beq_eq_false_iff_ne.2 h16,show (w == [99,99])=false from beq_eq_false_iff_ne.2 h17]
def gvI (l:List St) (nm:Nat):Int:=match l.findIdx? (fun x=>x.name == nm) with
 | some k=>(k:Int)
 | none=>-1
theorem gvI_none {l:List St} {nm:Nat} (h:∀ j (hj:j < l.length),l[j].name≠nm):gvI l nm=-1:=by
 have:l.findIdx? (fun x=>x.name == nm)=none:=by
  rw [List.findIdx?_eq_none_iff]
  intro x hx
  obtain ⟨j,hj,rfl⟩:=List.getElem_of_mem hx
  simpa using h j hj
 simp [gvI,this]
theorem gvI_some {l:List St} {nm k:Nat} (hk:k < l.length) (he:l[k].name=nm) (h:∀ j (hj:j < k),l[j].name≠nm):gvI l nm=k:=by
 have:l.findIdx? (fun x=>x.name == nm)=some k:=by
  rw [List.findIdx?_eq_some_iff_getElem]
  exact ⟨hk,by simpa using he,fun j hj=>by simpa using h j hj⟩
 simp [gvI,this]
theorem gvI_cases (l:List St) (nm:Nat):(gvI l nm=-1∧∀ j (hj:j < l.length),l[j].name≠nm)∨(∃ k,∃ hk:k < l.length,gvI l nm=(k:Int)∧l[k].name=nm∧∀ j (hj:j < k),l[j].name≠nm):=by
 cases h:l.findIdx? (fun x=>x.name == nm) with
 | none =>
  refine .inl ⟨by simp [gvI,h],fun j hj=>?_⟩
  rw [List.findIdx?_eq_none_iff] at h
  simpa using h l[j] (List.getElem_mem hj)
 | some k =>
  rw [List.findIdx?_eq_some_iff_getElem] at h
  obtain ⟨hk,h1,h2⟩:=h
  have h2':∀ j (hj:j < k),l[j].name≠nm:=fun j hj=>by simpa using h2 j hj
  exact .inr ⟨k,hk,gvI_some hk (by simpa using h1) h2',by simpa using h1,h2'⟩
structure Tr where
 x:Nat
 y:Nat
 w:Nat
def prodS (s p q r t:Nat):List Stp:=[⟨4,s,p,q⟩,⟨4,s+1,r,t⟩,⟨2,s+2,s,s+1⟩]
def prodD (s p q r t:Nat):List Stp:=[⟨4,s,p,q⟩,⟨4,s+1,r,t⟩,⟨3,s+2,s,s+1⟩]
def negL (s y:Nat):List Stp:=[⟨1,s,0,0⟩,⟨3,s+1,s,y⟩]
def isnL (s y:Nat):List Stp:=[⟨5,s,y,0⟩,⟨4,s+1,s,s⟩,⟨1,s+2,1,0⟩,⟨3,s+3,s+2,s+1⟩]
def crossR (s:Nat):Tr:=⟨s+2,s+5,s+8⟩
def crossL (s:Nat) (a b:Tr):List Stp:=prodD s a.y b.w a.w b.y++(prodD (s+3) a.w b.x a.x b.w++prodD (s+6) a.x b.y a.y b.x)
def dotL (s:Nat) (a b:Tr):List Stp:=prodS s a.x b.x a.y b.y++[⟨4,s+3,a.w,b.w⟩,⟨2,s+4,s+2,s+3⟩]
def volL (s:Nat) (a b c:Tr):List Stp:=crossL s a b++dotL (s+9) (crossR s) c
def givenR (s:Nat):Tr:=⟨s,s+1,s+2⟩
def givenL (s i:Nat):List Stp:=[⟨0,s,i,0⟩,⟨0,s+1,i+1,0⟩,⟨1,s+2,1,0⟩]
def midR (s:Nat):Tr:=⟨s+2,s+5,s+7⟩
def midL (s:Nat) (a b:Tr):List Stp:=prodS s a.x b.w b.x a.w++(prodS (s+3) a.y b.w b.y a.w++[⟨4,s+6,a.w,b.w⟩,⟨2,s+7,s+6,s+6⟩])
def parR (s:Nat):Tr:=⟨s,s+1,s+6⟩
def parL (s:Nat) (p l:Tr):List Stp:=[⟨4,s,l.x,p.w⟩,⟨4,s+1,l.y,p.w⟩]++(prodS (s+2) l.x p.x l.y p.y++negL (s+5) (s+4))
def uprR (s:Nat):Tr:=⟨s+2,s+3,s+8⟩
def uprL (s:Nat) (p l:Tr):List Stp:=negL s l.x++parL (s+2) p ⟨l.y,s+1,l.w⟩
def footR (s:Nat):Tr:=⟨s+11,s+14,s+17⟩
def footL (s:Nat) (p l:Tr):List Stp:=uprL s p l++crossL (s+9) (uprR s) l
def mirR (s:Nat):Tr:=⟨s+22,s+25,s+26⟩
def mirL (s:Nat) (p l:Tr):List Stp :=
 footL s p l++([⟨2,s+18,s+11,s+11⟩,⟨2,s+19,s+14,s+14⟩]++(prodD (s+20) (s+18) p.w p.x (s+17)++(prodD (s+23) (s+19) p.w p.y (s+17)++[⟨4,s+26,s+17,p.w⟩])))
def halR (s:Nat):Tr:=⟨s+19,s+20,s+25⟩
def halL (s:Nat) (a b:Tr):List Stp:=midL s a b++(crossL (s+8) a b++uprL (s+17) (midR s) (crossR (s+8)))
def cenR (s:Nat):Tr:=⟨s+54,s+57,s+60⟩
def cenL (s:Nat) (a b c:Tr):List Stp:=halL s a b++(halL (s+26) a c++crossL (s+52) (halR s) (halR (s+26)))
def wayR (s:Nat):Tr:=⟨s+2,s+5,s+6⟩
def wayL (s:Nat) (f t:Tr):List Stp:=prodD s t.x f.w f.x t.w++(prodD (s+3) t.y f.w f.y t.w++[⟨4,s+6,f.w,t.w⟩])
def lifR (s:Nat):Tr:=⟨s,s+1,s+4⟩
def lifL (s:Nat) (p:Tr):List Stp:=[⟨4,s,p.x,p.w⟩,⟨4,s+1,p.y,p.w⟩]++prodS (s+2) p.x p.x p.y p.y
def btwL (s:Nat) (a b c:Tr):List Stp :=
 volL s a b c++(isnL (s+14) (s+13)++(wayL (s+18) b a++(wayL (s+25) b c++(prodS (s+32) (s+20) (s+27) (s+23) (s+30)++(negL (s+35) (s+34)++[⟨4,s+37,s+17,s+36⟩])))))
def rndL (s:Nat) (a b c d:Tr):List Stp :=
 wayL s a b++(wayL (s+7) a c++(wayL (s+14) a d++(lifL (s+21) (wayR s)++(lifL (s+26) (wayR (s+7))++(lifL (s+31) (wayR (s+14))++volL (s+36) (lifR (s+21)) (lifR (s+26)) (lifR (s+31)))))))
def samL (s:Nat) (a b:Tr):List Stp:=wayL s a b++prodS (s+7) (s+2) (s+2) (s+5) (s+5)
structure Th where
 a:Tr
 b:Tr
 c:Tr
 d:Tr
def gapL (wd:List UInt8) (s:Nat) (t:Th):List Stp × Nat :=
 if wd == [115,97,109,101] then (samL s t.a t.b,9)
 else if wd == [99,111,110] then (rndL s t.a t.b t.c t.d,49)
 else if wd == [111,110] then (dotL s t.a t.b,4)
 else if wd == [112,108,108] then (prodD s t.a.x t.b.y t.a.y t.b.x,2)
 else if wd == [112,114,112] then (prodS s t.a.x t.b.x t.a.y t.b.y,2)
 else (volL s t.a t.b t.c,13)
def askL (wd:List UInt8) (s:Nat) (t:Th):List Stp × Nat :=
 if wd == [99,99,119] then (volL s t.a t.b t.c,13)
 else if wd == [98,116,119] then (btwL s t.a t.b t.c,37)
 else ((gapL wd s t).1++isnL (s+(gapL wd s t).2+1) (s+(gapL wd s t).2),(gapL wd s t).2+4)
def conL (wd:List UInt8) (s i:Nat) (t:Th):List Stp × Tr × Nat :=
 if wd == [112,116] then (givenL s i,givenR s,i+2)
 else if wd == [109,105,100] then (midL s t.a t.b,midR s,i)
 else if wd == [112,97,114] then (parL s t.a t.b,parR s,i)
 else if wd == [112,101,114,112] then (uprL s t.a t.b,uprR s,i)
 else if wd == [102,111,111,116] then (footL s t.a t.b,footR s,i)
 else if wd == [109,105,114,114,111,114] then (mirL s t.a t.b,mirR s,i)
 else if wd == [99,101,110,116,114,101] then (cenL s t.a t.b t.c,cenR s,i)
 else (crossL s t.a t.b,crossR s,i)
def grdL (wd:List UInt8) (s:Nat) (m:Tr) (k:Nat):List Stp :=
 if wd == [108,105,110,101] then prodS s m.x m.x m.y m.y++[⟨7,s+2,0,k⟩]
 else if wd == [109,101,101,116] then [⟨7,m.w,1,k⟩]
 else if wd == [99,101,110,116,114,101] then [⟨7,m.w,2,k⟩] else []
def facL (wd:List UInt8) (s:Nat) (m:Tr):List Stp:=if sG wd=80 then [⟨5,s,m.w,0⟩] else [⟨1,s,1,0⟩]
def keepL (wd:List UInt8) (s:Nat) (m:Tr) (k:Nat):List Stp:=facL wd s m++[⟨4,3*k,m.x,s⟩,⟨4,3*k+1,m.y,s⟩,⟨4,3*k+2,m.w,s⟩]
def decN (n:Nat):List UInt8:=if 9 < n then [UInt8.ofNat (48+n / 10),UInt8.ofNat (48+n % 10)] else [UInt8.ofNat (48+n % 10)]
def dec (n:Int):ByteArray:=⟨((if n < 0 then [45] else [])++decN n.natAbs).toArray⟩
theorem dec_nat (n:Nat):dec (n:Int)=⟨(decN n).toArray⟩:=by
 unfold dec;rw [if_neg (by omega)];simp
theorem dec_neg (n:Nat) (h:0 < n):dec (-(n:Int))=⟨(45 :: decN n).toArray⟩:=by
 unfold dec;rw [if_pos (by omega)];simp
theorem dec_size (n:Int):(dec n).size≤3:=by
 show (((if n < 0 then [45] else [])++decN n.natAbs).toArray).size≤3
 unfold decN
 split <;> split <;> simp
def numer (t:ByteArray):Option Int:=((List.range 199).find? fun (i:Nat)=>decide (t=dec ((i:Int) - 99))).map fun (i:Nat)=>(i:Int) - 99
theorem numer_some {t:ByteArray} {j:Nat} (hj:j < 199) (h:t=dec ((j:Int) - 99)) (hb:∀ i:Nat,i < j→t≠dec ((i:Int) - 99)):numer t=some ((j:Int) - 99):=by
 have:(List.range 199).find? (fun (i:Nat)=>decide (t=dec ((i:Int) - 99)))=some j:=by
  rw [List.find?_range_eq_some]
  exact ⟨by simp [← h],by simpa using hj,fun i hi=>by simpa using hb i hi⟩
 simp [numer,this]
theorem numer_none {t:ByteArray} (hb:∀ i:Nat,i < 199→t≠dec ((i:Int) - 99)):numer t=none:=by
 have:(List.range 199).find? (fun (i:Nat)=>decide (t=dec ((i:Int) - 99)))=none:=by
  rw [List.find?_eq_none]
  intro i hi
  simpa using hb i (by simpa using hi)
 simp [numer,this]
theorem numer_range {t:ByteArray} {n:Int} (h:numer t=some n):-99≤n∧n≤99:=by
 unfold numer at h
 obtain ⟨i,hi,rfl⟩:=Option.map_eq_some_iff.1 h
 have:=List.mem_of_find?_eq_some hi
 simp at this
 omega
def inpSt (s:ByteArray):Nat→Option (Nat × List Int)
 | 0=>some (0,[])
 | i+1=>match inpSt s i with
  | none=>none
  | some (f,l)=>if i=s.size∨g s i=44 then (match numer (s.extract f i) with
    | some n=>some (i+1,l++[n])
    | none=>none) else some (f,l)
def inps (s:ByteArray):Option (List Int):=if s.size=0 then some [] else (inpSt s (s.size+1)).map fun p=>p.2
theorem inpSt_none {s:ByteArray} {i:Nat} (h:inpSt s i=none):∀ k,i≤k→inpSt s k=none:=by
 intro k hk
 induction k with
 | zero =>
  have:i=0:=by omega
  subst this;exact h
 | succ k ih =>
  by_cases e:i=k+1
  ·subst e;exact h
  ·simp [inpSt,ih (by omega)]
theorem inpSt_num {s:ByteArray} {i f:Nat} {l:List Int} {n:Int} (h:inpSt s i=some (f,l)) (hc:i=s.size∨g s i=44) (hn:numer (s.extract f i)=some n):inpSt s (i+1)=some (i+1,l++[n]):=by
 simp only [inpSt,h]
 rw [if_pos hc,hn]
theorem inpSt_bad {s:ByteArray} {i f:Nat} {l:List Int} (h:inpSt s i=some (f,l)) (hc:i=s.size∨g s i=44) (hn:numer (s.extract f i)=none):inpSt s (i+1)=none:=by
 simp only [inpSt,h]
 rw [if_pos hc,hn]
theorem inpSt_on {s:ByteArray} {i f:Nat} {l:List Int} (h:inpSt s i=some (f,l)) (hc:¬ (i=s.size∨g s i=44)):inpSt s (i+1)=some (f,l):=by
 simp only [inpSt,h]
 rw [if_neg hc]
theorem inps_bad {s:ByteArray} {i f:Nat} {l:List Int} (h0:s.size≠0) (hi:i≤s.size) (h:inpSt s i=some (f,l)) (hc:i=s.size∨g s i=44) (hn:numer (s.extract f i)=none):inps s=none:=by
 simp [inps,h0,inpSt_none (inpSt_bad h hc hn) (s.size+1) (by omega)]
theorem inps_good {s:ByteArray} {f:Nat} {l:List Int} (h0:s.size≠0) (h:inpSt s (s.size+1)=some (f,l)):inps s=some l:=by simp [inps,h0,h]
def sgn (x:Int):Int:=if x < 0 then -1 else if x=0 then 0 else 1
def reg (regs:List Int) (r:Nat):Int:=regs[r]?.getD 0
def valOf (t:Stp) (regs ins:List Int):Int :=
 if t.op=0 then ins[t.y]?.getD 0
 else if t.op=1 then (t.y:Int)
 else if t.op=2 then reg regs t.y+reg regs t.z
 else if t.op=3 then reg regs t.y - reg regs t.z
 else if t.op=4 then reg regs t.y*reg regs t.z
 else sgn (reg regs t.y)
def spc (y:Nat):UInt8:=if y=0 then 115 else if y=1 then 112 else 99
def play (B:Nat) (ins:List Int):List Stp→List Int→ByteArray→ByteArray × Nat
 | [],_,s=>(s,0)
 | t :: l,regs,s =>
  if t.op < 6 then (if B≤(valOf t regs ins).natAbs then (⟨#[]⟩,10) else play B ins l (regs.set t.x (valOf t regs ins)) s)
  else if t.op=6 then play B ins l regs (s++⟨#[if 0 < reg regs t.x then 49 else 48]⟩)
  else if reg regs t.x=0 then (s++⟨#[spc t.y]⟩++dec (t.z:Int),0)
  else play B ins l regs s
theorem play_big {B:Nat} {ins:List Int} {t:Stp} {l:List Stp} {regs:List Int} {s:ByteArray} (h:t.op < 6) (hb:B≤(valOf t regs ins).natAbs):play B ins (t :: l) regs s=(⟨#[]⟩,10):=by simp [play,h,hb]
theorem play_set {B:Nat} {ins:List Int} {t:Stp} {l:List Stp} {regs:List Int} {s:ByteArray} (h:t.op < 6) (hb:¬ B≤(valOf t regs ins).natAbs):play B ins (t :: l) regs s=play B ins l (regs.set t.x (valOf t regs ins)) s:=by simp [play,h,hb]
theorem play_out {B:Nat} {ins:List Int} {t:Stp} {l:List Stp} {regs:List Int} {s:ByteArray} (h:t.op=6):play B ins (t :: l) regs s=play B ins l regs (s++⟨#[if 0 < reg regs t.x then 49 else 48]⟩):=by simp [play,h]
theorem play_end {B:Nat} {ins:List Int} {t:Stp} {l:List Stp} {regs:List Int} {s:ByteArray} (h:6 < t.op) (h0:reg regs t.x=0):play B ins (t :: l) regs s=(s++⟨#[spc t.y]⟩++dec (t.z:Int),0):=by
 rw [play,if_neg (by omega),if_neg (by omega),if_pos h0]
theorem play_on {B:Nat} {ins:List Int} {t:Stp} {l:List Stp} {regs:List Int} {s:ByteArray} (h:6 < t.op) (h0:reg regs t.x≠0):play B ins (t :: l) regs s=play B ins l regs s:=by
 rw [play,if_neg (by omega),if_neg (by omega),if_neg h0]
end Go.Proofs.YtmnfndpbblpjiaaGreatDoor.Pu

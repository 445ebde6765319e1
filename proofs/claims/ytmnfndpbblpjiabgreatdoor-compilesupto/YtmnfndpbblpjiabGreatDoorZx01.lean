/- The plain functions by which the two sides are held together: the document's scanner and its gathering of statements, byte by byte; names, sorts, weights, faults. No program is named here. -/
import Derived.WalkKit
theorem Go.Proofs.YtmnfndpbblpjiabGreatDoor.zI {a b:Prop} (x:a) (y:b):a/\b:=⟨x,y⟩
namespace Go.Proofs.YtmnfndpbblpjiabGreatDoor.Pu
def bt (s:ByteArray) (i:Nat):UInt8:=if h:i < s.size then s[i] else 0
def g (s:ByteArray) (i:Nat):Nat:=(bt s i).toNat
def gU (c:Nat):Bool:=decide (97<=c) && decide (c<=122)
theorem Z8 {s:ByteArray} {i:Nat} (h:i < s.size):bt s i=s[i]:=by simp[bt,h]
theorem dB {s:ByteArray} {i:Nat} (h:i < s.size):g s i=s[i].toNat:=by simp[g,bt,h]
theorem FQ {s:ByteArray} {i:Nat} (h:s.size<=i):g s i=0:=by simp[g,bt,show ¬ i < s.size by omega]
theorem rW (s:ByteArray) (i:Nat):g s i < 256:=(bt s i).toNat_lt
theorem Ec {s:ByteArray} {i:Nat} (h:g s i≠0):i < s.size:=by
 by_cases hl:i < s.size
 ·exact hl
 ·exact absurd (FQ (by omega)) h
structure Sc where
 st:Nat
 n:Nat
 le:Nat
 ar:Nat
def nx (x:Sc) (c:Nat):Option Sc :=
 if x.st=0 then
  if x.n=16 then none else if c=63 then some ⟨2,x.n,x.le,x.ar⟩ else if gU c then some ⟨1,x.n,x.le,x.ar⟩ else none
 else if x.st=1 then (if c=61 then some ⟨2,x.n,x.le,x.ar⟩ else none)
 else if x.st=2 then (if gU c then some ⟨3,x.n,1,x.ar⟩ else none)
 else if x.st=3 then (if gU c && decide (x.le < 6) then some ⟨3,x.n,x.le+1,x.ar⟩ else if c=40 then some ⟨4,x.n,x.le,0⟩ else none)
 else if x.st=4 then (if gU c then some ⟨5,x.n,x.le,x.ar+1⟩ else if c=41 then some ⟨7,x.n,x.le,x.ar⟩ else none)
 else if x.st=5 then (if c=41 then some ⟨7,x.n,x.le,x.ar⟩ else if c=44/\x.ar < 4 then some ⟨6,x.n,x.le,x.ar⟩ else none)
 else if x.st=6 then (if gU c then some ⟨5,x.n,x.le,x.ar+1⟩ else none)
 else if x.st=7 then (if c=59 then some ⟨0,x.n+1,x.le,x.ar⟩ else none)
 else none
def stA (s:ByteArray):Nat->Option Sc
 | 0=>some ⟨0,0,0,0⟩
 | i+1=>(stA s i).bind fun x=>nx x (g s i)
theorem iJ {s:ByteArray} {i:Nat} {x y:Sc} (h:stA s i=some x) (hn:nx x (g s i)=some y):stA s (i+1)=some y:=by simp[stA,h,hn]
theorem BO {s:ByteArray}:∀ {i:Nat} {y:Sc},stA s (i+1)=some y->∃ x,stA s i=some x/\nx x (g s i)=some y:=by
 intro i y h
 simp only[stA]at h
 cases hx:stA s i with
 | none=>simp[hx]at h
 | some x=>exact⟨x,rfl,by simpa [hx] using h⟩
theorem SG {s:ByteArray}:∀ {d i:Nat} {y:Sc},stA s (i+d)=some y->∃ x,stA s i=some x:=by
 intro d
 induction d with
 | zero=>intro i y h;exact⟨y,h⟩
 | succ d ih=>intro i y h;obtain⟨x,hx,_⟩:=BO (i:=i+d) h;exact ih hx
def Stuck (s:ByteArray) (k:Nat):Prop:=∃ x,stA s k=some x/\((k < s.size/\nx x (g s k)=none)\/(k=s.size/\x.st≠0))
def Whole (s:ByteArray):Prop:=∃ x,stA s s.size=some x/\x.st=0
theorem Stuck.le {s:ByteArray} {k:Nat} (h:Stuck s k):k<=s.size:=by
 obtain⟨x,_,h | h⟩:=h<;>omega
theorem Stuck.not_lt {s:ByteArray} {p q:Nat} (h:Stuck s p) {y:Sc} (hq:stA s q=some y) (hs:q<=s.size):q<=p:=by
 obtain⟨x,hx,⟨hlt,hn⟩ | ⟨he,_⟩⟩:=h
 ·by_cases hle:q<=p
  ·exact hle
  ·obtain⟨d,rfl⟩:∃ d,q=p+1+d:=⟨q - (p+1),by omega⟩
   obtain⟨z,hz⟩:=SG hq
   simp[stA,hx,hn]at hz
 ·omega
theorem Stuck.unique {s:ByteArray} {p q:Nat} (h:Stuck s p) (k:Stuck s q):p=q:=by
 have h1:=h;have k1:=k
 obtain⟨x,hx,_⟩:=h
 obtain⟨y,hy,_⟩:=k
 have a:=h1.not_lt hy k1.le
 have b:=k1.not_lt hx h1.le
 omega
theorem Stuck.tX {s:ByteArray} {p:Nat} (h:Stuck s p) (k:Whole s):False:=by
 obtain⟨y,hy,h0⟩:=k
 have a:=h.not_lt hy (Nat.le_refl _)
 have hp:p=s.size:=by have:=h.le;omega
 subst hp
 obtain⟨x,hx,⟨hlt,_⟩ | ⟨_,hn⟩⟩:=h
 ·omega
 ·rw[hy]at hx;cases hx;exact hn h0
structure St where
 name:Nat
 word:List UInt8
 args:List UInt8
structure Ga where
 l:List St
 x:St
 ins:Bool
def aX (s:ByteArray) (i:Nat) (a:Ga):Ga :=
 if g s i=61 then ⟨a.l,⟨g s (i - 1),[],a.x.args⟩,a.ins⟩
 else if g s i=63 then ⟨a.l,⟨a.x.name,[],a.x.args⟩,a.ins⟩
 else if g s i=40 then ⟨a.l,a.x,true⟩
 else if g s i=41 then ⟨a.l,a.x,false⟩
 else if g s i=59 then ⟨a.l++[a.x],⟨0,[],[]⟩,a.ins⟩
 else if gU (g s i) then
  if a.ins then ⟨a.l,⟨a.x.name,a.x.word,a.x.args++[bt s i]⟩,a.ins⟩ else ⟨a.l,⟨a.x.name,a.x.word++[bt s i],a.x.args⟩,a.ins⟩
 else a
def bF (s:ByteArray):Nat->Ga
 | 0=>⟨[],⟨0,[],[]⟩,false⟩
 | i+1=>aX s i (bF s i)
def At (s:ByteArray) (k st n le ar:Nat) (l:List St) (x:St) (ins:Bool):Prop:=stA s k=some ⟨st,n,le,ar⟩/\bF s k=⟨l,x,ins⟩
theorem jM (c:Nat):gU c=true↔97<=c/\c<=122:=by simp[gU]
section steps
variable {s:ByteArray} {k n le ar:Nat} {l:List St} {x:St} {ins:Bool}
theorem Ph (s:ByteArray):At s 0 0 0 0 0 [] ⟨0,[],[]⟩ false:=⟨rfl,rfl⟩
theorem XH (h:At s k 0 n le ar l x ins) (hn:n≠16) (hc:g s k=63):At s (k+1) 2 n le ar l ⟨x.name,[],x.args⟩ ins :=
 ⟨iJ h.1 (by simp[nx,hn,hc]),by simp[bF,h.2,aX,hc]⟩
theorem KQ (h:At s k 0 n le ar l x false) (hn:n≠16) (hc:gU (g s k)=true):At s (k+1) 1 n le ar l ⟨x.name,x.word++[bt s k],x.args⟩ false:=by
 have hl:=(jM _).1 hc
 exact⟨iJ h.1 (by simp[nx,hn,hc,show g s k≠63 by omega]),by
  simp[bF,h.2,aX,hc,show g s k≠61 by omega,show g s k≠63 by omega,show g s k≠40 by omega,show g s k≠41 by omega,show g s k≠59 by omega]⟩
theorem Pf (h:At s k 1 n le ar l x ins) (hc:g s k=61):At s (k+1) 2 n le ar l ⟨g s (k - 1),[],x.args⟩ ins :=
 ⟨iJ h.1 (by simp[nx,hc]),by simp[bF,h.2,aX,hc]⟩
theorem Pg (h:At s k 2 n le ar l x false) (hc:gU (g s k)=true):At s (k+1) 3 n 1 ar l ⟨x.name,x.word++[bt s k],x.args⟩ false:=by
 have hl:=(jM _).1 hc
 exact⟨iJ h.1 (by simp[nx,hc]),by
  simp[bF,h.2,aX,hc,show g s k≠61 by omega,show g s k≠63 by omega,show g s k≠40 by omega,show g s k≠41 by omega,show g s k≠59 by omega]⟩
theorem Uh (h:At s k 3 n le ar l x false) (hle:le < 6) (hc:gU (g s k)=true):At s (k+1) 3 n (le+1) ar l ⟨x.name,x.word++[bt s k],x.args⟩ false:=by
 have hl:=(jM _).1 hc
 exact⟨iJ h.1 (by simp[nx,hc,hle]),by
  simp[bF,h.2,aX,hc,show g s k≠61 by omega,show g s k≠63 by omega,show g s k≠40 by omega,show g s k≠41 by omega,show g s k≠59 by omega]⟩
theorem Uj (h:At s k 3 n le ar l x ins) (hc:g s k=40):At s (k+1) 4 n le 0 l x true :=
 ⟨iJ h.1 (by simp[nx,hc,gU]),by simp[bF,h.2,aX,hc]⟩
theorem Ui (h:At s k 4 n le ar l x ins) (hc:g s k=41):At s (k+1) 7 n le ar l x false :=
 ⟨iJ h.1 (by simp[nx,hc,gU]),by simp[bF,h.2,aX,hc]⟩
theorem O9 (h:At s k 4 n le ar l x true\/At s k 6 n le ar l x true) (hc:gU (g s k)=true):At s (k+1) 5 n le (ar+1) l ⟨x.name,x.word,x.args++[bt s k]⟩ true:=by
 have hl:=(jM _).1 hc
 rcases h with h | h <;>
 exact⟨iJ h.1 (by simp[nx,hc]),by
  simp[bF,h.2,aX,hc,show g s k≠61 by omega,show g s k≠63 by omega,show g s k≠40 by omega,show g s k≠41 by omega,show g s k≠59 by omega]⟩
theorem KR (h:At s k 5 n le ar l x ins) (hc:g s k=41):At s (k+1) 7 n le ar l x false :=
 ⟨iJ h.1 (by simp[nx,hc]),by simp[bF,h.2,aX,hc]⟩
theorem Pb (h:At s k 5 n le ar l x ins) (har:ar < 4) (hc:g s k=44):At s (k+1) 6 n le ar l x ins :=
 ⟨iJ h.1 (by simp[nx,hc,har]),by simp[bF,h.2,aX,hc,gU]⟩
theorem at_end (h:At s k 7 n le ar l x ins) (hc:g s k=59):At s (k+1) 0 (n+1) le ar (l++[x]) ⟨0,[],[]⟩ ins :=
 ⟨iJ h.1 (by simp[nx,hc]),by simp[bF,h.2,aX,hc]⟩
theorem jJ {st:Nat} (h:At s k st n le ar l x ins) (hk:k<=s.size) (h0:st≠0\/k < s.size) (hn:nx ⟨st,n,le,ar⟩ (g s k)=none):Stuck s k:=by
 refine⟨_,h.1,?_⟩
 by_cases hlt:k < s.size
 ·exact .inl ⟨hlt,hn⟩
 ·exact .inr ⟨by omega,by rcases h0 with h0 | h0<;>first | exact h0 | omega⟩
end steps
end Go.Proofs.YtmnfndpbblpjiabGreatDoor.Pu

/- Words, sorts, weights, faults: plain functions. -/
namespace Go.Proofs.YtmnfndpbblpjiabGreatDoor.Pu
def fm (w:List UInt8):List UInt8 × Nat :=
 if w == [112,116] then ([],80) else
 if w == [109,105,100] then ([80,80],80) else
 if w == [108,105,110,101] then ([80,80],76) else
 if w == [112,97,114] then ([80,76],76) else
 if w == [112,101,114,112] then ([80,76],76) else
 if w == [109,101,101,116] then ([76,76],80) else
 if w == [102,111,111,116] then ([80,76],80) else
 if w == [109,105,114,114,111,114] then ([80,76],80) else
 if w == [99,101,110,116,114,101] then ([80,80,80],80) else
 if w == [115,97,109,101] then ([80,80],63) else
 if w == [99,111,108] then ([80,80,80],63) else
 if w == [99,99,119] then ([80,80,80],63) else
 if w == [98,116,119] then ([80,80,80],63) else
 if w == [99,111,110] then ([80,80,80,80],63) else
 if w == [111,110] then ([80,76],63) else
 if w == [112,108,108] then ([76,76],63) else
 if w == [112,114,112] then ([76,76],63) else
 if w == [99,99] then ([76,76,76],63) else ([],0)
def qT (w:List UInt8):List UInt8 × Bool :=
 if w == [115,97,109,101] then ([80,80],true) else
 if w == [99,111,108] then ([80,80,80],true) else
 if w == [99,99,119] then ([80,80,80],true) else
 if w == [98,116,119] then ([80,80,80],true) else
 if w == [99,111,110] then ([80,80,80,80],true) else
 if w == [111,110] then ([80,76],true) else
 if w == [112,108,108] then ([76,76],true) else
 if w == [112,114,112] then ([76,76],true) else
 if w == [99,99] then ([76,76,76],true) else ([],false)
def cT (w:List UInt8):List UInt8 × Bool :=
 if w == [112,116] then ([],true) else
 if w == [109,105,100] then ([80,80],true) else
 if w == [108,105,110,101] then ([80,80],true) else
 if w == [112,97,114] then ([80,76],true) else
 if w == [112,101,114,112] then ([80,76],true) else
 if w == [109,101,101,116] then ([76,76],true) else
 if w == [102,111,111,116] then ([80,76],true) else
 if w == [109,105,114,114,111,114] then ([80,76],true) else
 if w == [99,101,110,116,114,101] then ([80,80,80],true) else ([],false)
def sG (w:List UInt8):Nat :=
 if w == [108,105,110,101] then 76 else if w == [112,97,114] then 76 else if w == [112,101,114,112] then 76 else 80
def wG (w:List UInt8) (sum last:Nat):Nat :=
 if w == [112,116] then 1 else if w == [102,111,111,116] then sum+last else if w == [109,105,114,114,111,114] then 2*sum else if w == [99,101,110,116,114,101] then 4*sum else sum
theorem aa0 (w:List UInt8):((qT w).2=true↔(fm w).2=63)/\((qT w).2=true->(qT w).1=(fm w).1):=by
 by_cases h0:w=[112,116]
 ·subst h0;first | decide | (intros;decide)
 by_cases h1:w=[109,105,100]
 ·subst h1;first | decide | (intros;decide)
 by_cases h2:w=[108,105,110,101]
 ·subst h2;first | decide | (intros;decide)
 by_cases h3:w=[112,97,114]
 ·subst h3;first | decide | (intros;decide)
 by_cases h4:w=[112,101,114,112]
 ·subst h4;first | decide | (intros;decide)
 by_cases h5:w=[109,101,101,116]
 ·subst h5;first | decide | (intros;decide)
 by_cases h6:w=[102,111,111,116]
 ·subst h6;first | decide | (intros;decide)
 by_cases h7:w=[109,105,114,114,111,114]
 ·subst h7;first | decide | (intros;decide)
 by_cases h8:w=[99,101,110,116,114,101]
 ·subst h8;first | decide | (intros;decide)
 by_cases h9:w=[115,97,109,101]
 ·subst h9;first | decide | (intros;decide)
 by_cases h10:w=[99,111,108]
 ·subst h10;first | decide | (intros;decide)
 by_cases h11:w=[99,99,119]
 ·subst h11;first | decide | (intros;decide)
 by_cases h12:w=[98,116,119]
 ·subst h12;first | decide | (intros;decide)
 by_cases Jv:w=[99,111,110]
 ·subst Jv;first | decide | (intros;decide)
 by_cases OM:w=[111,110]
 ·subst OM;first | decide | (intros;decide)
 by_cases FT:w=[112,108,108]
 ·subst FT;first | decide | (intros;decide)
 by_cases h16:w=[112,114,112]
 ·subst h16;first | decide | (intros;decide)
 by_cases Qd:w=[99,99]
 ·subst Qd;first | decide | (intros;decide)
 simp[qT,fm,show (w == [112,116])=false from beq_eq_false_iff_ne.2 h0,show (w == [109,105,100])=false from beq_eq_false_iff_ne.2 h1,show (w == [108,105,110,101])=false from beq_eq_false_iff_ne.2 h2,show (w == [112,97,114])=false from beq_eq_false_iff_ne.2 h3,show (w == [112,101,114,112])=false from beq_eq_false_iff_ne.2 h4,show (w == [109,101,101,116])=false from beq_eq_false_iff_ne.2 h5,show (w == [102,111,111,116])=false from beq_eq_false_iff_ne.2 h6,show (w == [109,105,114,114,111,114])=false from beq_eq_false_iff_ne.2 h7,show (w == [99,101,110,116,114,101])=false from beq_eq_false_iff_ne.2 h8,show (w == [115,97,109,101])=false from beq_eq_false_iff_ne.2 h9,show (w == [99,111,108])=false from beq_eq_false_iff_ne.2 h10,show (w == [99,99,119])=false from beq_eq_false_iff_ne.2 h11,show (w == [98,116,119])=false from beq_eq_false_iff_ne.2 h12,show (w == [99,111,110])=false from beq_eq_false_iff_ne.2 Jv,show (w == [111,110])=false from beq_eq_false_iff_ne.2 OM,show (w == [112,108,108])=false from beq_eq_false_iff_ne.2 FT,show (w == [112,114,112])=false from beq_eq_false_iff_ne.2 h16,show (w == [99,99])=false from beq_eq_false_iff_ne.2 Qd]
theorem Z9 (w:List UInt8):((cT w).2=true↔(fm w).2≠63/\(fm w).2≠0)/\((cT w).2=true->(cT w).1=(fm w).1):=by
 by_cases h0:w=[112,116]
 ·subst h0;first | decide | (intros;decide)
 by_cases h1:w=[109,105,100]
 ·subst h1;first | decide | (intros;decide)
 by_cases h2:w=[108,105,110,101]
 ·subst h2;first | decide | (intros;decide)
 by_cases h3:w=[112,97,114]
 ·subst h3;first | decide | (intros;decide)
 by_cases h4:w=[112,101,114,112]
 ·subst h4;first | decide | (intros;decide)
 by_cases h5:w=[109,101,101,116]
 ·subst h5;first | decide | (intros;decide)
 by_cases h6:w=[102,111,111,116]
 ·subst h6;first | decide | (intros;decide)
 by_cases h7:w=[109,105,114,114,111,114]
 ·subst h7;first | decide | (intros;decide)
 by_cases h8:w=[99,101,110,116,114,101]
 ·subst h8;first | decide | (intros;decide)
 by_cases h9:w=[115,97,109,101]
 ·subst h9;first | decide | (intros;decide)
 by_cases h10:w=[99,111,108]
 ·subst h10;first | decide | (intros;decide)
 by_cases h11:w=[99,99,119]
 ·subst h11;first | decide | (intros;decide)
 by_cases h12:w=[98,116,119]
 ·subst h12;first | decide | (intros;decide)
 by_cases Jv:w=[99,111,110]
 ·subst Jv;first | decide | (intros;decide)
 by_cases OM:w=[111,110]
 ·subst OM;first | decide | (intros;decide)
 by_cases FT:w=[112,108,108]
 ·subst FT;first | decide | (intros;decide)
 by_cases h16:w=[112,114,112]
 ·subst h16;first | decide | (intros;decide)
 by_cases Qd:w=[99,99]
 ·subst Qd;first | decide | (intros;decide)
 simp[cT,fm,show (w == [112,116])=false from beq_eq_false_iff_ne.2 h0,show (w == [109,105,100])=false from beq_eq_false_iff_ne.2 h1,show (w == [108,105,110,101])=false from beq_eq_false_iff_ne.2 h2,show (w == [112,97,114])=false from beq_eq_false_iff_ne.2 h3,show (w == [112,101,114,112])=false from beq_eq_false_iff_ne.2 h4,show (w == [109,101,101,116])=false from beq_eq_false_iff_ne.2 h5,show (w == [102,111,111,116])=false from beq_eq_false_iff_ne.2 h6,show (w == [109,105,114,114,111,114])=false from beq_eq_false_iff_ne.2 h7,show (w == [99,101,110,116,114,101])=false from beq_eq_false_iff_ne.2 h8,show (w == [115,97,109,101])=false from beq_eq_false_iff_ne.2 h9,show (w == [99,111,108])=false from beq_eq_false_iff_ne.2 h10,show (w == [99,99,119])=false from beq_eq_false_iff_ne.2 h11,show (w == [98,116,119])=false from beq_eq_false_iff_ne.2 h12,show (w == [99,111,110])=false from beq_eq_false_iff_ne.2 Jv,show (w == [111,110])=false from beq_eq_false_iff_ne.2 OM,show (w == [112,108,108])=false from beq_eq_false_iff_ne.2 FT,show (w == [112,114,112])=false from beq_eq_false_iff_ne.2 h16,show (w == [99,99])=false from beq_eq_false_iff_ne.2 Qd]
theorem abj (w:List UInt8):(fm w).2≠63->(fm w).2≠0->sG w=(fm w).2:=by
 by_cases h0:w=[112,116]
 ·subst h0;first | decide | (intros;decide)
 by_cases h1:w=[109,105,100]
 ·subst h1;first | decide | (intros;decide)
 by_cases h2:w=[108,105,110,101]
 ·subst h2;first | decide | (intros;decide)
 by_cases h3:w=[112,97,114]
 ·subst h3;first | decide | (intros;decide)
 by_cases h4:w=[112,101,114,112]
 ·subst h4;first | decide | (intros;decide)
 by_cases h5:w=[109,101,101,116]
 ·subst h5;first | decide | (intros;decide)
 by_cases h6:w=[102,111,111,116]
 ·subst h6;first | decide | (intros;decide)
 by_cases h7:w=[109,105,114,114,111,114]
 ·subst h7;first | decide | (intros;decide)
 by_cases h8:w=[99,101,110,116,114,101]
 ·subst h8;first | decide | (intros;decide)
 by_cases h9:w=[115,97,109,101]
 ·subst h9;first | decide | (intros;decide)
 by_cases h10:w=[99,111,108]
 ·subst h10;first | decide | (intros;decide)
 by_cases h11:w=[99,99,119]
 ·subst h11;first | decide | (intros;decide)
 by_cases h12:w=[98,116,119]
 ·subst h12;first | decide | (intros;decide)
 by_cases Jv:w=[99,111,110]
 ·subst Jv;first | decide | (intros;decide)
 by_cases OM:w=[111,110]
 ·subst OM;first | decide | (intros;decide)
 by_cases FT:w=[112,108,108]
 ·subst FT;first | decide | (intros;decide)
 by_cases h16:w=[112,114,112]
 ·subst h16;first | decide | (intros;decide)
 by_cases Qd:w=[99,99]
 ·subst Qd;first | decide | (intros;decide)
 simp[sG,fm,show (w == [112,116])=false from beq_eq_false_iff_ne.2 h0,show (w == [109,105,100])=false from beq_eq_false_iff_ne.2 h1,show (w == [108,105,110,101])=false from beq_eq_false_iff_ne.2 h2,show (w == [112,97,114])=false from beq_eq_false_iff_ne.2 h3,show (w == [112,101,114,112])=false from beq_eq_false_iff_ne.2 h4,show (w == [109,101,101,116])=false from beq_eq_false_iff_ne.2 h5,show (w == [102,111,111,116])=false from beq_eq_false_iff_ne.2 h6,show (w == [109,105,114,114,111,114])=false from beq_eq_false_iff_ne.2 h7,show (w == [99,101,110,116,114,101])=false from beq_eq_false_iff_ne.2 h8,show (w == [115,97,109,101])=false from beq_eq_false_iff_ne.2 h9,show (w == [99,111,108])=false from beq_eq_false_iff_ne.2 h10,show (w == [99,99,119])=false from beq_eq_false_iff_ne.2 h11,show (w == [98,116,119])=false from beq_eq_false_iff_ne.2 h12,show (w == [99,111,110])=false from beq_eq_false_iff_ne.2 Jv,show (w == [111,110])=false from beq_eq_false_iff_ne.2 OM,show (w == [112,108,108])=false from beq_eq_false_iff_ne.2 FT,show (w == [112,114,112])=false from beq_eq_false_iff_ne.2 h16,show (w == [99,99])=false from beq_eq_false_iff_ne.2 Qd]
def gN (l:List St) (nm:Nat):Int:=match l.findIdx? (fun x=>x.name == nm) with
 | some k=>(k:Int)
 | none=>-1
theorem FR {l:List St} {nm:Nat} (h:∀ j (hj:j < l.length),l[j].name≠nm):gN l nm=-1:=by
 have:l.findIdx? (fun x=>x.name == nm)=none:=by
  rw[List.findIdx?_eq_none_iff]
  intro x hx
  obtain⟨j,hj,rfl⟩:=List.getElem_of_mem hx
  simpa using h j hj
 simp[gN,this]
theorem rX {l:List St} {nm k:Nat} (hk:k < l.length) (he:l[k].name=nm) (h:∀ j (hj:j < k),l[j].name≠nm):gN l nm=k:=by
 have:l.findIdx? (fun x=>x.name == nm)=some k:=by
  rw[List.findIdx?_eq_some_iff_getElem]
  exact⟨hk,by simpa using he,fun j hj=>by simpa using h j hj⟩
 simp[gN,this]
theorem p9 (l:List St) (nm:Nat):(gN l nm=-1/\∀ j (hj:j < l.length),l[j].name≠nm)\/(∃ k,∃ hk:k < l.length,gN l nm=(k:Int)/\l[k].name=nm/\∀ j (hj:j < k),l[j].name≠nm):=by
 cases h:l.findIdx? (fun x=>x.name == nm) with
 | none =>
  refine .inl ⟨by simp[gN,h],fun j hj=>?_⟩
  rw[List.findIdx?_eq_none_iff]at h
  simpa using h l[j] (List.getElem_mem hj)
 | some k =>
  rw[List.findIdx?_eq_some_iff_getElem]at h
  obtain⟨hk,h1,h2⟩:=h
  have h2':∀ j (hj:j < k),l[j].name≠nm:=fun j hj=>by simpa using h2 j hj
  exact .inr ⟨k,hk,rX hk (by simpa using h1) h2',by simpa using h1,h2'⟩
def aL (p:List (St × Nat)):List St:=p.map Prod.fst
theorem qY (p:List (St × Nat)):(aL p).length=p.length:=by simp[aL]
def who (p:List (St × Nat)) (nm:Nat):Option (St × Nat):=p.find? (fun y=>y.1.name == nm)
def pX (p:List (St × Nat)) (nm:Nat):Nat:=((who p nm).map Prod.snd).getD 0
def argWord (p:List (St × Nat)) (nm:Nat):List UInt8:=((who p nm).map (fun y=>y.1.word)).getD []
theorem yM {p:List (St × Nat)} {nm k:Nat} (hk:k < p.length) (h:gN (aL p) nm=(k:Int)):who p nm=some p[k]:=by
 rcases p9 (aL p) nm with ⟨h1,_⟩ | ⟨k',hk',h1,h2,h3⟩
 ·omega
 ·have:k'=k:=by omega
  subst this
  unfold who
  rw[List.find?_eq_some_iff_getElem]
  refine⟨by simpa [aL] using h2,k',hk,rfl,fun j hj=>?_⟩
  simpa [aL] using h3 j hj
theorem p8 {p:List (St × Nat)} {nm:Nat} (h:gN (aL p) nm≠-1):∃ k,∃ hk:k < p.length,gN (aL p) nm=(k:Int)/\p[k].1.name=nm:=by
 rcases p9 (aL p) nm with ⟨h1,_⟩ | ⟨k',hk',h1,h2,h3⟩
 ·exact absurd h1 h
 ·exact⟨k',by simpa [aL] using hk',h1,by simpa [aL] using h2⟩
def jA (p:List (St × Nat)) (ag:List UInt8):Nat:=(ag.map fun a=>pX p a.toNat).sum
def kC (p:List (St × Nat)) (ag:List UInt8):Nat:=(ag.getLast?.map fun a=>pX p a.toNat).getD 0
theorem Dn (p:List (St × Nat)) (ag:List UInt8) (a:UInt8):jA p (ag++[a])=jA p ag+pX p a.toNat:=by simp[jA]
theorem Ao (p:List (St × Nat)) (ag:List UInt8) (a:UInt8):kC p (ag++[a])=pX p a.toNat:=by simp[kC]
def xD (p:List (St × Nat)) (x:St):Nat:=if x.name=0 then 0 else wG x.word (jA p x.args) (kC p x.args)
def bX (l:List St) (x:St):Bool:=x.args.all (fun a=>gN l a.toNat != -1) && (x.name == 0 || gN l x.name == -1)
def eU (p:List (St × Nat)) (ag so:List UInt8):Bool:=(ag.zip so).all fun y=>(fm (argWord p y.1.toNat)).2 == y.2.toNat
def kM (p:List (St × Nat)) (ag so:List UInt8):Bool:=(ag.zip so).all fun y=>sG (argWord p y.1.toNat) == y.2.toNat
def known (x:St):Bool:=(fm x.word).2 != 0 && (decide ((fm x.word).2=63) == decide (x.name=0))
def err (p:List (St × Nat)) (x:St):Nat :=
 if known x=false then 3
 else if x.args.length≠(fm x.word).1.length then 4
 else if bX (aL p) x=false then 5
 else if eU p x.args (fm x.word).1=false then 6
 else if 64 < xD p x then 7
 else 0
def Ok (p:List (St × Nat)):Prop:=∀ j (hj:j < p.length),err (p.take j) p[j].1=0/\p[j].2=xD (p.take j) p[j].1
theorem Ok.nil:Ok []:=fun j hj=>by simp at hj
theorem Ok.snoc {p:List (St × Nat)} {x:St} (h:Ok p) (he:err p x=0):Ok (p++[(x,xD p x)]):=by
 intro j hj
 by_cases hl:j < p.length
 ·have:=h j hl
  rw[List.take_append_of_le_length (by omega),List.getElem_append_left hl]
  exact this
 ·have:j=p.length:=by simp at hj;omega
  subst this
  simp[he]
theorem fQ {p:List (St × Nat)} {x:St} (h:err p x=0):known x=true/\x.args.length=(fm x.word).1.length/\bX (aL p) x=true/\eU p x.args (fm x.word).1=true/\xD p x<=64:=by
 unfold err at h
 by_cases h1:known x=false
 ·simp[h1]at h
 ·by_cases h2:x.args.length≠(fm x.word).1.length
  ·simp[h1,h2]at h
  ·by_cases h3:bX (aL p) x=false
   ·simp[h1,h2,h3]at h
   ·by_cases h4:eU p x.args (fm x.word).1=false
    ·simp[h1,h2,h3,h4]at h
    ·by_cases h5:64 < xD p x
     ·simp[h1,h2,h3,h4,h5]at h
     ·exact⟨by simpa using h1,by simpa using h2,by simpa using h3,by simpa using h4,by omega⟩
theorem Ok.weight {p:List (St × Nat)} (h:Ok p) {j:Nat} (hj:j < p.length):p[j].2<=64:=by
 obtain⟨h1,h2⟩:=h j hj
 rw[h2];exact (fQ h1).2.2.2.2
theorem Ok.pX {p:List (St × Nat)} (h:Ok p) (nm:Nat):pX p nm<=64:=by
 unfold Pu.pX who
 cases hf:p.find? (fun y=>y.1.name == nm) with
 | none=>simp
 | some y =>
  obtain⟨j,hj,rfl⟩:=List.getElem_of_mem (List.mem_of_find?_eq_some hf)
  simpa using h.weight hj
theorem Ok.jA {p:List (St × Nat)} (h:Ok p) (ag:List UInt8):jA p ag<=64*ag.length:=by
 induction ag with
 | nil=>simp[Pu.jA]
 | cons a ag ih =>
  have:=h.pX a.toNat
  simp only[Pu.jA,List.map_cons,List.sum_cons,List.length_cons]at *
  omega
theorem Ok.kC {p:List (St × Nat)} (h:Ok p) (ag:List UInt8):kC p ag<=64:=by
 unfold Pu.kC
 cases ag.getLast? with
 | none=>simp
 | some a=>simpa using h.pX a.toNat
theorem uV (w:List UInt8):(fm w).1.length<=4:=by
 have key:∀ (b:Bool) (x y:List UInt8 × Nat),x.1.length<=4->y.1.length<=4->(if b then x else y).1.length<=4:=fun b x y hx hy=>by cases b<;>simp[hx,hy]
 unfold fm
 repeat' (refine key _ _ _ ?_ ?_)
 all_goals decide
theorem Kv {p:List (St × Nat)} (h:Ok p) {ag so:List UInt8} (hg:∀ a∈ag,gN (aL p) a.toNat≠-1) (hz:∀ a∈ag,a.toNat≠0):kM p ag so=eU p ag so:=by
 unfold kM eU
 rw[Bool.eq_iff_iff,List.all_eq_true,List.all_eq_true]
 have key:∀ y∈ag.zip so,sG (argWord p y.1.toNat)=(fm (argWord p y.1.toNat)).2:=by
  intro y hy
  have ha:y.1∈ag:=(List.of_mem_zip hy).1
  obtain⟨k,hk,h1,h2⟩:=p8 (hg _ ha)
  have hw:=yM hk h1
  have hword:argWord p y.1.toNat=p[k].1.word:=by simp[argWord,hw]
  have hkn:=(fQ (h k hk).1).1
  unfold known at hkn
  have hn0:p[k].1.name≠0:=by rw[h2];exact hz _ ha
  simp[hn0]at hkn
  rw[hword]
  exact abj _ hkn.2 hkn.1
 constructor
 ·intro H y hy;rw[<- key y hy];exact H y hy
 ·intro H y hy;rw[key y hy];exact H y hy
structure Stp where
 op:Nat
 x:Nat
 y:Nat
 z:Nat
def bV (s:ByteArray) (k:Nat):Stp:=⟨g s (6+4*k),g s (6+4*k+1),g s (6+4*k+2),g s (6+4*k+3)⟩
def fI (s:ByteArray):Nat:=(s.size - 6) / 4
def jN (s:ByteArray) (n:Nat):List Stp:=(List.range n).map (bV s)
def steps (s:ByteArray):List Stp:=jN s (fI s)
theorem bU (s:ByteArray) (n:Nat):(jN s n).length=n:=by simp[jN]
theorem wY (s:ByteArray) (n:Nat):jN s (n+1)=jN s n++[bV s n]:=by simp[jN,List.range_succ]
theorem jI (s:ByteArray) (k:Nat) (h:k < (steps s).length):(steps s)[k]=bV s k:=by simp[steps,jN]
def Small (t:Stp):Prop:=t.op < 256/\t.x < 256/\t.y < 256/\t.z < 256
theorem kN (s:ByteArray) (k:Nat):Small (bV s k):=⟨rW s _,rW s _,rW s _,rW s _⟩
theorem tq (s:ByteArray):∀ t∈steps s,Small t:=by
 intro t ht
 simp[steps,jN]at ht
 obtain⟨k,_,rfl⟩:=ht
 exact kN s k
def aW (s:ByteArray):Bool :=
 decide (6<=s.size) && (decide (g s 0=82) && decide (g s 1=85)) && decide (1<=g s 2) && decide (g s 2<=128) && decide (g s 3<=32) && decide (g s 5*256+g s 4<=2000) && decide (s.size=6+4*(g s 5*256+g s 4))
def aI (l:List Stp) (r:Nat):Nat->Int
 | 0=>-1
 | k+1=>match l[k]? with
  | some t=>if t.op<=5/\t.x=r then (k:Int) else aI l r k
  | none=>aI l r k
def readsOf (t:Stp):List Nat:=(if 2<=t.op/\t.op<=5 then [t.y] else [])++(if 2<=t.op/\t.op<=4 then [t.z] else [])++(if 6<=t.op then [t.x] else [])
def eF (t:Stp) (regs ins:Nat):Bool :=
 if 7 < t.op\/regs<=t.x then false
 else if t.op=0/\ins<=t.y then false
 else if t.op=6/\t.y≠0 then false
 else if t.op=7 then decide (t.y < 3) && decide (t.z < 16)
 else decide (t.z=0) || (decide (2<=t.op) && decide (t.op<=4))
def dI (l:List Stp) (k:Nat) (t:Stp) (regs ins:Nat):Bool:=eF t regs ins && (readsOf t).all fun r=>decide (r < regs) && decide (0<=aI l r k)
theorem om (l:List Stp) (r:Nat):∀ k,aI l r k < k:=by
 intro k
 induction k with
 | zero=>simp[aI]
 | succ k ih =>
  simp only[aI]
  split
  ·split
   ·omega
   ·omega
  ·omega
theorem vH (l:List Stp) (r:Nat):∀ k,-1<=aI l r k:=by
 intro k
 induction k with
 | zero=>simp[aI]
 | succ k ih =>
  simp only[aI]
  split
  ·split<;>omega
  ·omega
theorem oZ {l:List Stp} {r k:Nat} (hk:k < l.length) (h:l[k].op<=5/\l[k].x=r):aI l r (k+1)=(k:Int):=by simp[aI,hk,h]
theorem fZ {l:List Stp} {r k:Nat} (hk:k < l.length) (h:¬ (l[k].op<=5/\l[k].x=r)):aI l r (k+1)=aI l r k:=by
 simp only[aI,List.getElem?_eq_getElem hk]
 rw[if_neg h]
theorem sU (t:Stp):(readsOf t).length<=3:=by
 unfold readsOf;repeat' split
 all_goals simp
def lU (s:ByteArray):Nat × Nat :=
 if aW s=false then (8,0)
 else match (List.range (fI s)).find? fun k=>!dI (steps s) k (bV s k) (g s 2) (g s 3) with
  | some k=>(8,1+k)
  | none=>(0,0)
theorem xq {s:ByteArray} (h:aW s=false):lU s=(8,0):=by simp[lU,h]
theorem Tg {s:ByteArray} {k:Nat} (h:aW s=true) (hk:k < fI s) (hb:dI (steps s) k (bV s k) (g s 2) (g s 3)=false) (ha:∀ j,j < k->dI (steps s) j (bV s j) (g s 2) (g s 3)=true):lU s=(8,1+k):=by
 have:(List.range (fI s)).find? (fun k=>!dI (steps s) k (bV s k) (g s 2) (g s 3))=some k:=by
  rw[List.find?_range_eq_some]
  exact⟨by simp[hb],by simpa using hk,fun j hj=>by simp[ha j hj]⟩
 simp[lU,h,this]
theorem KM {s:ByteArray} (h:aW s=true) (ha:∀ j,j < fI s->dI (steps s) j (bV s j) (g s 2) (g s 3)=true):lU s=(0,0):=by
 have:(List.range (fI s)).find? (fun k=>!dI (steps s) k (bV s k) (g s 2) (g s 3))=none:=by
  rw[List.find?_eq_none]
  intro j hj
  simp[ha j (by simpa using hj)]
 simp[lU,h,this]
theorem kD {s:ByteArray} (h:aW s=true):6<=s.size/\fI s=g s 5*256+g s 4/\fI s<=2000/\s.size=6+4*fI s/\1<=g s 2/\g s 2<=128/\g s 3<=32:=by
 simp only[aW,Bool.and_eq_true,decide_eq_true_eq]at h
 unfold fI
 omega
def rz (op:Nat):Bool:=decide (op=2) || decide (op=3) || decide (op=4)
def ry (op:Nat):Bool:=decide (op=5) || rz op
def bH (t:Stp) (ins:Nat):Bool :=
 if t.op=0 then decide (t.y < ins) && decide (t.z=0)
 else if t.op=1\/t.op=5 then decide (t.z=0)
 else if t.op=2\/t.op=3\/t.op=4 then true
 else if t.op=6 then decide (t.y=0) && decide (t.z=0)
 else if t.op=7 then decide (t.y < 3) && decide (t.z < 16)
 else false
def Bv (M:Nat->Bool) (t:Stp):Bool:=(decide (t.op<=5) || M t.x) && (!(ry t.op) || M t.y) && (!(rz t.op) || M t.z)
def BQ (M:Nat->Bool) (t:Stp) (regs ins:Nat):Bool:=bH t ins && decide (t.x < regs) && Bv M t
def Set (l:List Stp) (k:Nat):Nat->Bool:=fun r=>decide (0<=aI l r k)
theorem zT (l:List Stp):Set l 0=fun _=>false:=by funext r;simp[Set,aI]
theorem Dz {l:List Stp} {k:Nat} (hk:k < l.length) (h:l[k].op<=5):Set l (k+1)=fun r=>if r=l[k].x then true else Set l k r:=by
 funext r
 unfold Set
 by_cases e:r=l[k].x
 ·subst e;rw[oZ hk ⟨h,rfl⟩,if_pos rfl];simp
 ·rw[fZ hk (fun h2=>e h2.2.symm),if_neg e]
theorem IZ {l:List Stp} {k:Nat} (hk:k < l.length) (h:¬ l[k].op<=5):Set l (k+1)=Set l k:=by
 funext r
 unfold Set
 rw[fZ hk (fun h2=>h h2.1)]
theorem vB (t:Stp) (regs ins:Nat):eF t regs ins=(bH t ins && decide (t.x < regs)):=by
 unfold eF bH
 rcases t with ⟨op,x,y,z⟩
 by_cases hx:regs<=x
 ·simp[hx]
 ·have hx':x < regs:=by omega
  simp only[hx,hx',or_false,decide_true,Bool.and_true]
  by_cases h7:7 < op
  ·simp[h7,show ¬ op=0 by omega,show ¬ op=1 by omega,show ¬ op=2 by omega,show ¬ op=3 by omega,show ¬ op=4 by omega,show ¬ op=5 by omega,show ¬ op=6 by omega,show ¬ op=7 by omega]
  ·have:op=0\/op=1\/op=2\/op=3\/op=4\/op=5\/op=6\/op=7:=by omega
   rcases this with rfl | rfl | rfl | rfl | rfl | rfl | rfl | rfl<;>simp
   ·by_cases hy:ins<=y
    ·simp[hy,show ¬ y < ins by omega]
    ·simp[hy,show y < ins by omega]
theorem Oe (l:List Stp) (k:Nat) (t:Stp) (regs ins:Nat) (H:∀ r,Set l k r=true->r < regs):dI l k t regs ins=BQ (Set l k) t regs ins:=by
 unfold dI BQ
 rw[vB]
 cases h:bH t ins && decide (t.x < regs)
 ·rfl
 ·simp only[Bool.true_and]
  have h7:t.op<=7:=by
   refine Nat.le_of_not_lt fun hh=>?_
   simp[bH,show ¬ t.op=0 by omega,show ¬ t.op=1 by omega,show ¬ t.op=2 by omega,show ¬ t.op=3 by omega,show ¬ t.op=4 by omega,show ¬ t.op=5 by omega,show ¬ t.op=6 by omega,show ¬ t.op=7 by omega]at h
  have hm:∀ r,(decide (r < regs) && decide (0<=aI l r k))=Set l k r:=fun r=>by
   have:=H r
   unfold Set at *
   by_cases e:0<=aI l r k
   ·simp[e,this (by simp[e])]
   ·simp[e]
  simp only[hm]
  unfold readsOf Bv ry rz
  have:t.op=0\/t.op=1\/t.op=2\/t.op=3\/t.op=4\/t.op=5\/t.op=6\/t.op=7:=by omega
  rcases this with e | e | e | e | e | e | e | e<;>simp[e]
theorem LY {l:List Stp} {k regs ins:Nat} (hk:k<=l.length) (h:∀ j (hj:j < k),dI l j (l[j]'(by omega)) regs ins=true):∀ r,Set l k r=true->r < regs:=by
 induction k with
 | zero=>intro r hr;simp[zT]at hr
 | succ k ih =>
  intro r hr
  have hkl:k < l.length:=by omega
  by_cases h5:l[k].op<=5
  ·rw[Dz hkl h5]at hr
   by_cases e:r=l[k].x
   ·have:=h k (by omega)
    unfold dI at this
    rw[vB]at this
    simp at this
    omega
   ·simp only[if_neg e]at hr
    exact ih (by omega) (fun j hj=>h j (by omega)) r hr
  ·rw[IZ hkl h5]at hr
   exact ih (by omega) (fun j hj=>h j (by omega)) r hr
def val:List Nat->Nat
 | []=>0
 | d :: l=>d+10000*val l
def gQ:List Int->Int
 | []=>0
 | d :: l=>d+10000*gQ l
def CJ (l:List Nat):Prop:=∀ d∈l,d < 10000
def Top (l:List Nat):Prop:=∀ d,l.getLast?=some d->d≠0
theorem val_append (a b:List Nat):val (a++b)=val a+10000 ^ a.length*val b:=by
 induction a with
 | nil=>simp[val]
 | cons d a ih =>
  simp only[List.cons_append,val,List.length_cons,Nat.pow_succ,ih]
  rw[Nat.mul_add,Nat.mul_comm (10000 ^ a.length) 10000,Nat.mul_assoc];omega
theorem ER {a:List Nat} (h:CJ a):val a < 10000 ^ a.length:=by
 induction a with
 | nil=>simp[val]
 | cons d a ih =>
  have h1:=ih (fun x hx=>h x (List.mem_cons_of_mem _ hx))
  have h2:=h d List.mem_cons_self
  simp only[val,List.length_cons,Nat.pow_succ]
  omega
theorem zQ {a:List Nat} (ht:Top a) (hn:a≠[]):10000 ^ (a.length - 1)<=val a:=by
 obtain⟨b,d,rfl⟩:∃ b d,a=b++[d]:=⟨a.dropLast,a.getLast hn,(List.dropLast_concat_getLast hn).symm⟩
 have hd:d≠0:=ht d (by simp)
 rw[val_append]
 simp only[List.length_append,List.length_cons,List.length_nil,Nat.zero_add,Nat.add_sub_cancel,val,Nat.mul_zero,Nat.add_zero]
 have:10000 ^ b.length*1<=10000 ^ b.length*d:=Nat.mul_le_mul_left _ (by omega)
 omega
theorem zh {a b:List Nat} (ha:CJ a) (hb:Top b) (h:a.length < b.length):val a < val b:=by
 have h1:=ER ha
 have h2:=zQ hb (by intro e;subst e;simp at h)
 have h3:10000 ^ a.length<=10000 ^ (b.length - 1):=Nat.pow_le_pow_right (by omega) (by omega)
 omega
theorem Te {a b t:List Nat} {x y:Nat} (ha:CJ a) (hl:a.length=b.length) (hxy:x < y):val (a++x :: t) < val (b++y :: t):=by
 rw[val_append,val_append,<- hl]
 have h1:=ER ha
 simp only[val]
 have h2:10000 ^ a.length*(x+10000*val t+1)<=10000 ^ a.length*(y+10000*val t):=Nat.mul_le_mul_left _ (by omega)
 rw[Nat.mul_add]at h2
 omega
theorem ES {l:List Nat}:val (l++[0])=val l:=by rw[val_append];simp[val]
theorem Wj {l:List Nat} (ht:Top l) (h:val l=0):l=[]:=by
 by_cases hn:l=[]
 ·exact hn
 ·have:=zQ ht hn
  have:0 < 10000 ^ (l.length - 1):=Nat.pow_pos (by omega)
  omega
def num (neg:Bool) (l:List Nat):Int:=if neg then -(val l:Int) else (val l:Int)
def Canon (neg:Bool) (l:List Nat):Prop:=CJ l/\Top l/\(l=[]->neg=false)
theorem VA (neg:Bool) (l:List Nat):num (!neg) l=-num neg l:=by cases neg<;>simp[num]
theorem Canon.sign {neg:Bool} {l:List Nat} (h:Canon neg l):(num neg l=0↔l=[])/\(num neg l < 0↔neg=true):=by
 constructor
 ·constructor
  ·intro h0
   refine Wj h.2.1 ?_
   unfold num at h0;cases neg<;>simp at h0<;>omega
  ·intro h0;subst h0;cases neg<;>simp[num,val]
 ·constructor
  ·intro h0;unfold num at h0;cases neg
   ·simp at h0;omega
   ·rfl
  ·intro h0;subst h0
   have hn:l≠[]:=fun e=>by have:=h.2.2 e;cases this
   have h1:=zQ h.2.1 hn
   have h2:0 < 10000 ^ (l.length - 1):=Nat.pow_pos (by omega)
   simp[num];omega
theorem CJ.append {a b:List Nat} (ha:CJ a) (hb:CJ b):CJ (a++b):=fun d hd=>by
 rcases List.mem_append.1 hd with h | h
 ·exact ha d h
 ·exact hb d h
theorem Wi {d:List Int} (h:∀ x∈d,x<=200000000000000000):9999*gQ d<=200000000000000000*((10000:Int) ^ d.length - 1):=by
 induction d with
 | nil=>simp[gQ]
 | cons x d ih =>
  have h1:=ih (fun y hy=>h y (List.mem_cons_of_mem _ hy))
  have h2:=h x List.mem_cons_self
  simp only[gQ,List.length_cons,Int.pow_succ]
  generalize (10000:Int) ^ d.length=P at *
  omega
def xE (d:List Int) (k:Nat) (os:List Nat) (over:Int):Prop :=
 os.length=k/\CJ os/\(val os:Int)+(10000:Int) ^ k*(over+gQ (d.drop k))=gQ d/\-100000000000000<=over/\over<=100000000000000
theorem xE.start (d:List Int):xE d 0 [] 0:=⟨rfl,fun _ h=>by simp at h,by simp[val],by omega,by omega⟩
theorem Ox (d:List Int) (k:Nat):gQ (d.drop k)=d[k]?.getD 0+10000*gQ (d.drop (k+1)):=by
 by_cases h:k < d.length
 ·rw[List.drop_eq_getElem_cons h];simp[gQ,h]
 ·rw[List.drop_of_length_le (by omega),List.drop_of_length_le (by omega)];simp[gQ,show d.length<=k by omega]
theorem xE.step {d:List Int} {k:Nat} {os:List Nat} {over:Int} (h:xE d k os over) (hd:∀ x∈d,-200000000000000000<=x/\x<=200000000000000000) (n:Int) (hn:n=over+d[k]?.getD 0) :
  xE d (k+1) (os++[(n % 10000).toNat]) (n / 10000):=by
 obtain⟨h1,h2,h3,h4,h5⟩:=h
 have hb:-200000000000000000<=d[k]?.getD 0/\d[k]?.getD 0<=200000000000000000:=by
  by_cases hk:k < d.length
  ·simp[hk];exact hd _ (List.getElem_mem hk)
  ·simp[show d.length<=k by omega]
 have hm:((n % 10000).toNat:Int)=n % 10000:=Int.toNat_of_nonneg (Int.emod_nonneg _ (by omega))
 refine⟨by simp[h1],h2.append (fun x hx=>by simp at hx;omega),?_,by omega,by omega⟩
 have e:(val (os++[(n % 10000).toNat]):Int)=(val os:Int)+(10000:Int) ^ k*(n % 10000):=by
  rw[val_append,h1]
  simp only[val,Nat.mul_zero,Nat.add_zero]
  rw[Int.natCast_add,Int.natCast_mul,hm]
  congr 2
 rw[e,Int.pow_succ,Int.mul_assoc,Int.add_assoc,<- Int.mul_add]
 rw[<- h3,Ox d k]
 congr 2
 have:=Int.emod_add_mul_ediv n 10000
 omega
theorem xE.finish {d:List Int} {k:Nat} {os:List Nat} {over:Int} (h:xE d k os over) (hk:d.length<=k) (ho:over<=0) (hd:0<=gQ d):(val os:Int)=gQ d:=by
 obtain⟨h1,h2,h3,h4,h5⟩:=h
 rw[List.drop_of_length_le hk]at h3
 simp only[gQ,Int.add_zero]at h3
 have hv:=ER h2
 rw[h1]at hv
 have hp:(val os:Int) < (10000:Int) ^ k:=by
  have:((10000 ^ k:Nat):Int)=(10000:Int) ^ k:=by simp
  omega
 by_cases h0:over=0
 ·rw[h0]at h3;simpa using h3
 ·exfalso
  have:(10000:Int) ^ k*over<=(10000:Int) ^ k*(-1):=Int.mul_le_mul_of_nonneg_left (by omega) (by have:(0:Int) < (10000:Int) ^ k:=Int.pow_pos (by omega);omega)
  omega
theorem xE.bound {d:List Int} {k:Nat} {os:List Nat} {over:Int} (h:xE d k os over) (hk:d.length<=k) (ho:0 < over) (hd:∀ x∈d,-200000000000000000<=x/\x<=200000000000000000):k<=d.length+3:=by
 obtain⟨h1,h2,h3,h4,h5⟩:=h
 rw[List.drop_of_length_le hk]at h3
 simp only[gQ,Int.add_zero]at h3
 have hl:=Wi (fun x hx=>(hd x hx).2)
 have hp:(10000:Int) ^ k*1<=(10000:Int) ^ k*over:=Int.mul_le_mul_of_nonneg_left (by omega) (by have:(0:Int) < (10000:Int) ^ k:=Int.pow_pos (by omega);omega)
 by_cases hle:k<=d.length+3
 ·exact hle
 ·exfalso
  have hm:(10000:Int) ^ (d.length+4)<=(10000:Int) ^ k:=by
   have:10000 ^ (d.length+4)<=10000 ^ k:=Nat.pow_le_pow_right (by omega) (by omega)
   have e1:((10000 ^ (d.length+4):Nat):Int)=(10000:Int) ^ (d.length+4):=by simp
   have e2:((10000 ^ k:Nat):Int)=(10000:Int) ^ k:=by simp
   omega
  have e4:(10000:Int) ^ (d.length+4)=(10000:Int) ^ d.length*10000000000000000:=by rw[Int.pow_add];rfl
  have hq:(0:Int) < (10000:Int) ^ d.length:=Int.pow_pos (by omega)
  rw[e4]at hm
  generalize (10000:Int) ^ d.length=P at *
  generalize (10000:Int) ^ k=K at *
  generalize K*over=KO at *
  omega
theorem Tc {d:List Int} {k:Nat} (hk:k < d.length) (x:Int):gQ (d.set k x)=gQ d+(10000:Int) ^ k*(x - d[k]):=by
 induction d generalizing k with
 | nil=>simp at hk
 | cons y d ih =>
  cases k with
  | zero=>simp[gQ];omega
  | succ k =>
   have:=ih (k:=k) (by simpa using hk)
   simp only[List.set_cons_succ,gQ,List.getElem_cons_succ,this,Int.pow_succ,Int.mul_add]
   rw[Int.mul_comm ((10000:Int) ^ k) 10000,Int.mul_assoc];omega
theorem Oy (n:Nat):gQ (List.replicate n 0)=0:=by
 induction n with
 | zero=>rfl
 | succ n ih=>simp[List.replicate_succ,gQ,ih]
theorem Ii {l:List Nat} {k:Nat} (h:k < l.length):(val (l.take (k+1)):Int)=(val (l.take k):Int)+(10000:Int) ^ k*(l[k]:Int):=by
 rw[List.take_succ_eq_append_getElem h,val_append]
 have:(l.take k).length=k:=by simp;omega
 rw[this];simp[val]
def MInv (a b:List Nat) (d:List Int) (i j:Nat):Prop :=
 d.length=a.length+b.length/\gQ d=(val (a.take i):Int)*(val b:Int)+(10000:Int) ^ i*((a[i]?.getD 0:Nat):Int)*(val (b.take j):Int) /\
 (∀ k (hk:k < d.length),0<=d[k]/\d[k]<=100000000*((i:Int)+1))/\(∀ k (hk:k < d.length),i+j<=k->d[k]<=100000000*(i:Int))
theorem MInv.start (a b:List Nat):MInv a b (List.replicate (a.length+b.length) 0) 0 0:=by
 refine⟨by simp,?_,fun k hk=>?_,fun k hk _=>?_⟩
 ·rw[Oy];simp[val]
 ·simp
 ·simp
theorem MInv.step {a b:List Nat} {d:List Int} {i j:Nat} (h:MInv a b d i j) (ha:CJ a) (hb:CJ b) (hi:i < a.length) (hj:j < b.length) (hk:i+j < d.length) :
  MInv a b (d.set (i+j) (d[i+j]+(a[i]:Int)*(b[j]:Int))) i (j+1):=by
 obtain⟨h1,h2,h3,h4⟩:=h
 have hda:=ha _ (List.getElem_mem hi)
 have hdb:=hb _ (List.getElem_mem hj)
 have hp0:0<=(a[i]:Int)*(b[j]:Int):=Int.mul_nonneg (by omega) (by omega)
 have hp1:(a[i]:Int)*(b[j]:Int)<=9999*9999:=by
  have:a[i]*b[j]<=9999*9999:=Nat.mul_le_mul (by omega) (by omega)
  have e:((a[i]*b[j]:Nat):Int)=(a[i]:Int)*(b[j]:Int):=by simp
  omega
 refine⟨by simpa using h1,?_,fun k hk'=>?_,fun k hk' hle=>?_⟩
 ·rw[Tc hk,h2,Ii hj]
  have e0:((a[i]?.getD 0:Nat):Int)=(a[i]:Int):=by simp[hi]
  rw[e0]
  have e1:d[i+j]+(a[i]:Int)*(b[j]:Int) - d[i+j]=(a[i]:Int)*(b[j]:Int):=by omega
  rw[e1,Int.mul_add,Int.pow_add,Int.add_assoc]
  congr 2
  simp only[Int.mul_assoc,Int.mul_left_comm]
 ·have hkd:k < d.length:=by simpa using hk'
  rw[List.getElem_set]
  split
  ·have:=(h3 (i+j) hk).1
   have:=h4 (i+j) hk (Nat.le_refl _)
   omega
  ·exact h3 k hkd
 ·have hkd:k < d.length:=by simpa using hk'
  rw[List.getElem_set,if_neg (by omega)]
  exact h4 k hkd (by omega)
theorem MInv.row {a b:List Nat} {d:List Int} {i:Nat} (h:MInv a b d i b.length) (hi:i < a.length):MInv a b d (i+1) 0:=by
 obtain⟨h1,h2,h3,h4⟩:=h
 refine⟨h1,?_,fun k hk=>?_,fun k hk hle=>?_⟩
 ·rw[h2,Ii hi,List.take_length]
  have e0:((a[i]?.getD 0:Nat):Int)=(a[i]:Int):=by simp[hi]
  rw[e0]
  simp[val,Int.add_mul]
 ·have:=h3 k hk;omega
 ·have:=(h3 k hk).2;omega
theorem MInv.done {a b:List Nat} {d:List Int} {i:Nat} (h:MInv a b d i 0) (hi:a.length<=i):gQ d=(val a:Int)*(val b:Int):=by
 rw[h.2.1,List.take_of_length_le hi]
 simp[val]
theorem MInv.bound {a b:List Nat} {d:List Int} {i j:Nat} (h:MInv a b d i j) (hi:i<=1000000001):∀ x∈d,-200000000000000000<=x/\x<=200000000000000000:=by
 intro x hx
 obtain⟨k,hk,rfl⟩:=List.getElem_of_mem hx
 have:=h.2.2.1 k hk
 omega
theorem num_mul (nx ny:Bool) (a b os:List Nat) (h:(val os:Int)=(val a:Int)*(val b:Int)):num (nx != ny) os=num nx a*num ny b:=by
 cases nx<;>cases ny<;>simp[num,h,Int.neg_mul,Int.mul_neg]
def oG (n:Nat):List UInt8:=if 9 < n then [UInt8.ofNat (48+n / 10),UInt8.ofNat (48+n % 10)] else [UInt8.ofNat (48+n % 10)]
def dec (n:Int):ByteArray:=⟨((if n < 0 then [45] else [])++oG n.natAbs).toArray⟩
theorem zH (n:Nat):dec (n:Int)=⟨(oG n).toArray⟩:=by
 unfold dec;rw[if_neg (by omega)];simp
theorem zJ (n:Nat) (h:0 < n):dec (-(n:Int))=⟨(45 :: oG n).toArray⟩:=by
 unfold dec;rw[if_pos (by omega)];simp
theorem zY (n:Int):(dec n).size<=3:=by
 show (((if n < 0 then [45] else [])++oG n.natAbs).toArray).size<=3
 unfold oG
 split<;>split<;>simp
def jd (t:ByteArray):Option Int:=((List.range 199).find? fun (i:Nat)=>decide (t=dec ((i:Int) - 99))).map fun (i:Nat)=>(i:Int) - 99
theorem J5 {t:ByteArray} {j:Nat} (hj:j < 199) (h:t=dec ((j:Int) - 99)) (hb:∀ i:Nat,i < j->t≠dec ((i:Int) - 99)):jd t=some ((j:Int) - 99):=by
 have:(List.range 199).find? (fun (i:Nat)=>decide (t=dec ((i:Int) - 99)))=some j:=by
  rw[List.find?_range_eq_some]
  exact⟨by simp[<- h],by simpa using hj,fun i hi=>by simpa using hb i hi⟩
 simp[jd,this]
theorem J4 {t:ByteArray} (hb:∀ i:Nat,i < 199->t≠dec ((i:Int) - 99)):jd t=none:=by
 have:(List.range 199).find? (fun (i:Nat)=>decide (t=dec ((i:Int) - 99)))=none:=by
  rw[List.find?_eq_none]
  intro i hi
  simpa using hb i (by simpa using hi)
 simp[jd,this]
theorem oU {t:ByteArray} {n:Int} (h:jd t=some n):-99<=n/\n<=99:=by
 unfold jd at h
 obtain⟨i,hi,rfl⟩:=Option.map_eq_some_iff.1 h
 have:=List.mem_of_find?_eq_some hi
 simp at this
 omega
def fq (s:ByteArray):Nat->Option (Nat × List Int)
 | 0=>some (0,[])
 | i+1=>match fq s i with
  | none=>none
  | some (f,l)=>if i=s.size\/g s i=44 then (match jd (s.extract f i) with
    | some n=>some (i+1,l++[n])
    | none=>none) else some (f,l)
def iG (s:ByteArray):Option (List Int):=if s.size=0 then some [] else (fq s (s.size+1)).map fun p=>p.2
theorem JE {s:ByteArray} {i:Nat} (h:fq s i=none):∀ k,i<=k->fq s k=none:=by
 intro k hk
 induction k with
 | zero =>
  have:i=0:=by omega
  subst this;exact h
 | succ k ih =>
  by_cases e:i=k+1
  ·subst e;exact h
  ·simp[fq,ih (by omega)]
theorem xU {s:ByteArray} {i f:Nat} {l:List Int} {n:Int} (h:fq s i=some (f,l)) (hc:i=s.size\/g s i=44) (hn:jd (s.extract f i)=some n):fq s (i+1)=some (i+1,l++[n]):=by
 simp only[fq,h]
 rw[if_pos hc,hn]
theorem MW {s:ByteArray} {i f:Nat} {l:List Int} (h:fq s i=some (f,l)) (hc:i=s.size\/g s i=44) (hn:jd (s.extract f i)=none):fq s (i+1)=none:=by
 simp only[fq,h]
 rw[if_pos hc,hn]
theorem Gd {s:ByteArray} {i f:Nat} {l:List Int} (h:fq s i=some (f,l)) (hc:¬ (i=s.size\/g s i=44)):fq s (i+1)=some (f,l):=by
 simp only[fq,h]
 rw[if_neg hc]
theorem Gg {s:ByteArray} {i f:Nat} {l:List Int} (h0:s.size≠0) (hi:i<=s.size) (h:fq s i=some (f,l)) (hc:i=s.size\/g s i=44) (hn:jd (s.extract f i)=none):iG s=none:=by
 simp[iG,h0,JE (MW h hc hn) (s.size+1) (by omega)]
theorem CY {s:ByteArray} {f:Nat} {l:List Int} (h0:s.size≠0) (h:fq s (s.size+1)=some (f,l)):iG s=some l:=by simp[iG,h0,h]
def kL (x:Int):Int:=if x < 0 then -1 else if x=0 then 0 else 1
def reg (regs:List Int) (r:Nat):Int:=regs[r]?.getD 0
def valOf (t:Stp) (regs ins:List Int):Int :=
 if t.op=0 then ins[t.y]?.getD 0
 else if t.op=1 then (t.y:Int)
 else if t.op=2 then reg regs t.y+reg regs t.z
 else if t.op=3 then reg regs t.y - reg regs t.z
 else if t.op=4 then reg regs t.y*reg regs t.z
 else kL (reg regs t.y)
def Lr (y:Nat):UInt8:=if y=0 then 115 else if y=1 then 112 else 99
def play (B:Nat) (ins:List Int):List Stp->List Int->ByteArray->ByteArray × Nat
 | [],_,s=>(s,0)
 | t :: l,regs,s =>
  if t.op < 6 then (if B<=(valOf t regs ins).natAbs then (⟨#[]⟩,10) else play B ins l (regs.set t.x (valOf t regs ins)) s)
  else if t.op=6 then play B ins l regs (s++⟨#[if 0 < reg regs t.x then 49 else 48]⟩)
  else if reg regs t.x=0 then (s++⟨#[Lr t.y]⟩++dec (t.z:Int),0)
  else play B ins l regs s
theorem GZ {B:Nat} {ins:List Int} {t:Stp} {l:List Stp} {regs:List Int} {s:ByteArray} (h:t.op < 6) (hb:B<=(valOf t regs ins).natAbs):play B ins (t :: l) regs s=(⟨#[]⟩,10):=by simp[play,h,hb]
theorem wJ {B:Nat} {ins:List Int} {t:Stp} {l:List Stp} {regs:List Int} {s:ByteArray} (h:t.op < 6) (hb:¬ B<=(valOf t regs ins).natAbs):play B ins (t :: l) regs s=play B ins l (regs.set t.x (valOf t regs ins)) s:=by simp[play,h,hb]
theorem iH {B:Nat} {ins:List Int} {t:Stp} {l:List Stp} {regs:List Int} {s:ByteArray} (h:t.op=6):play B ins (t :: l) regs s=play B ins l regs (s++⟨#[if 0 < reg regs t.x then 49 else 48]⟩):=by simp[play,h]
theorem sM {B:Nat} {ins:List Int} {t:Stp} {l:List Stp} {regs:List Int} {s:ByteArray} (h:6 < t.op) (h0:reg regs t.x=0):play B ins (t :: l) regs s=(s++⟨#[Lr t.y]⟩++dec (t.z:Int),0):=by
 rw[play,if_neg (by omega),if_neg (by omega),if_pos h0]
theorem wI {B:Nat} {ins:List Int} {t:Stp} {l:List Stp} {regs:List Int} {s:ByteArray} (h:6 < t.op) (h0:reg regs t.x≠0):play B ins (t :: l) regs s=play B ins l regs s:=by
 rw[play,if_neg (by omega),if_neg (by omega),if_neg h0]
def exe (B:Nat) (s inp:ByteArray):ByteArray × Nat :=
 if (lU s).1≠0 then (⟨#[]⟩,(lU s).1)
 else match iG inp with
  | none=>(⟨#[]⟩,9)
  | some ins=>if ins.length≠g s 3 then (⟨#[]⟩,9) else play B ins (steps s) (List.replicate 128 0) ⟨#[]⟩
def lW (l:List Stp) (k:Nat) (nd:List Bool) (r:Nat):List Bool:=if 0<=aI l r k then nd.set (aI l r k).toNat true else nd
def marks (l:List Stp) (k:Nat) (rs:List Nat) (nd:List Bool):List Bool:=rs.foldl (lW l k) nd
def K7 (l:List Stp) (k:Nat) (nd:List Bool):Bool:=nd[k]?.getD false || decide (6<=(l[k]?.getD ⟨0,0,0,0⟩).op)
def dQ (l:List Stp) (k:Nat) (nd:List Bool):List Bool :=
 if K7 l k nd then marks l k (readsOf (l[k]?.getD ⟨0,0,0,0⟩)) (nd.set k true) else nd
def dP (l:List Stp):Nat->List Bool->List Bool
 | 0,nd=>nd
 | k+1,nd=>dP l k (dQ l k nd)
def aV (l:List Stp):List Bool:=dP l l.length (List.replicate l.length false)
theorem Da (l:List Stp) (k:Nat) (nd:List Bool) (r:Nat):(lW l k nd r).length=nd.length:=by unfold lW;split<;>simp
theorem Nk (l:List Stp) (k:Nat) (rs:List Nat) (nd:List Bool):(marks l k rs nd).length=nd.length:=by
 induction rs generalizing nd with
 | nil=>rfl
 | cons r rs ih=>show (marks l k rs (lW l k nd r)).length=_;rw[ih,Da]
theorem qO (l:List Stp) (k:Nat) (nd:List Bool):(dQ l k nd).length=nd.length:=by
 unfold dQ;split
 ·rw[Nk];simp
 ·rfl
theorem En (l:List Stp) (k:Nat) (nd:List Bool):(dP l k nd).length=nd.length:=by
 induction k generalizing nd with
 | zero=>rfl
 | succ k ih=>show (dP l k (dQ l k nd)).length=_;rw[ih,qO]
theorem lX (l:List Stp):(aV l).length=l.length:=by unfold aV;rw[En];simp
theorem qM (l:List Stp) (k:Nat) (rs:List Nat) (nd:List Bool) (j:Nat) (hj:j < rs.length):marks l k (rs.take (j+1)) nd=lW l k (marks l k (rs.take j) nd) rs[j]:=by
 unfold marks
 rw[List.take_succ_eq_append_getElem hj,List.foldl_append]
 rfl
theorem JF {l:List Stp} {k:Nat} {nd:List Bool} (hk:k < l.length) (hn:k < nd.length):K7 l k nd=(nd[k] || decide (6<=l[k].op)):=by simp[K7,hk,hn]
theorem nu {l:List Stp} {k:Nat} {nd:List Bool} (hk:k < l.length) (h:K7 l k nd=true):dQ l k nd=marks l k (readsOf l[k]) (nd.set k true):=by simp[dQ,h,hk]
theorem sI {l:List Stp} {k:Nat} {nd:List Bool} (h:K7 l k nd=false):dQ l k nd=nd:=by simp[dQ,h]
def jO (s:ByteArray) (nd:List Bool):Nat->ByteArray
 | 0=>⟨#[]⟩
 | k+1=>if nd[k]?.getD false then jO s nd k++s.extract (6+4*k) (10+4*k) else jO s nd k
def iT (nd:List Bool):Nat->Nat
 | 0=>0
 | k+1=>if nd[k]?.getD false then iT nd k+1 else iT nd k
theorem Po (nd:List Bool) (k:Nat):iT nd k<=k:=by
 induction k with
 | zero=>simp[iT]
 | succ k ih=>simp only[iT];split<;>omega
theorem I7 {s:ByteArray} {nd:List Bool} {k:Nat} (h:k < nd.length) (hb:nd[k]=true):jO s nd (k+1)=jO s nd k++s.extract (6+4*k) (10+4*k):=by simp[jO,h,hb]
theorem Md {s:ByteArray} {nd:List Bool} {k:Nat} (h:k < nd.length) (hb:nd[k]=false):jO s nd (k+1)=jO s nd k:=by simp[jO,h,hb]
theorem Mv {nd:List Bool} {k:Nat} (h:k < nd.length) (hb:nd[k]=true):iT nd (k+1)=iT nd k+1:=by simp[iT,h,hb]
theorem Pp {nd:List Bool} {k:Nat} (h:k < nd.length) (hb:nd[k]=false):iT nd (k+1)=iT nd k:=by simp[iT,h,hb]
def shr (s:ByteArray):ByteArray :=
 s.extract 0 4++⟨#[UInt8.ofNat (iT (aV (steps s)) (fI s) % 256),UInt8.ofNat (iT (aV (steps s)) (fI s) / 256)]⟩++jO s (aV (steps s)) (fI s)
end Go.Proofs.YtmnfndpbblpjiabGreatDoor.Pu

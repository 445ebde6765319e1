/- Statements as plain data: what they are made into, and what they tell. -/
import Derived.Test.YtmnfndpbblpjiabGreatDoorZx16
namespace Go.Proofs.YtmnfndpbblpjiabGreatDoor.Pu
abbrev eY:Type:=((((Unit ⊕ (Nat × Nat)) ⊕ (Nat × Nat)) ⊕ ((Nat × Nat) ⊕ (Nat × Nat))) ⊕ (((Nat × Nat) ⊕ (Nat × Nat)) ⊕ ((Nat × Nat) ⊕ (Nat × Nat × Nat)))) ⊕ (((((Nat × Nat) ⊕ (Nat × Nat × Nat)) ⊕ (Nat × Nat × Nat)) ⊕ ((Nat × Nat × Nat) ⊕ (Nat × Nat × Nat × Nat))) ⊕ (((Nat × Nat) ⊕ (Nat × Nat)) ⊕ ((Nat × Nat) ⊕ (Nat × Nat × Nat))))
abbrev eY.pt:eY:=.inl (.inl (.inl (.inl (.inl ()))))
abbrev eY.mid (a b:Nat):eY:=.inl (.inl (.inl (.inl (.inr (a,b)))))
abbrev eY.line (a b:Nat):eY:=.inl (.inl (.inl (.inr (a,b))))
abbrev eY.par (p l:Nat):eY:=.inl (.inl (.inr (.inl (p,l))))
abbrev eY.pK (p l:Nat):eY:=.inl (.inl (.inr (.inr (p,l))))
abbrev eY.meet (l m:Nat):eY:=.inl (.inr (.inl (.inl (l,m))))
abbrev eY.foot (p l:Nat):eY:=.inl (.inr (.inl (.inr (p,l))))
abbrev eY.mirror (p l:Nat):eY:=.inl (.inr (.inr (.inl (p,l))))
abbrev eY.dV (a b c:Nat):eY:=.inl (.inr (.inr (.inr (a,b,c))))
abbrev eY.same (a b:Nat):eY:=.inr (.inl (.inl (.inl (.inl (a,b)))))
abbrev eY.col (a b c:Nat):eY:=.inr (.inl (.inl (.inl (.inr (a,b,c)))))
abbrev eY.Iy (a b c:Nat):eY:=.inr (.inl (.inl (.inr (a,b,c))))
abbrev eY.Iw (a b c:Nat):eY:=.inr (.inl (.inr (.inl (a,b,c))))
abbrev eY.con (a b c d:Nat):eY:=.inr (.inl (.inr (.inr (a,b,c,d))))
abbrev eY.on (p l:Nat):eY:=.inr (.inr (.inl (.inl (p,l))))
abbrev eY.IB (l m:Nat):eY:=.inr (.inr (.inl (.inr (l,m))))
abbrev eY.IC (l m:Nat):eY:=.inr (.inr (.inr (.inl (l,m))))
abbrev eY.cc (l m n:Nat):eY:=.inr (.inr (.inr (.inr (l,m,n))))
theorem eY.el {motive:eY->Prop} (pt:motive .pt) (mid:∀ a b,motive (.mid a b)) (line:∀ a b,motive (.line a b)) (par:∀ p l,motive (.par p l)) (pK:∀ p l,motive (.pK p l)) (meet:∀ l m,motive (.meet l m)) (foot:∀ p l,motive (.foot p l)) (mirror:∀ p l,motive (.mirror p l)) (dV:∀ a b c,motive (.dV a b c)) (same:∀ a b,motive (.same a b)) (col:∀ a b c,motive (.col a b c)) (Iy:∀ a b c,motive (.Iy a b c)) (Iw:∀ a b c,motive (.Iw a b c)) (con:∀ a b c d,motive (.con a b c d)) (on:∀ p l,motive (.on p l)) (IB:∀ l m,motive (.IB l m)) (IC:∀ l m,motive (.IC l m)) (cc:∀ l m n,motive (.cc l m n)):∀ c,motive c
 | .inl (.inl (.inl (.inl (.inl ()))))=>pt
 | .inl (.inl (.inl (.inl (.inr (a,b)))))=>mid a b
 | .inl (.inl (.inl (.inr (a,b))))=>line a b
 | .inl (.inl (.inr (.inl (p,l))))=>par p l
 | .inl (.inl (.inr (.inr (p,l))))=>pK p l
 | .inl (.inr (.inl (.inl (l,m))))=>meet l m
 | .inl (.inr (.inl (.inr (p,l))))=>foot p l
 | .inl (.inr (.inr (.inl (p,l))))=>mirror p l
 | .inl (.inr (.inr (.inr (a,b,c))))=>dV a b c
 | .inr (.inl (.inl (.inl (.inl (a,b)))))=>same a b
 | .inr (.inl (.inl (.inl (.inr (a,b,c)))))=>col a b c
 | .inr (.inl (.inl (.inr (a,b,c))))=>Iy a b c
 | .inr (.inl (.inr (.inl (a,b,c))))=>Iw a b c
 | .inr (.inl (.inr (.inr (a,b,c,d))))=>con a b c d
 | .inr (.inr (.inl (.inl (p,l))))=>on p l
 | .inr (.inr (.inl (.inr (l,m))))=>IB l m
 | .inr (.inr (.inr (.inl (l,m))))=>IC l m
 | .inr (.inr (.inr (.inr (l,m,n))))=>cc l m n
def eT:eY->Nat
 | .inl (.inl (.inl (.inl _)))=>80
 | .inl (.inl (.inl (.inr _)))=>76
 | .inl (.inl (.inr _))=>76
 | .inl (.inr _)=>80
 | .inr _=>63
def hm (k:Nat):Tr:=⟨3*k,3*k+1,3*k+2⟩
def kp3 (s:Nat) (m:Tr) (k:Nat):List Stp:=[⟨4,3*k,m.x,s⟩,⟨4,3*k+1,m.y,s⟩,⟨4,3*k+2,m.w,s⟩]
def Am (s:Nat) (m:Tr) (k:Nat):List Stp:=⟨5,s,m.w,0⟩ :: kp3 s m k
def OP (s:Nat) (m:Tr) (k:Nat):List Stp:=⟨1,s,1,0⟩ :: kp3 s m k
def Eu (s:Nat):List Stp:=[⟨6,s,0,0⟩]
def gY (k i:Nat):eY->List Stp
 | .inl (.inl (.inl (.inl (.inl ()))))=>Ae 48 i++Am 51 (jP 48) k
 | .inl (.inl (.inl (.inl (.inr (a,b)))))=>uI 48 (hm a) (hm b)++Am 56 (gP 48) k
 | .inl (.inl (.inl (.inr (a,b))))=>dM 48 (hm a) (hm b)++(bJ 57 50 50 53 53++(⟨7,59,0,k⟩ :: OP 60 (aA 48) k))
 | .inl (.inl (.inr (.inl (p,l))))=>zx 48 (hm p) (hm l)++OP 55 (lZ 48) k
 | .inl (.inl (.inr (.inr (p,l))))=>tC 48 (hm p) (hm l)++OP 57 (eD 48) k
 | .inl (.inr (.inl (.inl (l,m))))=>dM 48 (hm l) (hm m)++(⟨7,56,1,k⟩ :: Am 57 (aA 48) k)
 | .inl (.inr (.inl (.inr (p,l))))=>jC 48 (hm p) (hm l)++Am 66 (dX 48) k
 | .inl (.inr (.inr (.inl (p,l))))=>Eh 48 (hm p) (hm l)++Am 75 (wE 48) k
 | .inl (.inr (.inr (.inr (a,b,c))))=>zW 48 (hm a) (hm b) (hm c)++(⟨7,108,2,k⟩ :: Am 109 (uT 48) k)
 | .inr (.inl (.inl (.inl (.inl (a,b)))))=>Cz 48 (hm a) (hm b)++(eH 58 57++Eu 61)
 | .inr (.inl (.inl (.inl (.inr (a,b,c)))))=>iK 48 (hm a) (hm b) (hm c)++(eH 62 61++Eu 65)
 | .inr (.inl (.inl (.inr (a,b,c))))=>iK 48 (hm a) (hm b) (hm c)++Eu 61
 | .inr (.inl (.inr (.inl (a,b,c))))=>zV 48 (hm a) (hm b) (hm c)++Eu 85
 | .inr (.inl (.inr (.inr (a,b,c,d))))=>BI 48 (hm a) (hm b) (hm c) (hm d)++(eH 98 97++Eu 101)
 | .inr (.inr (.inl (.inl (p,l))))=>vX 48 (hm p) (hm l)++(eH 53 52++Eu 56)
 | .inr (.inr (.inl (.inr (l,m))))=>bS 48 (hm l).x (hm m).y (hm l).y (hm m).x++(eH 51 50++Eu 54)
 | .inr (.inr (.inr (.inl (l,m))))=>bJ 48 (hm l).x (hm m).x (hm l).y (hm m).y++(eH 51 50++Eu 54)
 | .inr (.inr (.inr (.inr (l,m,n))))=>iK 48 (hm l) (hm m) (hm n)++(eH 62 61++Eu 65)
def iZ:eY->Nat
 | .inl (.inl (.inl (.inl (.inl ()))))=>2
 | .inl (.inl (.inl (.inl (.inr _))))=>0
 | .inl (.inl (.inl (.inr _)))=>0
 | .inl (.inl (.inr _))=>0
 | .inl (.inr _)=>0
 | .inr _=>0
def bZ:List eY->Nat->Nat->List Stp
 | [],_,_=>[]
 | c :: r,k,i=>gY k i c++bZ r (k+1) (i+iZ c)
def t0:T3:=⟨0,0,0⟩
def th (D:List T3) (j:Nat):T3:=D[j]?.getD t0
def inp (ins:List Int) (j:Nat):Int:=ins[j]?.getD 0
def iA (D:List T3) (ins:List Int) (i:Nat):eY->T3
 | .inl (.inl (.inl (.inl (.inl ()))))=>⟨inp ins i,inp ins (i+1),1⟩
 | .inl (.inl (.inl (.inl (.inr (a,b)))))=>su (th D a) (th D b)
 | .inl (.inl (.inl (.inr (a,b))))=>aZ (th D a) (th D b)
 | .inl (.inl (.inr (.inl (p,l))))=>mK (th D p) (th D l)
 | .inl (.inl (.inr (.inr (p,l))))=>qZ (th D p) (th D l)
 | .inl (.inr (.inl (.inl (l,m))))=>aZ (th D l) (th D m)
 | .inl (.inr (.inl (.inr (p,l))))=>gT (th D p) (th D l)
 | .inl (.inr (.inr (.inl (p,l))))=>Cm (th D p) (th D l)
 | .inl (.inr (.inr (.inr (a,b,c))))=>vR (th D a) (th D b) (th D c)
 | .inr _=>t0
def iW (m:T3):eY->Int
 | .inl (.inl (.inl (.inl _)))=>1
 | .inl (.inl (.inl (.inr _)))=>m.x*m.x+m.y*m.y
 | .inl (.inl (.inr _))=>1
 | .inl (.inr (.inl (.inl _)))=>m.w
 | .inl (.inr (.inl (.inr _)))=>1
 | .inl (.inr (.inr (.inl _)))=>1
 | .inl (.inr (.inr (.inr _)))=>m.w
 | .inr _=>1
def uO:eY->UInt8
 | .inl (.inl (.inl (.inl _)))=>99
 | .inl (.inl (.inl (.inr _)))=>115
 | .inl (.inl (.inr _))=>99
 | .inl (.inr (.inl (.inl _)))=>112
 | .inl (.inr (.inl (.inr _)))=>99
 | .inl (.inr (.inr _))=>99
 | .inr _=>99
def aM (m:T3) (f:Int):T3:=⟨m.x*f,m.y*f,m.w*f⟩
def rR (m:T3) (c:eY):Int:=if eT c=80 then kL m.w else 1
def kg (D:List T3):eY->Int
 | .inl _=>0
 | .inr (.inl (.inl (.inl (.inl (a,b)))))=>kW (Ht (th D a) (th D b))
 | .inr (.inl (.inl (.inl (.inr (a,b,c)))))=>kW (eX (th D a) (th D b) (th D c))
 | .inr (.inl (.inl (.inr (a,b,c))))=>eX (th D a) (th D b) (th D c)
 | .inr (.inl (.inr (.inl (a,b,c))))=>Ja (th D a) (th D b) (th D c)
 | .inr (.inl (.inr (.inr (a,b,c,d))))=>kW (Ew (th D a) (th D b) (th D c) (th D d))
 | .inr (.inr (.inl (.inl (p,l))))=>kW (mY (th D p) (th D l))
 | .inr (.inr (.inl (.inr (l,m))))=>kW ((th D l).x*(th D m).y - (th D l).y*(th D m).x)
 | .inr (.inr (.inr (.inl (l,m))))=>kW ((th D l).x*(th D m).x+(th D l).y*(th D m).y)
 | .inr (.inr (.inr (.inr (l,m,n))))=>kW (eX (th D l) (th D m) (th D n))
def rG (ins:List Int):List eY->Nat->Nat->List T3->ByteArray->ByteArray
 | [],_,_,_,s=>s
 | c :: r,k,i,D,s =>
  if eT c=63 then rG ins r (k+1) i (D++[t0]) (s++⟨#[if 0 < kg D c then 49 else 48]⟩)
  else if iW (iA D ins i c) c=0 then s++⟨#[uO c]⟩++dec (k:Int)
  else rG ins r (k+1) (i+iZ c) (D++[aM (iA D ins i c) (rR (iA D ins i c) c)]) s
def rJ (C:List eY) (a:Nat):Prop:=∃ h:a < C.length,eT C[a]=80
def nQ (C:List eY) (a:Nat):Prop:=∃ h:a < C.length,eT C[a]=76
def kX (C:List eY):eY->Prop
 | .inl (.inl (.inl (.inl (.inl ()))))=>True
 | .inl (.inl (.inl (.inl (.inr (a,b)))))=>rJ C a/\rJ C b
 | .inl (.inl (.inl (.inr (a,b))))=>rJ C a/\rJ C b
 | .inl (.inl (.inr (.inl (p,l))))=>rJ C p/\nQ C l
 | .inl (.inl (.inr (.inr (p,l))))=>rJ C p/\nQ C l
 | .inl (.inr (.inl (.inl (l,m))))=>nQ C l/\nQ C m
 | .inl (.inr (.inl (.inr (p,l))))=>rJ C p/\nQ C l
 | .inl (.inr (.inr (.inl (p,l))))=>rJ C p/\nQ C l
 | .inl (.inr (.inr (.inr (a,b,c))))=>rJ C a/\rJ C b/\rJ C c
 | .inr (.inl (.inl (.inl (.inl (a,b)))))=>rJ C a/\rJ C b
 | .inr (.inl (.inl (.inl (.inr (a,b,c)))))=>rJ C a/\rJ C b/\rJ C c
 | .inr (.inl (.inl (.inr (a,b,c))))=>rJ C a/\rJ C b/\rJ C c
 | .inr (.inl (.inr (.inl (a,b,c))))=>rJ C a/\rJ C b/\rJ C c
 | .inr (.inl (.inr (.inr (a,b,c,d))))=>rJ C a/\rJ C b/\rJ C c/\rJ C d
 | .inr (.inr (.inl (.inl (p,l))))=>rJ C p/\nQ C l
 | .inr (.inr (.inl (.inr (l,m))))=>nQ C l/\nQ C m
 | .inr (.inr (.inr (.inl (l,m))))=>nQ C l/\nQ C m
 | .inr (.inr (.inr (.inr (l,m,n))))=>nQ C l/\nQ C m/\nQ C n
def wt (W:List Nat) (j:Nat):Nat:=W[j]?.getD 0
def mX (W:List Nat):eY->Nat
 | .inl (.inl (.inl (.inl (.inl ()))))=>1
 | .inl (.inl (.inl (.inl (.inr (a,b)))))=>wt W a+wt W b
 | .inl (.inl (.inl (.inr (a,b))))=>wt W a+wt W b
 | .inl (.inl (.inr (.inl (p,l))))=>wt W p+wt W l
 | .inl (.inl (.inr (.inr (p,l))))=>wt W p+wt W l
 | .inl (.inr (.inl (.inl (l,m))))=>wt W l+wt W m
 | .inl (.inr (.inl (.inr (p,l))))=>wt W p+wt W l+wt W l
 | .inl (.inr (.inr (.inl (p,l))))=>2*(wt W p+wt W l)
 | .inl (.inr (.inr (.inr (a,b,c))))=>4*(wt W a+wt W b+wt W c)
 | .inr _=>0
def Wf:List eY->List Nat->List eY->Prop
 | _,_,[]=>True
 | C,W,c :: r=>kX C c/\mX W c<=64/\Wf (C++[c]) (W++[mX W c]) r
def aY (r:List eY):Nat:=(r.map iZ).sum
def rH (c d A:Nat) (v:Int):Prop:=c*v.natAbs<=d*A
theorem rH.mul {c d A c' d' A':Nat} {x y:Int} (h:rH c d A x) (k:rH c' d' A' y):rH (c*c') (d*d') (A*A') (x*y):=by
 unfold rH at *
 rw[Int.natAbs_mul]
 have:=Nat.mul_le_mul h k
 grind
theorem rH.add {c d d' A:Nat} {x y:Int} (h:rH c d A x) (k:rH c d' A y):rH c (d+d') A (x+y):=by
 unfold rH at *
 have h1:c*(x+y).natAbs<=c*(x.natAbs+y.natAbs):=Nat.mul_le_mul_left c (Int.natAbs_add_le x y)
 grind
theorem rH.neg {c d A:Nat} {x:Int} (h:rH c d A x):rH c d A (0 - x):=by
 unfold rH at *;rw[Int.zero_sub,Int.natAbs_neg];exact h
theorem rH.sub {c d d' A:Nat} {x y:Int} (h:rH c d A x) (k:rH c d' A y):rH c (d+d') A (x - y):=by
 have:=h.add k.neg
 rwa [show x+(0 - y)=x - y by omega]at this
theorem rH.comm {c d A A':Nat} {x:Int} (h:rH c d (A*A') x):rH c d (A'*A) x:=by rw[Nat.mul_comm];exact h
def B3 (c d A:Nat) (v:T3):Prop:=rH c d A v.x/\rH c d A v.y/\rH c d A v.w
theorem B3.cross {c d A c' d' A':Nat} {u v:T3} (h:B3 c d A u) (k:B3 c' d' A' v):B3 (c*c') (d*d'+d*d') (A*A') (aZ u v) :=
 ⟨(h.2.1.mul k.2.2).sub (h.2.2.mul k.2.1),(h.2.2.mul k.1).sub (h.1.mul k.2.2),(h.1.mul k.2.1).sub (h.2.1.mul k.1)⟩
theorem B3.mid {c d A A':Nat} {u v:T3} (h:B3 c d A u) (k:B3 c d A' v):B3 (c*c) (d*d+d*d) (A*A') (su u v) :=
 ⟨(h.1.mul k.2.2).add (k.1.mul h.2.2).comm,(h.2.1.mul k.2.2).add (k.2.1.mul h.2.2).comm,(h.2.2.mul k.2.2).add (h.2.2.mul k.2.2)⟩
theorem rH.up {c d d' A:Nat} {x:Int} (h:rH c d A x) (k:d<=d'):rH c d' A x:=Nat.le_trans h (Nat.mul_le_mul_right A k)
theorem B3.par {c d A c' d' A':Nat} {p l:T3} (h:B3 c d A p) (k:B3 c' d' A' l):B3 (c'*c) (d'*d+d'*d) (A'*A) (mK p l) :=
 ⟨(k.1.mul h.2.2).up (by omega),(k.2.1.mul h.2.2).up (by omega),((k.1.mul h.1).add (k.2.1.mul h.2.1)).neg⟩
theorem B3.SV {c d A c' d' A':Nat} {p l:T3} (h:B3 c d A p) (k:B3 c' d' A' l):B3 (c'*c) (d'*d+d'*d) (A'*A) (qZ p l):=h.par ⟨k.2.1,k.1.neg,k.2.2⟩
def Bw (w:Nat) (v:T3):Prop:=B3 3 1 (297 ^ w) v
theorem rH.fin {c d A A':Nat} {x:Int} (h:rH c d A x) (h0:0 < c) (hc:3*d<=c) (hA:A<=A'):rH 3 1 A' x:=by
 unfold rH at *
 have h2:3*d*A<=c*A:=Nat.mul_le_mul_right A hc
 have h3:c*(3*x.natAbs)<=c*A:=by grind
 have:=Nat.le_of_mul_le_mul_left h3 h0
 omega
theorem B3.fin {c d A w:Nat} {x:T3} (h:B3 c d A x) (h0:0 < c) (hc:3*d<=c) (hA:A<=297 ^ w):Bw w x:=⟨h.1.fin h0 hc hA,h.2.1.fin h0 hc hA,h.2.2.fin h0 hc hA⟩
theorem VE (a b:Nat):297 ^ a*297 ^ b<=297 ^ (a+b):=by rw[Nat.pow_add];exact Nat.le_refl _
theorem RZ {a b:Nat} (h:a<=b):297 ^ a<=297 ^ b:=Nat.pow_le_pow_right (by omega) h
theorem Bw.cross {a b:Nat} {u v:T3} (h:Bw a u) (k:Bw b v):Bw (a+b) (aZ u v):=(B3.cross h k).fin (by omega) (by omega) (VE a b)
theorem Bw.mid {a b:Nat} {u v:T3} (h:Bw a u) (k:Bw b v):Bw (a+b) (su u v):=(B3.mid h k).fin (by omega) (by omega) (VE a b)
theorem Bw.par {a b:Nat} {u v:T3} (h:Bw a u) (k:Bw b v):Bw (a+b) (mK u v):=(B3.par h k).fin (by omega) (by omega) (by rw[Nat.add_comm];exact VE b a)
theorem Bw.SV {a b:Nat} {u v:T3} (h:Bw a u) (k:Bw b v):Bw (a+b) (qZ u v):=(B3.SV h k).fin (by omega) (by omega) (by rw[Nat.add_comm];exact VE b a)
theorem Bw.foot {a b:Nat} {u v:T3} (h:Bw a u) (k:Bw b v):Bw (a+b+b) (gT u v):=(B3.cross (B3.SV h k) k).fin (by omega) (by omega) (by rw[<- Nat.pow_add,<- Nat.pow_add];exact RZ (by omega))
theorem Bw.mir {a b:Nat} {u v:T3} (h:Bw a u) (k:Bw b v):Bw (2*(a+b)) (Cm u v):=by
 have f:=B3.cross (B3.SV h k) k
 have e:297 ^ b*297 ^ a*297 ^ b*297 ^ a<=297 ^ (2*(a+b)):=by rw[<- Nat.pow_add,<- Nat.pow_add,<- Nat.pow_add];exact RZ (by omega)
 refine⟨(((f.1.add f.1).mul h.2.2).sub (h.1.mul f.2.2).comm).fin (by omega) (by omega) e,(((f.2.1.add f.2.1).mul h.2.2).sub (h.2.1.mul f.2.2).comm).fin (by omega) (by omega) e,(f.2.2.mul h.2.2).fin (by omega) (by omega) e⟩
theorem Bw.cen {a b c:Nat} {u v t:T3} (h:Bw a u) (k:Bw b v) (j:Bw c t):Bw (4*(a+b+c)) (vR u v t):=by
 have h1:=B3.SV (B3.mid h k) (B3.cross h k)
 have h2:=B3.SV (B3.mid h j) (B3.cross h j)
 refine (B3.cross h1 h2).fin (by omega) (by omega) ?_
 rw[<- Nat.pow_add,<- Nat.pow_add,<- Nat.pow_add,<- Nat.pow_add,<- Nat.pow_add];exact RZ (by omega)
theorem rH.sg {A:Nat} {x f:Int} (h:rH 3 1 A x) (hf:f.natAbs<=1):rH 3 1 A (x*f):=by
 unfold rH at *
 rw[Int.natAbs_mul]
 have:=Nat.mul_le_mul_left x.natAbs hf
 omega
theorem Bw.sg {w:Nat} {v:T3} {f:Int} (h:Bw w v) (hf:f.natAbs<=1):Bw w (aM v f):=⟨h.1.sg hf,h.2.1.sg hf,h.2.2.sg hf⟩
theorem Lm (x:Int):(kL x).natAbs<=1:=by rcases jy x with h | h | h<;>rw[h.1]<;>decide
theorem ko (m:T3) (c:eY):(rR m c).natAbs<=1:=by
 unfold rR;split
 ·exact Lm _
 ·decide
theorem Bw.sm {w M:Nat} {v:T3} (h:Bw w v) (hw:w<=64) (hM:297 ^ 64<=M):Sm M v.x/\Sm M v.y/\Sm M v.w:=by
 have q:=RZ hw
 obtain⟨h1,h2,h3⟩:=h
 unfold rH at h1 h2 h3
 unfold Sm
 generalize 297 ^ w=A at *
 generalize 297 ^ 64=A' at *
 omega
section
variable {B:Nat} {ins:List Int} {l:List Stp} {R R':List Int} {Q:List Int->Prop} {M:Nat}
theorem Kl {op x y z:Nat} (v:Int) (hR:R.length=128) (hs:x < 128) (hop:op < 6) (hv:valOf ⟨op,x,y,z⟩ R ins=v) (hb:v.natAbs < B) (k:∀ R',R'.length=128->(∀ r,r≠x->reg R' r=reg R r)->reg R' x=v->Rn B ins l R' Q):Rn B ins (⟨op,x,y,z⟩ :: l) R Q:=by
 have hb':¬ B<=(valOf ⟨op,x,y,z⟩ R ins).natAbs:=by rw[hv];omega
 obtain⟨R2,h2,k2⟩:=k (R.set x v) (by simpa using hR) (fun r hr=>BD hr) (BA (by omega))
 refine⟨R2,h2,fun rest st=>?_⟩
 rw[List.cons_append,wJ hop hb',hv]
 exact k2 rest st
def Kept (k:Nat) (v:T3) (R R':List Int):Prop:=R'.length=128/\(∀ r,r < 48->r≠3*k->r≠3*k+1->r≠3*k+2->reg R' r=reg R r)/\reg R' (3*k)=v.x/\reg R' (3*k+1)=v.y/\reg R' (3*k+2)=v.w
theorem El {x f:Int} {N:Nat} (hx:Sm N x) (hf:f.natAbs<=1) (hb:N < B):(x*f).natAbs < B:=by
 unfold Sm at hx
 rw[Int.natAbs_mul]
 have:=Nat.mul_le_mul_left x.natAbs hf
 omega
theorem Sk {s N k:Nat} {m:Tr} {v:T3} {f:Int} (hR:R.length=128) (hk:k < 16) (hs:48<=s) (hm:m.x >= 48/\m.y >= 48/\m.w >= 48) (hv:Tv s N R m v) (hf:reg R s=f) (hf1:f.natAbs<=1) (hB:N < B) (kk:∀ R',Kept k (aM v f) R R'->Rn B ins l R' Q):Rn B ins (kp3 s m k++l) R Q:=by
 refine Kl (v.x*f) hR (by omega) (by omega) (val_mul hv.1.2.1 hf) (El hv.1.2.2 hf1 hB) ?_
 intro R1 n1 k1 e1
 refine Kl (v.y*f) n1 (by omega) (by omega) (val_mul (by rw[k1 _ (by omega)];exact hv.2.1.2.1) (by rw[k1 _ (by omega)];exact hf)) (El hv.2.1.2.2 hf1 hB) ?_
 intro R2 n2 k2 e2
 refine Kl (v.w*f) n2 (by omega) (by omega) (val_mul (by rw[k2 _ (by omega),k1 _ (by omega)];exact hv.2.2.2.1) (by rw[k2 _ (by omega),k1 _ (by omega)];exact hf)) (El hv.2.2.2.2 hf1 hB) ?_
 intro R3 n3 k3 e3
 exact kk R3 ⟨n3,fun r _ h1 h2 h3=>by rw[k3 _ h3,k2 _ h2,k1 _ h1],by rw[k3 _ (by omega),k2 _ (by omega)];exact e1,by rw[k3 _ (by omega)];exact e2,e3⟩
theorem Kept.lo {k s:Nat} {v:T3} {R1 R2:List Int} (h:Lo s R R1) (hs:48<=s) (kk:Kept k v R1 R2):Kept k v R R2:=⟨kk.1,fun r h1 h2 h3 h4=>by rw[kk.2.1 r h1 h2 h3 h4,h.2 r (by omega)],kk.2.2⟩
theorem yB {s N k:Nat} {m:Tr} {v:T3} (hR:R.length=128) (hk:k < 16) (hs:48<=s) (hs2:s < 128) (hm:m.x >= 48/\m.y >= 48/\m.w >= 48) (h1:1<=N) (hv:Tv s N R m v) (hB:N < B) (kk:∀ R',Kept k (aM v (kL v.w)) R R'->Rn B ins l R' Q):Rn B ins (Am s m k++l) R Q:=by
 refine bQ (kL v.w) N hR hs2 (by omega) (LB hv.2.2.2.1) (.kL _ h1) hB ?_
 intro R1 l1 v1
 have hv1:Tv s N R1 m v:=hv.lo l1 s N (Nat.le_refl _) (Nat.le_refl _)
 refine Sk l1.1 hk hs hm hv1 v1.2.1 (Lm _) hB ?_
 intro R2 k2
 exact kk R2 (Kept.lo l1 hs k2)
theorem Ki {s N k:Nat} {m:Tr} {v:T3} (hR:R.length=128) (hk:k < 16) (hs:48<=s) (hs2:s < 128) (hm:m.x >= 48/\m.y >= 48/\m.w >= 48) (h1:1<=N) (hv:Tv s N R m v) (hB:N < B) (kk:∀ R',Kept k (aM v 1) R R'->Rn B ins l R' Q):Rn B ins (OP s m k++l) R Q:=by
 refine bQ 1 N hR hs2 (by omega) zP (by unfold Sm;simpa using h1) hB ?_
 intro R1 l1 v1
 have hv1:Tv s N R1 m v:=hv.lo l1 s N (Nat.le_refl _) (Nat.le_refl _)
 refine Sk l1.1 hk hs hm hv1 v1.2.1 (by decide) hB ?_
 intro R2 k2
 exact kk R2 (Kept.lo l1 hs k2)
structure Inv (M:Nat) (C:List eY) (W:List Nat) (D:List T3) (R:List Int):Prop where
 len:R.length=128
 dl:D.length=C.length
 wl:W.length=C.length
 w64:∀ j,wt W j<=64
 at_:∀ j (h:j < C.length),eT C[j]≠63->reg R (3*j)=(th D j).x/\reg R (3*j+1)=(th D j).y/\reg R (3*j+2)=(th D j).w/\Bw (wt W j) (th D j)
theorem zO {D:List T3} {v:T3} {j:Nat} (h:j < D.length):th (D++[v]) j=th D j:=by simp[th,List.getElem?_append_left h]
theorem Lu (D:List T3) (v:T3):th (D++[v]) D.length=v:=by simp[th]
theorem ru {W:List Nat} {v j:Nat} (h:j < W.length):wt (W++[v]) j=wt W j:=by simp[wt,List.getElem?_append_left h]
theorem xA (W:List Nat) (v:Nat):wt (W++[v]) W.length=v:=by simp[wt]
theorem Zm {W:List Nat} {j:Nat} (h:W.length<=j):wt W j=0:=by simp[wt,List.getElem?_eq_none h]
theorem Ik {W:List Nat} {v:Nat} (h:∀ j,wt W j<=64) (hv:v<=64):∀ j,wt (W++[v]) j<=64:=by
 intro j
 by_cases h1:j < W.length
 ·rw[ru h1];exact h j
 ·by_cases h2:j=W.length
  ·subst h2;rw[xA];exact hv
  ·rw[Zm (by simp;omega)];omega
variable {C:List eY} {W:List Nat} {D:List T3}
theorem Inv.tv (h:Inv M C W D R) (hM:297 ^ 64<=M) (hk:C.length<=16) {j:Nat} (hj:j < C.length) (hs:eT C[j]≠63):Tv 48 M R (hm j) (th D j):=by
 obtain⟨a1,a2,a3,a4⟩:=h.at_ j hj hs
 obtain⟨b1,b2,b3⟩:=a4.sm (h.w64 j) hM
 have hx:(hm j).x=3*j:=rfl
 have hy:(hm j).y=3*j+1:=rfl
 have hw:(hm j).w=3*j+2:=rfl
 exact⟨⟨by omega,a1,b1⟩,⟨by omega,a2,b2⟩,⟨by omega,a3,b3⟩⟩
theorem Inv.P (h:Inv M C W D R) (hM:297 ^ 64<=M) (hk:C.length<=16) {j:Nat} (hj:rJ C j):Tv 48 M R (hm j) (th D j):=h.tv hM hk hj.1 (by rw[hj.2];omega)
theorem Inv.L (h:Inv M C W D R) (hM:297 ^ 64<=M) (hk:C.length<=16) {j:Nat} (hj:nQ C j):Tv 48 M R (hm j) (th D j):=h.tv hM hk hj.1 (by rw[hj.2];omega)
theorem Inv.bP (h:Inv M C W D R) {j:Nat} (hj:rJ C j):Bw (wt W j) (th D j):=(h.at_ j hj.1 (by rw[hj.2];omega)).2.2.2
theorem Inv.bL (h:Inv M C W D R) {j:Nat} (hj:nQ C j):Bw (wt W j) (th D j):=(h.at_ j hj.1 (by rw[hj.2];omega)).2.2.2
theorem Inv.ask (h:Inv M C W D R) (hk:C.length < 16) {c:eY} (hc:eT c=63) {s:Nat} (hs:48<=s) (l:Lo s R R'):Inv M (C++[c]) (W++[mX W c]) (D++[t0]) R':=by
 have h0:mX W c=0:=by cases c using eY.el<;>simp[eT]at hc<;>rfl
 refine⟨l.1,by simp[h.dl],by simp[h.wl],Ik h.w64 (by omega),fun j hj hn=>?_⟩
 by_cases hl:j < C.length
 ·rw[List.getElem_append_left hl]at hn
  obtain⟨a1,a2,a3,a4⟩:=h.at_ j hl hn
  rw[zO (by rw[h.dl];exact hl),ru (by rw[h.wl];exact hl),l.2 _ (by omega),l.2 _ (by omega),l.2 _ (by omega)]
  exact⟨a1,a2,a3,a4⟩
 ·have:j=C.length:=by simp at hj;omega
  subst this
  simp at hn;exact absurd hc hn
theorem Inv.made (h:Inv M C W D R) (hk:C.length < 16) {c:eY} {v:T3} (kk:Kept C.length v R R') (hw:mX W c<=64) (hb:Bw (mX W c) v):Inv M (C++[c]) (W++[mX W c]) (D++[v]) R':=by
 refine⟨kk.1,by simp[h.dl],by simp[h.wl],Ik h.w64 hw,fun j hj hn=>?_⟩
 by_cases hl:j < C.length
 ·rw[List.getElem_append_left hl]at hn
  obtain⟨a1,a2,a3,a4⟩:=h.at_ j hl hn
  rw[zO (by rw[h.dl];exact hl),ru (by rw[h.wl];exact hl),kk.2.1 _ (by omega) (by omega) (by omega) (by omega),kk.2.1 _ (by omega) (by omega) (by omega) (by omega),kk.2.1 _ (by omega) (by omega) (by omega) (by omega)]
  exact⟨a1,a2,a3,a4⟩
 ·have:j=C.length:=by simp at hj;omega
  subst this
  rw[<- h.dl,Lu,h.dl,<- h.wl,xA,h.wl]
  exact⟨kk.2.2.1,kk.2.2.2.1,kk.2.2.2.2,hb⟩
end
end Go.Proofs.YtmnfndpbblpjiabGreatDoor.Pu

/- What is made of right statements tells their report: each statement, and all. -/
namespace Go.Proofs.YtmnfndpbblpjiabGreatDoor.Pu
section
variable {B:Nat} {ins:List Int} {R:List Int} {M:Nat} {C:List eY} {W:List Nat} {D:List T3}
structure Big (M B:Nat):Prop where
 m1:1<=M
 mM:297 ^ 64<=M
 q1:M<=qd M
 q2:qd M<=qd (qd M)
 q3:qd (qd M)<=qd (qd (qd M))
 q4:qd (qd (qd M))<=qd (qd (qd (qd M)))
 q5:qd (qd (qd (qd M)))<=qd (qd (qd (qd (qd M))))
 b:qd (qd (qd (qd (qd M)))) < B
theorem Big.of (hM:297 ^ 64<=M) (h:qd (qd (qd (qd (qd M)))) < B):Big M B:=by
 have m1:1<=M:=Nat.le_trans (Nat.one_le_pow 64 297 (by omega)) hM
 exact⟨m1,hM,iI m1,iI (aP m1),iI (aP (aP m1)),iI (aP (aP (aP m1))),iI (aP (aP (aP (aP m1)))),h⟩
theorem Lp {x:Int} (h:x≠0):0 < x*kL x:=by rcases jy x with k | k | k<;>rw[k.1]<;>omega
theorem QF {a b i:Nat} (g:Big M B) (h:Inv M C W D R) (hk:C.length < 16) (hok:kX C (.mid a b)) (hw:mX W (.mid a b)<=64) :
  Rn B ins (gY C.length i (.mid a b)) R (Inv M (C++[.mid a b]) (W++[mX W (.mid a b)]) (D++[aM (iA D ins i (.mid a b)) (rR (iA D ins i (.mid a b)) (.mid a b))])):=by
 have⟨q1,q2,q3,q4,q5,q6⟩:=zI g.q1 (zI g.q2 (zI g.q3 (zI g.q4 (zI g.q5 g.b))))
 unfold kX at hok
 refine Sl h.len (by omega) (by omega) (h.P g.mM (by omega) hok.1) (h.P g.mM (by omega) hok.2) ?_
 intro R1 l1 v1
 rw[<- List.append_nil (Am _ _ _)]
 refine yB l1.1 hk (by omega) (by omega) (by decide) (aP g.m1) v1 (by omega) ?_
 intro R2 k2
 exact gB (h.made hk (Kept.lo l1 (by omega) k2) hw ((Bw.mid (h.bP hok.1) (h.bP hok.2)).sg (ko _ _)))
theorem QH {p l i:Nat} (g:Big M B) (h:Inv M C W D R) (hk:C.length < 16) (hok:kX C (.par p l)) (hw:mX W (.par p l)<=64) :
  Rn B ins (gY C.length i (.par p l)) R (Inv M (C++[.par p l]) (W++[mX W (.par p l)]) (D++[aM (iA D ins i (.par p l)) (rR (iA D ins i (.par p l)) (.par p l))])):=by
 have⟨q1,q2,q3,q4,q5,q6⟩:=zI g.q1 (zI g.q2 (zI g.q3 (zI g.q4 (zI g.q5 g.b))))
 unfold kX at hok
 refine Sn h.len (by omega) (by omega) (h.P g.mM (by omega) hok.1) (h.L g.mM (by omega) hok.2) ?_
 intro R1 l1 v1
 rw[<- List.append_nil (OP _ _ _)]
 refine Ki l1.1 hk (by omega) (by omega) (by decide) (aP g.m1) v1 (by omega) ?_
 intro R2 k2
 exact gB (h.made hk (Kept.lo l1 (by omega) k2) hw ((Bw.par (h.bP hok.1) (h.bL hok.2)).sg (ko _ _)))
theorem Ng {p l i:Nat} (g:Big M B) (h:Inv M C W D R) (hk:C.length < 16) (hok:kX C (.pK p l)) (hw:mX W (.pK p l)<=64) :
  Rn B ins (gY C.length i (.pK p l)) R (Inv M (C++[.pK p l]) (W++[mX W (.pK p l)]) (D++[aM (iA D ins i (.pK p l)) (rR (iA D ins i (.pK p l)) (.pK p l))])):=by
 have⟨q1,q2,q3,q4,q5,q6⟩:=zI g.q1 (zI g.q2 (zI g.q3 (zI g.q4 (zI g.q5 g.b))))
 unfold kX at hok
 refine Km h.len (by omega) g.m1 (by omega) (h.P g.mM (by omega) hok.1) (h.L g.mM (by omega) hok.2) ?_
 intro R1 l1 v1
 rw[<- List.append_nil (OP _ _ _)]
 refine Ki l1.1 hk (by omega) (by omega) (by decide) (aP g.m1) v1 (by omega) ?_
 intro R2 k2
 exact gB (h.made hk (Kept.lo l1 (by omega) k2) hw ((Bw.SV (h.bP hok.1) (h.bL hok.2)).sg (ko _ _)))
theorem Nb {p l i:Nat} (g:Big M B) (h:Inv M C W D R) (hk:C.length < 16) (hok:kX C (.foot p l)) (hw:mX W (.foot p l)<=64) :
  Rn B ins (gY C.length i (.foot p l)) R (Inv M (C++[.foot p l]) (W++[mX W (.foot p l)]) (D++[aM (iA D ins i (.foot p l)) (rR (iA D ins i (.foot p l)) (.foot p l))])):=by
 have⟨q1,q2,q3,q4,q5,q6⟩:=zI g.q1 (zI g.q2 (zI g.q3 (zI g.q4 (zI g.q5 g.b))))
 unfold kX at hok
 refine Ll h.len (by omega) g.m1 (by omega) (h.P g.mM (by omega) hok.1) (h.L g.mM (by omega) hok.2) ?_
 intro R1 l1 v1
 rw[<- List.append_nil (Am _ _ _)]
 refine yB l1.1 hk (by omega) (by omega) (by decide) (aP (aP g.m1)) v1 (by omega) ?_
 intro R2 k2
 exact gB (h.made hk (Kept.lo l1 (by omega) k2) hw ((Bw.foot (h.bP hok.1) (h.bL hok.2)).sg (ko _ _)))
theorem Gs {p l i:Nat} (g:Big M B) (h:Inv M C W D R) (hk:C.length < 16) (hok:kX C (.mirror p l)) (hw:mX W (.mirror p l)<=64) :
  Rn B ins (gY C.length i (.mirror p l)) R (Inv M (C++[.mirror p l]) (W++[mX W (.mirror p l)]) (D++[aM (iA D ins i (.mirror p l)) (rR (iA D ins i (.mirror p l)) (.mirror p l))])):=by
 have⟨q1,q2,q3,q4,q5,q6⟩:=zI g.q1 (zI g.q2 (zI g.q3 (zI g.q4 (zI g.q5 g.b))))
 unfold kX at hok
 refine Y5 h.len (by omega) g.m1 (by omega) (h.P g.mM (by omega) hok.1) (h.L g.mM (by omega) hok.2) ?_
 intro R1 l1 v1
 rw[<- List.append_nil (Am _ _ _)]
 refine yB l1.1 hk (by omega) (by omega) (by decide) (aP (aP (aP (aP g.m1)))) v1 (by omega) ?_
 intro R2 k2
 exact gB (h.made hk (Kept.lo l1 (by omega) k2) hw ((Bw.mir (h.bP hok.1) (h.bL hok.2)).sg (ko _ _)))
theorem UY {i:Nat} {x y:Int} (g:Big M B) (h:Inv M C W D R) (hk:C.length < 16) (hx:ins[i]?=some x) (hy:ins[i+1]?=some y) (bx:x.natAbs<=99) (bY:y.natAbs<=99) :
  Rn B ins (gY C.length i .pt) R (Inv M (C++[.pt]) (W++[mX W .pt]) (D++[aM (iA D ins i .pt) (rR (iA D ins i .pt) .pt)])):=by
 have⟨q1,q2,q3,q4,q5,q6⟩:=zI g.q1 (zI g.q2 (zI g.q3 (zI g.q4 (zI g.q5 g.b))))
 have h99:99<=M:=by
  have h1:297 ^ 1<=297 ^ 64:=RZ (by omega)
  have:=g.mM
  generalize 297 ^ 64=A at *
  omega
 have ev:iA D ins i .pt=⟨x,y,1⟩:=by simp[iA,inp,hx,hy]
 rw[ev]
 refine bQ x M h.len (by omega) (by omega) (Td hx) (by unfold Sm;omega) (by omega) ?_
 intro R1 l1 v1
 refine bQ y M l1.1 (by omega) (by omega) (Td hy) (by unfold Sm;omega) (by omega) ?_
 intro R2 l2 v2
 refine bQ 1 M l2.1 (by omega) (by omega) zP (by unfold Sm;simpa using g.m1) (by omega) ?_
 intro R3 l3 v3
 have TF:=l2.trans l3 (by omega)
 have l13:=l1.trans TF (by omega)
 have tv:Tv 51 M R3 (jP 48) ⟨x,y,1⟩:=⟨v1.lo TF 51 M (by omega) (Nat.le_refl _),v2.lo l3 51 M (by omega) (Nat.le_refl _),v3⟩
 show Rn B ins (Am 51 (jP 48) C.length) R3 _
 rw[<- List.append_nil (Am _ _ _)]
 refine yB l3.1 hk (by omega) (by omega) (by decide) g.m1 tv (by omega) ?_
 intro R4 k4
 refine gB (h.made hk (Kept.lo l13 (by omega) k4) (by simp[mX]) ?_)
 have hw:Bw 1 (⟨x,y,1⟩:T3):=⟨show 3*x.natAbs<=1*297 ^ 1 by omega,show 3*y.natAbs<=1*297 ^ 1 by omega,show 3*(1:Int).natAbs<=1*297 ^ 1 by decide⟩
 exact hw.sg (ko _ _)
theorem Nc {a b i:Nat} (g:Big M B) (h:Inv M C W D R) (hk:C.length < 16) (hok:kX C (.line a b)) (hw:mX W (.line a b)<=64) :
  Rn B ins (dM 48 (hm a) (hm b)++bJ 57 50 50 53 53) R (fun R1=>reg R1 59=iW (iA D ins i (.line a b)) (.line a b)/\Rn B ins (OP 60 (aA 48) C.length) R1 (Inv M (C++[.line a b]) (W++[mX W (.line a b)]) (D++[aM (iA D ins i (.line a b)) (rR (iA D ins i (.line a b)) (.line a b))]))):=by
 have⟨q1,q2,q3,q4,q5,q6⟩:=zI g.q1 (zI g.q2 (zI g.q3 (zI g.q4 (zI g.q5 g.b))))
 unfold kX at hok
 refine qp h.len (by omega) (by omega) (h.P g.mM (by omega) hok.1) (h.P g.mM (by omega) hok.2) ?_
 intro R1 l1 v1
 rw[<- List.append_nil (bJ 57 50 50 53 53)]
 refine kK l1.1 (by omega) (by omega) v1.1 v1.1 v1.2.1 v1.2.1 ?_
 intro R2 l2 v2
 refine gB ⟨v2.2.1,?_⟩
 have Zk:=v1.lo l2 60 _ (by omega) (Nat.le_refl _)
 have TD:=l1.trans l2 (by omega)
 rw[<- List.append_nil (OP _ _ _)]
 refine Ki l2.1 hk (by omega) (by omega) (by decide) (aP g.m1) Zk (by omega) ?_
 intro R3 k3
 exact gB (h.made hk (Kept.lo TD (by omega) k3) hw ((Bw.cross (h.bP hok.1) (h.bP hok.2)).sg (ko _ _)))
theorem Nf {l m i:Nat} (g:Big M B) (h:Inv M C W D R) (hk:C.length < 16) (hok:kX C (.meet l m)) (hw:mX W (.meet l m)<=64) :
  Rn B ins (dM 48 (hm l) (hm m)) R (fun R1=>reg R1 56=iW (iA D ins i (.meet l m)) (.meet l m)/\Rn B ins (Am 57 (aA 48) C.length) R1 (Inv M (C++[.meet l m]) (W++[mX W (.meet l m)]) (D++[aM (iA D ins i (.meet l m)) (rR (iA D ins i (.meet l m)) (.meet l m))]))):=by
 have⟨q1,q2,q3,q4,q5,q6⟩:=zI g.q1 (zI g.q2 (zI g.q3 (zI g.q4 (zI g.q5 g.b))))
 unfold kX at hok
 rw[<- List.append_nil (dM 48 (hm l) (hm m))]
 refine qp h.len (by omega) (by omega) (h.L g.mM (by omega) hok.1) (h.L g.mM (by omega) hok.2) ?_
 intro R1 l1 v1
 refine gB ⟨v1.2.2.2.1,?_⟩
 rw[<- List.append_nil (Am _ _ _)]
 refine yB l1.1 hk (by omega) (by omega) (by decide) (aP g.m1) v1 (by omega) ?_
 intro R2 k2
 exact gB (h.made hk (Kept.lo l1 (by omega) k2) hw ((Bw.cross (h.bL hok.1) (h.bL hok.2)).sg (ko _ _)))
theorem Gr {a b c i:Nat} (g:Big M B) (h:Inv M C W D R) (hk:C.length < 16) (hok:kX C (.dV a b c)) (hw:mX W (.dV a b c)<=64) :
  Rn B ins (zW 48 (hm a) (hm b) (hm c)) R (fun R1=>reg R1 108=iW (iA D ins i (.dV a b c)) (.dV a b c)/\Rn B ins (Am 109 (uT 48) C.length) R1 (Inv M (C++[.dV a b c]) (W++[mX W (.dV a b c)]) (D++[aM (iA D ins i (.dV a b c)) (rR (iA D ins i (.dV a b c)) (.dV a b c))]))):=by
 have⟨q1,q2,q3,q4,q5,q6⟩:=zI g.q1 (zI g.q2 (zI g.q3 (zI g.q4 (zI g.q5 g.b))))
 unfold kX at hok
 rw[<- List.append_nil (zW 48 (hm a) (hm b) (hm c))]
 refine Y4 h.len (by omega) g.m1 (by omega) (h.P g.mM (by omega) hok.1) (h.P g.mM (by omega) hok.2.1) (h.P g.mM (by omega) hok.2.2) ?_
 intro R1 l1 v1
 refine gB ⟨v1.2.2.2.1,?_⟩
 rw[<- List.append_nil (Am _ _ _)]
 refine yB l1.1 hk (by omega) (by omega) (by decide) (aP (aP (aP g.m1))) v1 (by omega) ?_
 intro R2 k2
 exact gB (h.made hk (Kept.lo l1 (by omega) k2) hw ((Bw.cen (h.bP hok.1) (h.bP hok.2.1) (h.bP hok.2.2)).sg (ko _ _)))
theorem O8 {a b:Nat} (g:Big M B) (h:Inv M C W D R) (hk:C.length < 16) (hok:kX C (.same a b)) :
  Rn B ins (Cz 48 (hm a) (hm b)++eH 58 57) R (fun R1=>reg R1 61=kg D (.same a b)/\Inv M (C++[.same a b]) (W++[mX W (.same a b)]) (D++[t0]) R1):=by
 have⟨q1,q2,q3,q4,q5,q6⟩:=zI g.q1 (zI g.q2 (zI g.q3 (zI g.q4 (zI g.q5 g.b))))
 unfold kX at hok
 refine Y7 h.len (by omega) g.m1 (by omega) (h.P g.mM (by omega) hok.1) (h.P g.mM (by omega) hok.2) ?_
 intro R1 l1 v1
 rw[<- List.append_nil (eH 58 57)]
 refine sZ l1.1 (by omega) (by omega) (aP (aP g.m1)) v1 ?_
 intro R2 l2 v2
 exact gB ⟨v2.2.1,h.ask hk rfl (by omega) (l1.trans l2 (by omega))⟩
theorem Uc {a b c:Nat} (g:Big M B) (h:Inv M C W D R) (hk:C.length < 16) (hok:kX C (.col a b c)) :
  Rn B ins (iK 48 (hm a) (hm b) (hm c)++eH 62 61) R (fun R1=>reg R1 65=kg D (.col a b c)/\Inv M (C++[.col a b c]) (W++[mX W (.col a b c)]) (D++[t0]) R1):=by
 have⟨q1,q2,q3,q4,q5,q6⟩:=zI g.q1 (zI g.q2 (zI g.q3 (zI g.q4 (zI g.q5 g.b))))
 unfold kX at hok
 refine BH h.len (by omega) g.m1 (by omega) (h.P g.mM (by omega) hok.1) (h.P g.mM (by omega) hok.2.1) (h.P g.mM (by omega) hok.2.2) ?_
 intro R1 l1 v1
 rw[<- List.append_nil (eH 62 61)]
 refine sZ l1.1 (by omega) (by omega) (aP (aP g.m1)) v1 ?_
 intro R2 l2 v2
 exact gB ⟨v2.2.1,h.ask hk rfl (by omega) (l1.trans l2 (by omega))⟩
theorem Ub {a b c:Nat} (g:Big M B) (h:Inv M C W D R) (hk:C.length < 16) (hok:kX C (.Iy a b c)) :
  Rn B ins (iK 48 (hm a) (hm b) (hm c)) R (fun R1=>reg R1 61=kg D (.Iy a b c)/\Inv M (C++[.Iy a b c]) (W++[mX W (.Iy a b c)]) (D++[t0]) R1):=by
 have⟨q1,q2,q3,q4,q5,q6⟩:=zI g.q1 (zI g.q2 (zI g.q3 (zI g.q4 (zI g.q5 g.b))))
 unfold kX at hok
 rw[<- List.append_nil (iK 48 (hm a) (hm b) (hm c))]
 refine BH h.len (by omega) g.m1 (by omega) (h.P g.mM (by omega) hok.1) (h.P g.mM (by omega) hok.2.1) (h.P g.mM (by omega) hok.2.2) ?_
 intro R1 l1 v1
 exact gB ⟨v1.2.1,h.ask hk rfl (by omega) l1⟩
theorem Ua {a b c:Nat} (g:Big M B) (h:Inv M C W D R) (hk:C.length < 16) (hok:kX C (.Iw a b c)) :
  Rn B ins (zV 48 (hm a) (hm b) (hm c)) R (fun R1=>reg R1 85=kg D (.Iw a b c)/\Inv M (C++[.Iw a b c]) (W++[mX W (.Iw a b c)]) (D++[t0]) R1):=by
 have⟨q1,q2,q3,q4,q5,q6⟩:=zI g.q1 (zI g.q2 (zI g.q3 (zI g.q4 (zI g.q5 g.b))))
 unfold kX at hok
 rw[<- List.append_nil (zV 48 (hm a) (hm b) (hm c))]
 refine Y3 h.len (by omega) g.m1 (by omega) (h.P g.mM (by omega) hok.1) (h.P g.mM (by omega) hok.2.1) (h.P g.mM (by omega) hok.2.2) ?_
 intro R1 l1 v1
 exact gB ⟨v1.2.1,h.ask hk rfl (by omega) l1⟩
theorem Ud {a b c d:Nat} (g:Big M B) (h:Inv M C W D R) (hk:C.length < 16) (hok:kX C (.con a b c d)) :
  Rn B ins (BI 48 (hm a) (hm b) (hm c) (hm d)++eH 98 97) R (fun R1=>reg R1 101=kg D (.con a b c d)/\Inv M (C++[.con a b c d]) (W++[mX W (.con a b c d)]) (D++[t0]) R1):=by
 have⟨q1,q2,q3,q4,q5,q6⟩:=zI g.q1 (zI g.q2 (zI g.q3 (zI g.q4 (zI g.q5 g.b))))
 unfold kX at hok
 refine Y6 h.len (by omega) g.m1 (by omega) (h.P g.mM (by omega) hok.1) (h.P g.mM (by omega) hok.2.1) (h.P g.mM (by omega) hok.2.2.1) (h.P g.mM (by omega) hok.2.2.2) ?_
 intro R1 l1 v1
 rw[<- List.append_nil (eH 98 97)]
 refine sZ l1.1 (by omega) (by omega) (aP (aP (aP (aP g.m1)))) v1 ?_
 intro R2 l2 v2
 exact gB ⟨v2.2.1,h.ask hk rfl (by omega) (l1.trans l2 (by omega))⟩
theorem XG {p l:Nat} (g:Big M B) (h:Inv M C W D R) (hk:C.length < 16) (hok:kX C (.on p l)) :
  Rn B ins (vX 48 (hm p) (hm l)++eH 53 52) R (fun R1=>reg R1 56=kg D (.on p l)/\Inv M (C++[.on p l]) (W++[mX W (.on p l)]) (D++[t0]) R1):=by
 have⟨q1,q2,q3,q4,q5,q6⟩:=zI g.q1 (zI g.q2 (zI g.q3 (zI g.q4 (zI g.q5 g.b))))
 unfold kX at hok
 refine Si h.len (by omega) (by omega) (h.P g.mM (by omega) hok.1) (h.L g.mM (by omega) hok.2) ?_
 intro R1 l1 v1
 rw[<- List.append_nil (eH 53 52)]
 refine sZ l1.1 (by omega) (by omega) (aP g.m1) v1 ?_
 intro R2 l2 v2
 exact gB ⟨v2.2.1,h.ask hk rfl (by omega) (l1.trans l2 (by omega))⟩
theorem Uf {l m:Nat} (g:Big M B) (h:Inv M C W D R) (hk:C.length < 16) (hok:kX C (.IB l m)) :
  Rn B ins (bS 48 (hm l).x (hm m).y (hm l).y (hm m).x++eH 51 50) R (fun R1=>reg R1 54=kg D (.IB l m)/\Inv M (C++[.IB l m]) (W++[mX W (.IB l m)]) (D++[t0]) R1):=by
 have⟨q1,q2,q3,q4,q5,q6⟩:=zI g.q1 (zI g.q2 (zI g.q3 (zI g.q4 (zI g.q5 g.b))))
 unfold kX at hok
 refine mg h.len (by omega) (by omega) (h.L g.mM (by omega) hok.1).1 (h.L g.mM (by omega) hok.2).2.1 (h.L g.mM (by omega) hok.1).2.1 (h.L g.mM (by omega) hok.2).1 ?_
 intro R1 l1 v1
 rw[<- List.append_nil (eH 51 50)]
 refine sZ l1.1 (by omega) (by omega) (aP g.m1) v1 ?_
 intro R2 l2 v2
 exact gB ⟨v2.2.1,h.ask hk rfl (by omega) (l1.trans l2 (by omega))⟩
theorem Ug {l m:Nat} (g:Big M B) (h:Inv M C W D R) (hk:C.length < 16) (hok:kX C (.IC l m)) :
  Rn B ins (bJ 48 (hm l).x (hm m).x (hm l).y (hm m).y++eH 51 50) R (fun R1=>reg R1 54=kg D (.IC l m)/\Inv M (C++[.IC l m]) (W++[mX W (.IC l m)]) (D++[t0]) R1):=by
 have⟨q1,q2,q3,q4,q5,q6⟩:=zI g.q1 (zI g.q2 (zI g.q3 (zI g.q4 (zI g.q5 g.b))))
 unfold kX at hok
 refine kK h.len (by omega) (by omega) (h.L g.mM (by omega) hok.1).1 (h.L g.mM (by omega) hok.2).1 (h.L g.mM (by omega) hok.1).2.1 (h.L g.mM (by omega) hok.2).2.1 ?_
 intro R1 l1 v1
 rw[<- List.append_nil (eH 51 50)]
 refine sZ l1.1 (by omega) (by omega) (aP g.m1) v1 ?_
 intro R2 l2 v2
 exact gB ⟨v2.2.1,h.ask hk rfl (by omega) (l1.trans l2 (by omega))⟩
theorem XF {l m n:Nat} (g:Big M B) (h:Inv M C W D R) (hk:C.length < 16) (hok:kX C (.cc l m n)) :
  Rn B ins (iK 48 (hm l) (hm m) (hm n)++eH 62 61) R (fun R1=>reg R1 65=kg D (.cc l m n)/\Inv M (C++[.cc l m n]) (W++[mX W (.cc l m n)]) (D++[t0]) R1):=by
 have⟨q1,q2,q3,q4,q5,q6⟩:=zI g.q1 (zI g.q2 (zI g.q3 (zI g.q4 (zI g.q5 g.b))))
 unfold kX at hok
 refine BH h.len (by omega) g.m1 (by omega) (h.L g.mM (by omega) hok.1) (h.L g.mM (by omega) hok.2.1) (h.L g.mM (by omega) hok.2.2) ?_
 intro R1 l1 v1
 rw[<- List.append_nil (eH 62 61)]
 refine sZ l1.1 (by omega) (by omega) (aP (aP g.m1)) v1 ?_
 intro R2 l2 v2
 exact gB ⟨v2.2.1,h.ask hk rfl (by omega) (l1.trans l2 (by omega))⟩
theorem fJ {c:eY} {r:List eY} {k i:Nat} {s:ByteArray} (h:eT c=63):rG ins (c :: r) k i D s=rG ins r (k+1) i (D++[t0]) (s++⟨#[if 0 < kg D c then 49 else 48]⟩):=by simp[rG,h]
theorem qy {c:eY} {r:List eY} {k i:Nat} {s:ByteArray} (h:eT c≠63) (h0:iW (iA D ins i c) c=0):rG ins (c :: r) k i D s=s++⟨#[uO c]⟩++dec (k:Int):=by simp[rG,h,h0]
theorem dU {c:eY} {r:List eY} {k i:Nat} {s:ByteArray} (h:eT c≠63) (h0:iW (iA D ins i c) c≠0):rG ins (c :: r) k i D s=rG ins r (k+1) (i+iZ c) (D++[aM (iA D ins i c) (rR (iA D ins i c) c)]) s:=by simp[rG,h,h0]
end
theorem RU {B M:Nat} (g:Big M B) (ins:List Int) (hin:∀ x∈ins,x.natAbs<=99) (r:List eY):∀ (C:List eY) (W:List Nat) (D:List T3) (R:List Int) (i:Nat) (s:ByteArray),Inv M C W D R->Wf C W r->C.length+r.length<=16->i+aY r=ins.length->play B ins (bZ r C.length i) R s=(rG ins r C.length i D s,0):=by
 induction r with
 | nil=>intro C W D R i s _ _ _ _;rfl
 | cons c r ih =>
  intro C W D R i s h hwf hl hi
  obtain⟨hok,hw,hwr⟩:=hwf
  have hk:C.length < 16:=by simp at hl;omega
  have hl':(C++[c]).length+r.length<=16:=by simp at *;omega
  have hlen:(C++[c]).length=C.length+1:=by simp
  have hi':i+iZ c+aY r=ins.length:=by simp[aY]at *;omega
  unfold bZ
  cases c using eY.el with
  | pt =>
   have hx:i < ins.length:=by simp[iZ]at hi';omega
   have hy:i+1 < ins.length:=by simp[iZ]at hi';omega
   obtain⟨R',inv,hp⟩:=UY g h hk (List.getElem?_eq_getElem hx) (List.getElem?_eq_getElem hy) (hin _ (List.getElem_mem hx)) (hin _ (List.getElem_mem hy))
   have e:=ih _ _ _ R' _ s inv hwr hl' hi'
   rw[hlen]at e
   rw[hp,dU (by decide) (by simp[iW]),e]
  | mid a b =>
   obtain⟨R',inv,hp⟩:=QF (ins:=ins) (i:=i) g h hk hok hw
   have e:=ih _ _ _ R' _ s inv hwr hl' hi'
   rw[hlen]at e
   rw[hp,dU (by simp[eT]) (by simp[iW]),e]
  | par p l =>
   obtain⟨R',inv,hp⟩:=QH (ins:=ins) (i:=i) g h hk hok hw
   have e:=ih _ _ _ R' _ s inv hwr hl' hi'
   rw[hlen]at e
   rw[hp,dU (by simp[eT]) (by simp[iW]),e]
  | pK p l =>
   obtain⟨R',inv,hp⟩:=Ng (ins:=ins) (i:=i) g h hk hok hw
   have e:=ih _ _ _ R' _ s inv hwr hl' hi'
   rw[hlen]at e
   rw[hp,dU (by simp[eT]) (by simp[iW]),e]
  | foot p l =>
   obtain⟨R',inv,hp⟩:=Nb (ins:=ins) (i:=i) g h hk hok hw
   have e:=ih _ _ _ R' _ s inv hwr hl' hi'
   rw[hlen]at e
   rw[hp,dU (by simp[eT]) (by simp[iW]),e]
  | mirror p l =>
   obtain⟨R',inv,hp⟩:=Gs (ins:=ins) (i:=i) g h hk hok hw
   have e:=ih _ _ _ R' _ s inv hwr hl' hi'
   rw[hlen]at e
   rw[hp,dU (by simp[eT]) (by simp[iW]),e]
  | line a b =>
   obtain⟨R1,⟨e1,R2,inv,hp2⟩,hp1⟩:=Nc (ins:=ins) (i:=i) g h hk hok hw
   unfold gY
   rw[show ∀ (A E F G:List Stp) (t:Stp),A++(E++t :: F)++G=(A++E)++t :: (F++G) from fun _ _ _ _ _=>by simp,hp1]
   by_cases h0:iW (iA D ins i (.line a b)) (.line a b)=0
   ·rw[sM (show 6 < 7 by decide) (by rw[e1];exact h0),qy (by simp[eT]) h0]
    rfl
   ·have e:=ih _ _ _ R2 _ s inv hwr hl' hi'
    rw[hlen]at e
    rw[wI (show 6 < 7 by decide) (by rw[e1];exact h0),hp2,dU (by simp[eT]) h0]
    exact e
  | meet l m =>
   obtain⟨R1,⟨e1,R2,inv,hp2⟩,hp1⟩:=Nf (ins:=ins) (i:=i) g h hk hok hw
   unfold gY
   rw[show ∀ (A F G:List Stp) (t:Stp),A++(t :: F)++G=A++t :: (F++G) from fun _ _ _ _=>by simp,hp1]
   by_cases h0:iW (iA D ins i (.meet l m)) (.meet l m)=0
   ·rw[sM (show 6 < 7 by decide) (by rw[e1];exact h0),qy (by simp[eT]) h0]
    rfl
   ·have e:=ih _ _ _ R2 _ s inv hwr hl' hi'
    rw[hlen]at e
    rw[wI (show 6 < 7 by decide) (by rw[e1];exact h0),hp2,dU (by simp[eT]) h0]
    exact e
  | dV a b c =>
   obtain⟨R1,⟨e1,R2,inv,hp2⟩,hp1⟩:=Gr (ins:=ins) (i:=i) g h hk hok hw
   unfold gY
   rw[show ∀ (A F G:List Stp) (t:Stp),A++(t :: F)++G=A++t :: (F++G) from fun _ _ _ _=>by simp,hp1]
   by_cases h0:iW (iA D ins i (.dV a b c)) (.dV a b c)=0
   ·rw[sM (show 6 < 7 by decide) (by rw[e1];exact h0),qy (by simp[eT]) h0]
    rfl
   ·have e:=ih _ _ _ R2 _ s inv hwr hl' hi'
    rw[hlen]at e
    rw[wI (show 6 < 7 by decide) (by rw[e1];exact h0),hp2,dU (by simp[eT]) h0]
    exact e
  | same a b =>
   obtain⟨R',⟨e1,inv⟩,hp⟩:=O8 (ins:=ins) g h hk hok
   unfold gY
   rw[show ∀ (A E F G:List Stp),A++(E++F)++G=(A++E)++(F++G) from fun _ _ _ _=>by simp,hp]
   show play B ins (⟨6,61,0,0⟩ :: bZ r (C.length+1) i) R' s=_
   have e:=ih _ _ _ R' i (s++⟨#[if 0 < kg D (.same a b) then 49 else 48]⟩) inv hwr hl' hi'
   rw[hlen]at e
   rw[iH rfl,fJ (by simp[eT]),e1]
   exact e
  | col a b c =>
   obtain⟨R',⟨e1,inv⟩,hp⟩:=Uc (ins:=ins) g h hk hok
   unfold gY
   rw[show ∀ (A E F G:List Stp),A++(E++F)++G=(A++E)++(F++G) from fun _ _ _ _=>by simp,hp]
   show play B ins (⟨6,65,0,0⟩ :: bZ r (C.length+1) i) R' s=_
   have e:=ih _ _ _ R' i (s++⟨#[if 0 < kg D (.col a b c) then 49 else 48]⟩) inv hwr hl' hi'
   rw[hlen]at e
   rw[iH rfl,fJ (by simp[eT]),e1]
   exact e
  | Iy a b c =>
   obtain⟨R',⟨e1,inv⟩,hp⟩:=Ub (ins:=ins) g h hk hok
   unfold gY
   rw[List.append_assoc,hp]
   show play B ins (⟨6,61,0,0⟩ :: bZ r (C.length+1) i) R' s=_
   have e:=ih _ _ _ R' i (s++⟨#[if 0 < kg D (.Iy a b c) then 49 else 48]⟩) inv hwr hl' hi'
   rw[hlen]at e
   rw[iH rfl,fJ (by simp[eT]),e1]
   exact e
  | Iw a b c =>
   obtain⟨R',⟨e1,inv⟩,hp⟩:=Ua (ins:=ins) g h hk hok
   unfold gY
   rw[List.append_assoc,hp]
   show play B ins (⟨6,85,0,0⟩ :: bZ r (C.length+1) i) R' s=_
   have e:=ih _ _ _ R' i (s++⟨#[if 0 < kg D (.Iw a b c) then 49 else 48]⟩) inv hwr hl' hi'
   rw[hlen]at e
   rw[iH rfl,fJ (by simp[eT]),e1]
   exact e
  | con a b c d =>
   obtain⟨R',⟨e1,inv⟩,hp⟩:=Ud (ins:=ins) g h hk hok
   unfold gY
   rw[show ∀ (A E F G:List Stp),A++(E++F)++G=(A++E)++(F++G) from fun _ _ _ _=>by simp,hp]
   show play B ins (⟨6,101,0,0⟩ :: bZ r (C.length+1) i) R' s=_
   have e:=ih _ _ _ R' i (s++⟨#[if 0 < kg D (.con a b c d) then 49 else 48]⟩) inv hwr hl' hi'
   rw[hlen]at e
   rw[iH rfl,fJ (by simp[eT]),e1]
   exact e
  | on p l =>
   obtain⟨R',⟨e1,inv⟩,hp⟩:=XG (ins:=ins) g h hk hok
   unfold gY
   rw[show ∀ (A E F G:List Stp),A++(E++F)++G=(A++E)++(F++G) from fun _ _ _ _=>by simp,hp]
   show play B ins (⟨6,56,0,0⟩ :: bZ r (C.length+1) i) R' s=_
   have e:=ih _ _ _ R' i (s++⟨#[if 0 < kg D (.on p l) then 49 else 48]⟩) inv hwr hl' hi'
   rw[hlen]at e
   rw[iH rfl,fJ (by simp[eT]),e1]
   exact e
  | IB l m =>
   obtain⟨R',⟨e1,inv⟩,hp⟩:=Uf (ins:=ins) g h hk hok
   unfold gY
   rw[show ∀ (A E F G:List Stp),A++(E++F)++G=(A++E)++(F++G) from fun _ _ _ _=>by simp,hp]
   show play B ins (⟨6,54,0,0⟩ :: bZ r (C.length+1) i) R' s=_
   have e:=ih _ _ _ R' i (s++⟨#[if 0 < kg D (.IB l m) then 49 else 48]⟩) inv hwr hl' hi'
   rw[hlen]at e
   rw[iH rfl,fJ (by simp[eT]),e1]
   exact e
  | IC l m =>
   obtain⟨R',⟨e1,inv⟩,hp⟩:=Ug (ins:=ins) g h hk hok
   unfold gY
   rw[show ∀ (A E F G:List Stp),A++(E++F)++G=(A++E)++(F++G) from fun _ _ _ _=>by simp,hp]
   show play B ins (⟨6,54,0,0⟩ :: bZ r (C.length+1) i) R' s=_
   have e:=ih _ _ _ R' i (s++⟨#[if 0 < kg D (.IC l m) then 49 else 48]⟩) inv hwr hl' hi'
   rw[hlen]at e
   rw[iH rfl,fJ (by simp[eT]),e1]
   exact e
  | cc l m n =>
   obtain⟨R',⟨e1,inv⟩,hp⟩:=XF (ins:=ins) g h hk hok
   unfold gY
   rw[show ∀ (A E F G:List Stp),A++(E++F)++G=(A++E)++(F++G) from fun _ _ _ _=>by simp,hp]
   show play B ins (⟨6,65,0,0⟩ :: bZ r (C.length+1) i) R' s=_
   have e:=ih _ _ _ R' i (s++⟨#[if 0 < kg D (.cc l m n) then 49 else 48]⟩) inv hwr hl' hi'
   rw[hlen]at e
   rw[iH rfl,fJ (by simp[eT]),e1]
   exact e
theorem MZ {M:Nat}:Inv M [] [] [] (List.replicate 128 0):=⟨by simp,rfl,rfl,fun j=>by simp[wt],fun j hj=>by simp at hj⟩
theorem Ma {B nn m:Nat} (hB:B=10 ^ nn) (hn:nn=8000) (hm:m=160):Big (10 ^ m) B:=by
 refine Big.of (by subst hm;decide) ?_
 subst hB
 have h0:∀ n:Nat,qd (10 ^ n)<=10 ^ (2*n+1):=fun n=>by
  unfold qd
  rw[show 2*n+1=n+n+1 by omega,Nat.pow_succ,Nat.pow_add]
  omega
 have mono:∀ {a b:Nat},a<=b->qd a<=qd b:=fun h=>by unfold qd;exact Nat.mul_le_mul_left 3 (Nat.mul_le_mul h h)
 have h1:=h0 m
 have h2:=Nat.le_trans (mono h1) (h0 _)
 have h3:=Nat.le_trans (mono h2) (h0 _)
 have h4:=Nat.le_trans (mono h3) (h0 _)
 have h5:=Nat.le_trans (mono h4) (h0 _)
 refine Nat.lt_of_le_of_lt h5 (Nat.pow_lt_pow_right (by omega) (by omega))
theorem yX {B nn:Nat} (hB:B=10 ^ nn) (hn:nn=8000) (ins:List Int) (hin:∀ x∈ins,x.natAbs<=99) (r:List eY) (hw:Wf [] [] r) (hl:r.length<=16) (hi:aY r=ins.length) :
  play B ins (bZ r 0 0) (List.replicate 128 0) ⟨#[]⟩=(rG ins r 0 0 [] ⟨#[]⟩,0) :=
 RU (Ma hB hn rfl) ins hin r [] [] [] _ 0 _ MZ hw (by simpa using hl) (by omega)
end Go.Proofs.YtmnfndpbblpjiabGreatDoor.Pu

/- What a report tells stays the same if all points are turned, mirrored, widened, moved. -/
namespace Go.Proofs.YtmnfndpbblpjiabGreatDoor.Pu
structure Sim where
 a:Int
 b:Int
 dx:Int
 dy:Int
 g:Int
 gg:g*g=1
 s:a*a+b*b≠0
theorem Hy (x:Int):0<=x*x:=by
 rcases Int.le_total 0 x with h | h
 ·exact Int.mul_nonneg h h
 ·exact Int.mul_nonneg_of_nonpos_of_nonpos h h
theorem T3.ext' {u v:T3} (h1:u.x=v.x) (h2:u.y=v.y) (h3:u.w=v.w):u=v:=by cases u;cases v;simp_all
section
variable (T:Sim)
end
end Go.Proofs.YtmnfndpbblpjiabGreatDoor.Pu

/- What a report tells stays the same under a likeness: each statement, and all. -/
namespace Go.Proofs.YtmnfndpbblpjiabGreatDoor.Pu
section
variable (T:Sim)
theorem K8 (v k:Int) (h:k≠0):kW (v*k)=kW v:=by
 rcases jQ v with h1 | h1
 ·rcases jQ (v*k) with h2 | h2
  ·rw[h1.1,h2.1]
  ·rcases Int.mul_eq_zero.1 h2.2 with h3 | h3
   ·exact absurd h3 h1.2
   ·exact absurd h3 h
 ·rw[h1.2];simp
theorem bD {a b:Int} (h:a≠0) (k:b≠0):a*b≠0:=fun e=>by
 rcases Int.mul_eq_zero.1 e with e | e
 ·exact h e
 ·exact k e
theorem dY {a:Int} (h:0 < a):a≠0:=by omega
variable {T} {C:List eY} {D D':List T3}
theorem Gi {c:eY} {j:Nat} (h:rJ (C++[c]) j):rJ C j\/(j=C.length/\eT c=80):=by
 obtain⟨hj,hs⟩:=h
 by_cases hl:j < C.length
 ·exact .inl ⟨hl,by rwa [List.getElem_append_left hl]at hs⟩
 ·have:j=C.length:=by simp at hj;omega
  subst this
  exact .inr ⟨rfl,by simpa using hs⟩
theorem Gh {c:eY} {j:Nat} (h:nQ (C++[c]) j):nQ C j\/(j=C.length/\eT c=76):=by
 obtain⟨hj,hs⟩:=h
 by_cases hl:j < C.length
 ·exact .inl ⟨hl,by rwa [List.getElem_append_left hl]at hs⟩
 ·have:j=C.length:=by simp at hj;omega
  subst this
  exact .inr ⟨rfl,by simpa using hs⟩
theorem l8 {v k:Int} (h:0 < k):0 < v*k↔0 < v:=by
 constructor
 ·intro hv
  rcases Int.lt_or_le 0 v with h1 | h1
  ·exact h1
  ·have:=Int.mul_nonpos_of_nonpos_of_nonneg h1 (Int.le_of_lt h);omega
 ·intro hv;exact Int.mul_pos hv h
end
end Go.Proofs.YtmnfndpbblpjiabGreatDoor.Pu

/- What the four sources of the plane's theorems tell. -/
namespace Go.Proofs.YtmnfndpbblpjiabGreatDoor.Pu
section
variable {ins:List Int} {r:List eY} {k i:Nat} {D:List T3} {s:ByteArray}
end
theorem EF {x y:Int}:x*x+y*y=0↔x=0/\y=0:=by
 constructor
 ·intro h
  have h1:=Hy x
  have h2:=Hy y
  exact⟨by rcases Int.mul_eq_zero.1 (show x*x=0 by omega) with h | h<;>exact h,by rcases Int.mul_eq_zero.1 (show y*y=0 by omega) with h | h<;>exact h⟩
 ·rintro⟨rfl,rfl⟩;rfl
end Go.Proofs.YtmnfndpbblpjiabGreatDoor.Pu

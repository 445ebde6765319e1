/- Statements of a right source, as commands; what is made of them. -/
import Derived.Test.YtmnfndpbblpjiabGreatDoorZx20
namespace Go.Proofs.YtmnfndpbblpjiabGreatDoor.Pu
theorem len2 {α:Type} {l:List α} (h:l.length=2):∃ a b,l=[a,b]:=by
 match l,h with
 | [a,b],_=>exact⟨a,b,rfl⟩
theorem aco {α:Type} {l:List α} (h:l.length=3):∃ a b c,l=[a,b,c]:=by
 match l,h with
 | [a,b,c],_=>exact⟨a,b,c,rfl⟩
def ag (x:St) (j:Nat):Nat:=(x.args[j]?.getD 0).toNat
def ix (l:List St) (x:St) (j:Nat):Nat:=(gN l (ag x j)).toNat
def aT (l:List St) (x:St):eY :=
 if x.word == [112,116] then .pt else
 if x.word == [109,105,100] then .mid (ix l x 0) (ix l x 1) else
 if x.word == [108,105,110,101] then .line (ix l x 0) (ix l x 1) else
 if x.word == [112,97,114] then .par (ix l x 0) (ix l x 1) else
 if x.word == [112,101,114,112] then .pK (ix l x 0) (ix l x 1) else
 if x.word == [109,101,101,116] then .meet (ix l x 0) (ix l x 1) else
 if x.word == [102,111,111,116] then .foot (ix l x 0) (ix l x 1) else
 if x.word == [109,105,114,114,111,114] then .mirror (ix l x 0) (ix l x 1) else
 if x.word == [99,101,110,116,114,101] then .dV (ix l x 0) (ix l x 1) (ix l x 2) else
 if x.word == [115,97,109,101] then .same (ix l x 0) (ix l x 1) else
 if x.word == [99,111,108] then .col (ix l x 0) (ix l x 1) (ix l x 2) else
 if x.word == [99,99,119] then .Iy (ix l x 0) (ix l x 1) (ix l x 2) else
 if x.word == [98,116,119] then .Iw (ix l x 0) (ix l x 1) (ix l x 2) else
 if x.word == [99,111,110] then .con (ix l x 0) (ix l x 1) (ix l x 2) (ix l x 3) else
 if x.word == [111,110] then .on (ix l x 0) (ix l x 1) else
 if x.word == [112,108,108] then .IB (ix l x 0) (ix l x 1) else
 if x.word == [112,114,112] then .IC (ix l x 0) (ix l x 1) else
 .cc (ix l x 0) (ix l x 1) (ix l x 2)
def cmds (l:List St):List eY:=l.map (aT l)
theorem bW {w:List UInt8} (h:(fm w).2≠0):w=[112,116]\/w=[109,105,100]\/w=[108,105,110,101]\/w=[112,97,114]\/w=[112,101,114,112]\/w=[109,101,101,116]\/w=[102,111,111,116]\/w=[109,105,114,114,111,114]\/w=[99,101,110,116,114,101]\/w=[115,97,109,101]\/w=[99,111,108]\/w=[99,99,119]\/w=[98,116,119]\/w=[99,111,110]\/w=[111,110]\/w=[112,108,108]\/w=[112,114,112]\/w=[99,99]:=by
 by_cases h0:w=[112,116]
 ·simp[h0]
 by_cases h1:w=[109,105,100]
 ·simp[h1]
 by_cases h2:w=[108,105,110,101]
 ·simp[h2]
 by_cases h3:w=[112,97,114]
 ·simp[h3]
 by_cases h4:w=[112,101,114,112]
 ·simp[h4]
 by_cases h5:w=[109,101,101,116]
 ·simp[h5]
 by_cases h6:w=[102,111,111,116]
 ·simp[h6]
 by_cases h7:w=[109,105,114,114,111,114]
 ·simp[h7]
 by_cases h8:w=[99,101,110,116,114,101]
 ·simp[h8]
 by_cases h9:w=[115,97,109,101]
 ·simp[h9]
 by_cases h10:w=[99,111,108]
 ·simp[h10]
 by_cases h11:w=[99,99,119]
 ·simp[h11]
 by_cases h12:w=[98,116,119]
 ·simp[h12]
 by_cases Jv:w=[99,111,110]
 ·simp[Jv]
 by_cases OM:w=[111,110]
 ·simp[OM]
 by_cases FT:w=[112,108,108]
 ·simp[FT]
 by_cases h16:w=[112,114,112]
 ·simp[h16]
 by_cases Qd:w=[99,99]
 ·simp[Qd]
 exfalso
 apply h
 simp[fm,show (w == [112,116])=false from beq_eq_false_iff_ne.2 h0,show (w == [109,105,100])=false from beq_eq_false_iff_ne.2 h1,show (w == [108,105,110,101])=false from beq_eq_false_iff_ne.2 h2,show (w == [112,97,114])=false from beq_eq_false_iff_ne.2 h3,show (w == [112,101,114,112])=false from beq_eq_false_iff_ne.2 h4,show (w == [109,101,101,116])=false from beq_eq_false_iff_ne.2 h5,show (w == [102,111,111,116])=false from beq_eq_false_iff_ne.2 h6,show (w == [109,105,114,114,111,114])=false from beq_eq_false_iff_ne.2 h7,show (w == [99,101,110,116,114,101])=false from beq_eq_false_iff_ne.2 h8,show (w == [115,97,109,101])=false from beq_eq_false_iff_ne.2 h9,show (w == [99,111,108])=false from beq_eq_false_iff_ne.2 h10,show (w == [99,99,119])=false from beq_eq_false_iff_ne.2 h11,show (w == [98,116,119])=false from beq_eq_false_iff_ne.2 h12,show (w == [99,111,110])=false from beq_eq_false_iff_ne.2 Jv,show (w == [111,110])=false from beq_eq_false_iff_ne.2 OM,show (w == [112,108,108])=false from beq_eq_false_iff_ne.2 FT,show (w == [112,114,112])=false from beq_eq_false_iff_ne.2 h16,show (w == [99,99])=false from beq_eq_false_iff_ne.2 Qd]
def E9 (l:List St) (x:St) (j:Nat):Tr:=if j < x.args.length then hm (ix l x j) else ⟨0,0,0⟩
def uJ (l:List St) (x:St):Th:=⟨E9 l x 0,E9 l x 1,E9 l x 2,E9 l x 3⟩
def Ju (wd:List UInt8):Nat:=if wd == [108,105,110,101] then 3 else 0
def OQ (wd:List UInt8) (t:Th):List Stp:=(Cg wd 48 t).1++[⟨6,48+(Cg wd 48 t).2,0,0⟩]
def OJ (wd:List UInt8) (i k:Nat) (t:Th):List Stp:=(o9 wd 48 i t).1++(UE wd (48+(o9 wd 48 i t).1.length) (o9 wd 48 i t).2.1 k++K9 wd (48+(o9 wd 48 i t).1.length+Ju wd) (o9 wd 48 i t).2.1 k)
def yJ (l:List St) (k i:Nat) (x:St):List Stp:=if x.name=0 then OQ x.word (uJ l x) else OJ x.word i k (uJ l x)
section
variable {p:List (St × Nat)}
theorem UF {l m:List St} {nm:Nat} (h:gN l nm≠-1):gN (l++m) nm=gN l nm:=by
 rcases p9 l nm with ⟨h1,_⟩ | ⟨k,hk,h1,h2,h3⟩
 ·exact absurd h1 h
 ·rw[h1]
  exact rX (by simp;omega) (by rw[List.getElem_append_left hk];exact h2) (fun j hj=>by rw[List.getElem_append_left (by omega)];exact h3 j hj)
theorem zL {p:List (St × Nat)} {j nm:Nat} (h:gN (aL (p.take j)) nm≠-1):gN (aL p) nm=gN (aL (p.take j)) nm:=by
 have:aL p=aL (p.take j)++aL (p.drop j):=by rw[aL,aL,aL,<- List.map_append,List.take_append_drop]
 rw[this,UF h]
theorem DF (h:Ok p) {j:Nat} (hj:j < p.length) {i:Nat} (hi:i < p[j].1.args.length) :
  ∃ k,∃ hk:k < j,ix (aL p) p[j].1 i=k/\gN (aL p) (ag p[j].1 i)=(k:Int)/\pX (p.take j) (ag p[j].1 i)=(p[k]'(by omega)).2/\((fm p[j].1.word).1[i]?.getD 0).toNat=(fm (p[k]'(by omega)).1.word).2:=by
 obtain⟨he,-⟩:=h j hj
 obtain⟨-,hl,hn,hs,-⟩:=fQ he
 have hag:ag p[j].1 i=p[j].1.args[i].toNat:=by simp[ag,hi]
 unfold bX at hn
 rw[Bool.and_eq_true,List.all_eq_true]at hn
 have hg:gN (aL (p.take j)) (ag p[j].1 i)≠-1:=by
  have:=hn.1 p[j].1.args[i] (List.getElem_mem hi)
  rw[hag];simpa using this
 obtain⟨k,hk,h1,h2⟩:=p8 hg
 have hkj:k < j:=by simp at hk;omega
 have hw:=yM hk h1
 have hpk:(p.take j)[k]=p[k]'(by omega):=by simp
 have hgp:=zL hg
 rw[h1]at hgp
 refine⟨k,hkj,by rw[ix,hgp];rfl,hgp,by rw[pX,hw];simp,?_⟩
 unfold eU at hs
 rw[List.all_eq_true]at hs
 have hi2:i < (fm p[j].1.word).1.length:=by omega
 have hz:=hs (p[j].1.args[i],(fm p[j].1.word).1[i]) (by
  rw[List.mem_iff_getElem]
  exact⟨i,by simp;omega,by simp⟩)
 have haw:argWord (p.take j) p[j].1.args[i].toNat=(p[k]'(by omega)).1.word:=by
  rw[<- hag,argWord,hw];simp
 simp only[haw]at hz
 rw[List.getElem?_eq_getElem hi2]
 simp at hz ⊢
 exact hz.symm
theorem EG {l:List St} {x:St} (h:(fm x.word).2≠0):eT (aT l x)=(fm x.word).2:=by
 rcases bW h with e | e | e | e | e | e | e | e | e | e | e | e | e | e | e | e | e | e<;>rw[aT,e]<;>rfl
theorem Ze {j:Nat} (hj:j < p.length):(aL p)[j]'(by rw[qY];exact hj)=p[j].1:=by simp[aL]
theorem tO {j:Nat} (hj:j < p.length):(cmds (aL p))[j]'(by simp[cmds,qY];exact hj)=aT (aL p) p[j].1:=by simp[cmds,aL]
theorem iE:(cmds (aL p)).length=p.length:=by simp[cmds,qY]
theorem Z5 (h:Ok p) {j:Nat} (hj:j < p.length) {i:Nat} (hi:i < p[j].1.args.length) (hs:((fm p[j].1.word).1[i]?.getD 0).toNat=80):rJ ((cmds (aL p)).take j) (ix (aL p) p[j].1 i):=by
 obtain⟨k,hk,e1,-,-,e2⟩:=DF h hj hi
 rw[e1]
 refine⟨by rw[List.length_take,iE];omega,?_⟩
 rw[List.getElem_take,tO (by omega),EG (by rw[<- e2,hs];omega),<- e2,hs]
theorem Z4 (h:Ok p) {j:Nat} (hj:j < p.length) {i:Nat} (hi:i < p[j].1.args.length) (hs:((fm p[j].1.word).1[i]?.getD 0).toNat=76):nQ ((cmds (aL p)).take j) (ix (aL p) p[j].1 i):=by
 obtain⟨k,hk,e1,-,-,e2⟩:=DF h hj hi
 rw[e1]
 refine⟨by rw[List.length_take,iE];omega,?_⟩
 rw[List.getElem_take,tO (by omega),EG (by rw[<- e2,hs];omega),<- e2,hs]
def Ws (p:List (St × Nat)):List Nat:=p.map Prod.snd
theorem Z6 (h:Ok p) {j:Nat} (hj:j < p.length) {i:Nat} (hi:i < p[j].1.args.length):wt ((Ws p).take j) (ix (aL p) p[j].1 i)=pX (p.take j) (p[j].1.args[i].toNat):=by
 obtain⟨k,hk,e1,-,e2,-⟩:=DF h hj hi
 have hag:ag p[j].1 i=p[j].1.args[i].toNat:=by simp[ag,hi]
 rw[<- hag,e1,e2,wt,Ws]
 simp[hk,show k < p.length by omega]
theorem Et (h:Ok p) {j:Nat} (hj:j < p.length):kX ((cmds (aL p)).take j) (aT (aL p) p[j].1)/\mX ((Ws p).take j) (aT (aL p) p[j].1)=p[j].2:=by
 obtain⟨he,hw⟩:=h j hj
 obtain⟨hk,hl,-,-,-⟩:=fQ he
 have P:=fun i hi=>Z5 h hj (i:=i) hi
 have L:=fun i hi=>Z4 h hj (i:=i) hi
 have V:=fun i hi=>Z6 h hj (i:=i) hi
 rw[hw]
 unfold known at hk
 rw[Bool.and_eq_true]at hk
 have h0:(fm p[j].1.word).2≠0:=by simpa using hk.1
 have hq:=hk.2
 unfold xD
 generalize p[j].1=x at *
 obtain⟨nm,wd,ar⟩:=x
 simp only at *
 rcases bW h0 with e | e | e | e | e | e | e | e | e | e | e | e | e | e | e | e | e | e
 ·subst e
  have hl2:ar.length=0:=hl
  have hn:nm≠0:=by simpa [fm] using hq
  exact⟨trivial,by rw[if_neg hn];rfl⟩
 ·subst e
  have hl2:ar.length=2:=hl
  have hn:nm≠0:=by simpa [fm] using hq
  refine⟨⟨P 0 (by omega) rfl,P 1 (by omega) rfl⟩,?_⟩
  rw[if_neg hn]
  obtain⟨a,b,rfl⟩:=len2 hl2
  have v0:=V 0 (by omega)
  have v1:=V 1 (by omega)
  simp only[List.getElem_cons_zero,List.getElem_cons_succ]at v0 v1
  show wt _ _+wt _ _=_
  rw[v0,v1]
  simp[wG,jA]
 ·subst e
  have hl2:ar.length=2:=hl
  have hn:nm≠0:=by simpa [fm] using hq
  refine⟨⟨P 0 (by omega) rfl,P 1 (by omega) rfl⟩,?_⟩
  rw[if_neg hn]
  obtain⟨a,b,rfl⟩:=len2 hl2
  have v0:=V 0 (by omega)
  have v1:=V 1 (by omega)
  simp only[List.getElem_cons_zero,List.getElem_cons_succ]at v0 v1
  show wt _ _+wt _ _=_
  rw[v0,v1]
  simp[wG,jA]
 ·subst e
  have hl2:ar.length=2:=hl
  have hn:nm≠0:=by simpa [fm] using hq
  refine⟨⟨P 0 (by omega) rfl,L 1 (by omega) rfl⟩,?_⟩
  rw[if_neg hn]
  obtain⟨a,b,rfl⟩:=len2 hl2
  have v0:=V 0 (by omega)
  have v1:=V 1 (by omega)
  simp only[List.getElem_cons_zero,List.getElem_cons_succ]at v0 v1
  show wt _ _+wt _ _=_
  rw[v0,v1]
  simp[wG,jA]
 ·subst e
  have hl2:ar.length=2:=hl
  have hn:nm≠0:=by simpa [fm] using hq
  refine⟨⟨P 0 (by omega) rfl,L 1 (by omega) rfl⟩,?_⟩
  rw[if_neg hn]
  obtain⟨a,b,rfl⟩:=len2 hl2
  have v0:=V 0 (by omega)
  have v1:=V 1 (by omega)
  simp only[List.getElem_cons_zero,List.getElem_cons_succ]at v0 v1
  show wt _ _+wt _ _=_
  rw[v0,v1]
  simp[wG,jA]
 ·subst e
  have hl2:ar.length=2:=hl
  have hn:nm≠0:=by simpa [fm] using hq
  refine⟨⟨L 0 (by omega) rfl,L 1 (by omega) rfl⟩,?_⟩
  rw[if_neg hn]
  obtain⟨a,b,rfl⟩:=len2 hl2
  have v0:=V 0 (by omega)
  have v1:=V 1 (by omega)
  simp only[List.getElem_cons_zero,List.getElem_cons_succ]at v0 v1
  show wt _ _+wt _ _=_
  rw[v0,v1]
  simp[wG,jA]
 ·subst e
  have hl2:ar.length=2:=hl
  have hn:nm≠0:=by simpa [fm] using hq
  refine⟨⟨P 0 (by omega) rfl,L 1 (by omega) rfl⟩,?_⟩
  rw[if_neg hn]
  obtain⟨a,b,rfl⟩:=len2 hl2
  have v0:=V 0 (by omega)
  have v1:=V 1 (by omega)
  simp only[List.getElem_cons_zero,List.getElem_cons_succ]at v0 v1
  show wt _ _+wt _ _+wt _ _=_
  rw[v0,v1]
  simp[wG,jA,kC]
 ·subst e
  have hl2:ar.length=2:=hl
  have hn:nm≠0:=by simpa [fm] using hq
  refine⟨⟨P 0 (by omega) rfl,L 1 (by omega) rfl⟩,?_⟩
  rw[if_neg hn]
  obtain⟨a,b,rfl⟩:=len2 hl2
  have v0:=V 0 (by omega)
  have v1:=V 1 (by omega)
  simp only[List.getElem_cons_zero,List.getElem_cons_succ]at v0 v1
  show 2*(wt _ _+wt _ _)=_
  rw[v0,v1]
  simp[wG,jA]
 ·subst e
  have hl2:ar.length=3:=hl
  have hn:nm≠0:=by simpa [fm] using hq
  refine⟨⟨P 0 (by omega) rfl,P 1 (by omega) rfl,P 2 (by omega) rfl⟩,?_⟩
  rw[if_neg hn]
  obtain⟨a,b,c,rfl⟩:=aco hl2
  have v0:=V 0 (by omega)
  have v1:=V 1 (by omega)
  have v2:=V 2 (by omega)
  simp only[List.getElem_cons_zero,List.getElem_cons_succ]at v0 v1 v2
  show 4*(wt _ _+wt _ _+wt _ _)=_
  rw[v0,v1,v2]
  simp[wG,jA];omega
 ·subst e
  have hl2:ar.length=2:=hl
  have hn:nm=0:=by simpa [fm] using hq
  exact⟨⟨P 0 (by omega) rfl,P 1 (by omega) rfl⟩,by rw[if_pos hn];rfl⟩
 ·subst e
  have hl2:ar.length=3:=hl
  have hn:nm=0:=by simpa [fm] using hq
  exact⟨⟨P 0 (by omega) rfl,P 1 (by omega) rfl,P 2 (by omega) rfl⟩,by rw[if_pos hn];rfl⟩
 ·subst e
  have hl2:ar.length=3:=hl
  have hn:nm=0:=by simpa [fm] using hq
  exact⟨⟨P 0 (by omega) rfl,P 1 (by omega) rfl,P 2 (by omega) rfl⟩,by rw[if_pos hn];rfl⟩
 ·subst e
  have hl2:ar.length=3:=hl
  have hn:nm=0:=by simpa [fm] using hq
  exact⟨⟨P 0 (by omega) rfl,P 1 (by omega) rfl,P 2 (by omega) rfl⟩,by rw[if_pos hn];rfl⟩
 ·subst e
  have hl2:ar.length=4:=hl
  have hn:nm=0:=by simpa [fm] using hq
  exact⟨⟨P 0 (by omega) rfl,P 1 (by omega) rfl,P 2 (by omega) rfl,P 3 (by omega) rfl⟩,by rw[if_pos hn];rfl⟩
 ·subst e
  have hl2:ar.length=2:=hl
  have hn:nm=0:=by simpa [fm] using hq
  exact⟨⟨P 0 (by omega) rfl,L 1 (by omega) rfl⟩,by rw[if_pos hn];rfl⟩
 ·subst e
  have hl2:ar.length=2:=hl
  have hn:nm=0:=by simpa [fm] using hq
  exact⟨⟨L 0 (by omega) rfl,L 1 (by omega) rfl⟩,by rw[if_pos hn];rfl⟩
 ·subst e
  have hl2:ar.length=2:=hl
  have hn:nm=0:=by simpa [fm] using hq
  exact⟨⟨L 0 (by omega) rfl,L 1 (by omega) rfl⟩,by rw[if_pos hn];rfl⟩
 ·subst e
  have hl2:ar.length=3:=hl
  have hn:nm=0:=by simpa [fm] using hq
  exact⟨⟨L 0 (by omega) rfl,L 1 (by omega) rfl,L 2 (by omega) rfl⟩,by rw[if_pos hn];rfl⟩
theorem Wq (h:Ok p):∀ d,d<=p.length->Wf ((cmds (aL p)).take (p.length - d)) ((Ws p).take (p.length - d)) ((cmds (aL p)).drop (p.length - d)):=by
 intro d
 induction d with
 | zero=>intro _;rw[Nat.sub_zero,List.drop_of_length_le (by rw[iE];omega)];trivial
 | succ d ih =>
  intro hd
  have hj:p.length - (d+1) < p.length:=by omega
  have hj2:p.length - (d+1) < (cmds (aL p)).length:=by rw[iE];exact hj
  have ih:=ih (by omega)
  rw[show p.length - d=p.length - (d+1)+1 by omega]at ih
  rw[List.drop_eq_getElem_cons hj2]
  obtain⟨h1,h2⟩:=Et h hj
  rw[List.take_succ_eq_append_getElem hj2,List.take_succ_eq_append_getElem (by simpa [Ws] using hj),tO hj]at ih
  rw[tO hj]
  refine⟨h1,by rw[h2];exact h.weight hj,?_⟩
  rw[h2]
  simpa [Ws] using ih
theorem xw (h:Ok p):Wf [] [] (cmds (aL p)):=by
 have:=Wq h p.length (Nat.le_refl _)
 simpa using this
theorem Zd (h:Ok p) {j:Nat} (hj:j < p.length) (k i:Nat):yJ (aL p) k i p[j].1=gY k i (aT (aL p) p[j].1):=by
 obtain⟨he,-⟩:=h j hj
 obtain⟨hk,hl,-,-,-⟩:=fQ he
 unfold known at hk
 rw[Bool.and_eq_true]at hk
 have h0:(fm p[j].1.word).2≠0:=by simpa using hk.1
 have hq:=hk.2
 generalize p[j].1=x at *
 obtain⟨nm,wd,ar⟩:=x
 simp only at *
 have tj:∀ i,i < ar.length->E9 (aL p) ⟨nm,wd,ar⟩ i=hm (ix (aL p) ⟨nm,wd,ar⟩ i):=fun i hi=>by unfold E9;rw[if_pos hi]
 rcases bW h0 with e | e | e | e | e | e | e | e | e | e | e | e | e | e | e | e | e | e
 ·subst e
  have hl2:ar.length=0:=hl
  have hn:nm≠0:=by simpa [fm] using hq
  rw[yJ,if_neg hn]
  unfold OJ uJ
  rfl
 ·subst e
  have hl2:ar.length=2:=hl
  have hn:nm≠0:=by simpa [fm] using hq
  rw[yJ,if_neg hn]
  unfold OJ uJ
  rw[tj 0 (by omega),tj 1 (by omega)]
  rfl
 ·subst e
  have hl2:ar.length=2:=hl
  have hn:nm≠0:=by simpa [fm] using hq
  rw[yJ,if_neg hn]
  unfold OJ uJ
  rw[tj 0 (by omega),tj 1 (by omega)]
  rfl
 ·subst e
  have hl2:ar.length=2:=hl
  have hn:nm≠0:=by simpa [fm] using hq
  rw[yJ,if_neg hn]
  unfold OJ uJ
  rw[tj 0 (by omega),tj 1 (by omega)]
  rfl
 ·subst e
  have hl2:ar.length=2:=hl
  have hn:nm≠0:=by simpa [fm] using hq
  rw[yJ,if_neg hn]
  unfold OJ uJ
  rw[tj 0 (by omega),tj 1 (by omega)]
  rfl
 ·subst e
  have hl2:ar.length=2:=hl
  have hn:nm≠0:=by simpa [fm] using hq
  rw[yJ,if_neg hn]
  unfold OJ uJ
  rw[tj 0 (by omega),tj 1 (by omega)]
  rfl
 ·subst e
  have hl2:ar.length=2:=hl
  have hn:nm≠0:=by simpa [fm] using hq
  rw[yJ,if_neg hn]
  unfold OJ uJ
  rw[tj 0 (by omega),tj 1 (by omega)]
  rfl
 ·subst e
  have hl2:ar.length=2:=hl
  have hn:nm≠0:=by simpa [fm] using hq
  rw[yJ,if_neg hn]
  unfold OJ uJ
  rw[tj 0 (by omega),tj 1 (by omega)]
  rfl
 ·subst e
  have hl2:ar.length=3:=hl
  have hn:nm≠0:=by simpa [fm] using hq
  rw[yJ,if_neg hn]
  unfold OJ uJ
  rw[tj 0 (by omega),tj 1 (by omega),tj 2 (by omega)]
  rfl
 ·subst e
  have hl2:ar.length=2:=hl
  have hn:nm=0:=by simpa [fm] using hq
  rw[yJ,if_pos hn]
  unfold OQ uJ
  rw[tj 0 (by omega),tj 1 (by omega)]
  rfl
 ·subst e
  have hl2:ar.length=3:=hl
  have hn:nm=0:=by simpa [fm] using hq
  rw[yJ,if_pos hn]
  unfold OQ uJ
  rw[tj 0 (by omega),tj 1 (by omega),tj 2 (by omega)]
  rfl
 ·subst e
  have hl2:ar.length=3:=hl
  have hn:nm=0:=by simpa [fm] using hq
  rw[yJ,if_pos hn]
  unfold OQ uJ
  rw[tj 0 (by omega),tj 1 (by omega),tj 2 (by omega)]
  rfl
 ·subst e
  have hl2:ar.length=3:=hl
  have hn:nm=0:=by simpa [fm] using hq
  rw[yJ,if_pos hn]
  unfold OQ uJ
  rw[tj 0 (by omega),tj 1 (by omega),tj 2 (by omega)]
  rfl
 ·subst e
  have hl2:ar.length=4:=hl
  have hn:nm=0:=by simpa [fm] using hq
  rw[yJ,if_pos hn]
  unfold OQ uJ
  rw[tj 0 (by omega),tj 1 (by omega),tj 2 (by omega),tj 3 (by omega)]
  rfl
 ·subst e
  have hl2:ar.length=2:=hl
  have hn:nm=0:=by simpa [fm] using hq
  rw[yJ,if_pos hn]
  unfold OQ uJ
  rw[tj 0 (by omega),tj 1 (by omega)]
  rfl
 ·subst e
  have hl2:ar.length=2:=hl
  have hn:nm=0:=by simpa [fm] using hq
  rw[yJ,if_pos hn]
  unfold OQ uJ
  rw[tj 0 (by omega),tj 1 (by omega)]
  rfl
 ·subst e
  have hl2:ar.length=2:=hl
  have hn:nm=0:=by simpa [fm] using hq
  rw[yJ,if_pos hn]
  unfold OQ uJ
  rw[tj 0 (by omega),tj 1 (by omega)]
  rfl
 ·subst e
  have hl2:ar.length=3:=hl
  have hn:nm=0:=by simpa [fm] using hq
  rw[yJ,if_pos hn]
  unfold OQ uJ
  rw[tj 0 (by omega),tj 1 (by omega),tj 2 (by omega)]
  rfl
theorem UU (h:Ok p) {j:Nat} (hj:j < p.length):iZ (aT (aL p) p[j].1)=if (p[j].1.word == [112,116])=true then 2 else 0:=by
 obtain⟨he,-⟩:=h j hj
 obtain⟨hk,-,-,-,-⟩:=fQ he
 unfold known at hk
 rw[Bool.and_eq_true]at hk
 have h0:(fm p[j].1.word).2≠0:=by simpa using hk.1
 rcases bW h0 with e | e | e | e | e | e | e | e | e | e | e | e | e | e | e | e | e | e<;>rw[aT,e]<;>rfl
end
end Go.Proofs.YtmnfndpbblpjiabGreatDoor.Pu

/- The steps that are made are right ones. -/
namespace Go.Proofs.YtmnfndpbblpjiabGreatDoor.Pu
def jr (n:Nat):(Nat->Bool)->List Stp->Prop
 | _,[]=>True
 | M,t :: l=>Small t/\eF t 128 n=true/\(∀ r∈readsOf t,r < 128/\M r=true)/\jr n (if t.op<=5 then upd t.x true M else M) l
theorem Es {n:Nat}:∀ (l:List Stp) (M:Nat->Bool),jr n M l->YT 128 n M l
 | [],_,_=>trivial
 | _ :: l,_,h=>⟨h.2.1,h.2.2.1,Es l _ h.2.2.2⟩
theorem qo {n:Nat}:∀ (l:List Stp) (M:Nat->Bool),jr n M l->∀ t∈l,Small t
 | [],_,_,_,ht=>by cases ht
 | _ :: l,_,h,u,hu=>by
  rcases List.mem_cons.1 hu with e | hu
  ·subst e;exact h.1
  ·exact qo l _ h.2.2.2 u hu
def Sub (M M':Nat->Bool):Prop:=∀ r,M r=true->M' r=true
theorem Sub.trans {A B C:Nat->Bool} (h:Sub A B) (k:Sub B C):Sub A C:=fun r hr=>k r (h r hr)
def Rs (M:Nat->Bool) (r:Nat):Prop:=r < 128/\M r=true
def Rt (M:Nat->Bool) (t:Tr):Prop:=Rs M t.x/\Rs M t.y/\Rs M t.w
theorem Rs.sub {M M':Nat->Bool} {r:Nat} (h:Rs M r) (k:Sub M M'):Rs M' r:=⟨h.1,k r h.2⟩
theorem Rt.sub {M M':Nat->Bool} {r:Tr} (h:Rt M r) (k:Sub M M'):Rt M' r:=⟨h.1.sub k,h.2.1.sub k,h.2.2.sub k⟩
theorem Wd (M:Nat->Bool) (x:Nat):Sub M (upd x true M):=fun r h=>by unfold upd;split<;>simp[h]
theorem Zi (M:Nat->Bool) (x:Nat):upd x true M x=true:=by simp[upd]
section
variable {n s:Nat} {M:Nat->Bool} {l:List Stp}
theorem yj {op x y z:Nat} (hs:x < 128) (hop:op<=5) (hsm:Small ⟨op,x,y,z⟩) (hp:eF ⟨op,x,y,z⟩ 128 n=true) (hr:∀ r∈readsOf ⟨op,x,y,z⟩,r < 128/\M r=true) (k:∀ M',Sub M M'->Rs M' x->jr n M' l):jr n M (⟨op,x,y,z⟩ :: l):=by
 refine⟨hsm,hp,hr,?_⟩
 rw[if_pos hop]
 exact k _ (Wd M x) ⟨hs,Zi M x⟩
theorem AU {x y z:Nat} (hs:x < 128) (hy:Rs M y) (hz:Rs M z) (k:∀ M',Sub M M'->Rs M' x->jr n M' l):jr n M (⟨2,x,y,z⟩ :: l):=by
 have h1:=hy.1
 have h2:=hz.1
 refine yj hs (by omega) ⟨by show 2 < 256;omega,by show x < 256;omega,by show y < 256;omega,by show z < 256;omega⟩ ?_ ?_ k
 ·simp[eF];omega
 ·intro r hr
  simp[readsOf]at hr
  rcases hr with rfl | rfl
  ·exact hy
  ·exact hz
theorem J9 {x y z:Nat} (hs:x < 128) (hy:Rs M y) (hz:Rs M z) (k:∀ M',Sub M M'->Rs M' x->jr n M' l):jr n M (⟨3,x,y,z⟩ :: l):=by
 have h1:=hy.1
 have h2:=hz.1
 refine yj hs (by omega) ⟨by show 3 < 256;omega,by show x < 256;omega,by show y < 256;omega,by show z < 256;omega⟩ ?_ ?_ k
 ·simp[eF];omega
 ·intro r hr
  simp[readsOf]at hr
  rcases hr with rfl | rfl
  ·exact hy
  ·exact hz
theorem je {x y z:Nat} (hs:x < 128) (hy:Rs M y) (hz:Rs M z) (k:∀ M',Sub M M'->Rs M' x->jr n M' l):jr n M (⟨4,x,y,z⟩ :: l):=by
 have h1:=hy.1
 have h2:=hz.1
 refine yj hs (by omega) ⟨by show 4 < 256;omega,by show x < 256;omega,by show y < 256;omega,by show z < 256;omega⟩ ?_ ?_ k
 ·simp[eF];omega
 ·intro r hr
  simp[readsOf]at hr
  rcases hr with rfl | rfl
  ·exact hy
  ·exact hz
theorem Ep {x y:Nat} (hs:x < 128) (hy:y < 256) (k:∀ M',Sub M M'->Rs M' x->jr n M' l):jr n M (⟨1,x,y,0⟩ :: l):=by
 refine yj hs (by omega) ⟨by show 1 < 256;omega,by show x < 256;omega,hy,by show 0 < 256;omega⟩ ?_ ?_ k
 ·simp[eF];omega
 ·intro r hr
  simp[readsOf]at hr
theorem Xd {x y:Nat} (hs:x < 128) (hy:y < n) (hn:n<=32) (k:∀ M',Sub M M'->Rs M' x->jr n M' l):jr n M (⟨0,x,y,0⟩ :: l):=by
 refine yj hs (by omega) ⟨by show 0 < 256;omega,by show x < 256;omega,by show y < 256;omega,by show 0 < 256;omega⟩ ?_ ?_ k
 ·simp[eF];omega
 ·intro r hr
  simp[readsOf]at hr
theorem RN {x y:Nat} (hs:x < 128) (hy:Rs M y) (k:∀ M',Sub M M'->Rs M' x->jr n M' l):jr n M (⟨5,x,y,0⟩ :: l):=by
 have h1:=hy.1
 refine yj hs (by omega) ⟨by show 5 < 256;omega,by show x < 256;omega,by show y < 256;omega,by show 0 < 256;omega⟩ ?_ ?_ k
 ·simp[eF];omega
 ·intro r hr
  simp[readsOf]at hr
  subst hr
  exact hy
theorem qP {x:Nat} (hx:Rs M x) (k:jr n M l):jr n M (⟨6,x,0,0⟩ :: l):=by
 have h1:=hx.1
 refine⟨⟨by show 6 < 256;omega,by show x < 256;omega,by show 0 < 256;omega,by show 0 < 256;omega⟩,by simp[eF];omega,?_,k⟩
 intro r hr
 simp[readsOf]at hr
 subst hr
 exact hx
theorem Er {x y z:Nat} (hx:Rs M x) (hy:y < 3) (hz:z < 16) (k:jr n M l):jr n M (⟨7,x,y,z⟩ :: l):=by
 have h1:=hx.1
 refine⟨⟨by show 7 < 256;omega,by show x < 256;omega,by show y < 256;omega,by show z < 256;omega⟩,by simp[eF];omega,?_,k⟩
 intro r hr
 simp[readsOf]at hr
 subst hr
 exact hx
theorem kE {p q r t:Nat} (hs:s+3<=128) (xQ:Rs M p) (h_q:Rs M q) (h_r:Rs M r) (h_t:Rs M t)
  (k:∀ M',Sub M M'->Rs M' (s+2)->jr n M' l):jr n M (bJ s p q r t++l):=by
 unfold bJ
 refine je (by omega) xQ h_q ?_
 intro M1 s1 r1
 have X7:=Rs.sub h_r s1
 have X8:=Rs.sub h_t s1
 refine je (by omega) X7 X8 ?_
 intro M2 s2 r2
 have vZ:=Rs.sub r1 s2
 refine AU (by omega) vZ r2 ?_
 intro M3 s3 r3
 exact k _ ((s1.trans s2).trans s3) r3
theorem lY {p q r t:Nat} (hs:s+3<=128) (xQ:Rs M p) (h_q:Rs M q) (h_r:Rs M r) (h_t:Rs M t)
  (k:∀ M',Sub M M'->Rs M' (s+2)->jr n M' l):jr n M (bS s p q r t++l):=by
 unfold bS
 refine je (by omega) xQ h_q ?_
 intro M1 s1 r1
 have X7:=Rs.sub h_r s1
 have X8:=Rs.sub h_t s1
 refine je (by omega) X7 X8 ?_
 intro M2 s2 r2
 have vZ:=Rs.sub r1 s2
 refine J9 (by omega) vZ r2 ?_
 intro M3 s3 r3
 exact k _ ((s1.trans s2).trans s3) r3
theorem J8 {y:Nat} (hs:s+2<=128) (h_y:Rs M y)
  (k:∀ M',Sub M M'->Rs M' (s+1)->jr n M' l):jr n M (negL s y++l):=by
 unfold negL
 refine Ep (by omega) (by omega) ?_
 intro M1 s1 r1
 have abS:=Rs.sub h_y s1
 refine J9 (by omega) r1 abS ?_
 intro M2 s2 r2
 exact k _ (s1.trans s2) r2
theorem sJ {y:Nat} (hs:s+4<=128) (h_y:Rs M y)
  (k:∀ M',Sub M M'->Rs M' (s+3)->jr n M' l):jr n M (eH s y++l):=by
 unfold eH
 refine RN (by omega) h_y ?_
 intro M1 s1 r1
 refine je (by omega) r1 r1 ?_
 intro M2 s2 r2
 refine Ep (by omega) (by omega) ?_
 intro M3 s3 r3
 have X9:=Rs.sub r2 s3
 refine J9 (by omega) r3 X9 ?_
 intro M4 s4 r4
 exact k _ (((s1.trans s2).trans s3).trans s4) r4
theorem ql {a b:Tr} (hs:s+9<=128) (nL:Rt M a) (oI:Rt M b)
  (k:∀ M',Sub M M'->Rt M' (aA s)->jr n M' l):jr n M (dM s a b++l):=by
 unfold dM
 simp only[List.append_assoc]
 refine lY (by omega) nL.2.1 oI.2.2 nL.2.2 oI.2.1 ?_
 intro M1 s1 r1
 have oH:=Rt.sub nL s1
 have rU:=Rt.sub oI s1
 refine lY (by omega) oH.2.2 rU.1 oH.1 rU.2.2 ?_
 intro M2 s2 r2
 have vZ:=Rt.sub oH s2
 have DY:=Rt.sub rU s2
 have Ad:=Rs.sub r1 s2
 refine lY (by omega) vZ.1 DY.2.1 vZ.2.1 DY.1 ?_
 intro M3 s3 r3
 have D5:=Rs.sub Ad s3
 have D6:=Rs.sub r2 s3
 exact k _ ((s1.trans s2).trans s3) ⟨D5,D6,r3⟩
theorem RF {a b:Tr} (hs:s+5<=128) (nL:Rt M a) (oI:Rt M b)
  (k:∀ M',Sub M M'->Rs M' (s+4)->jr n M' l):jr n M (vX s a b++l):=by
 unfold vX
 simp only[List.append_assoc]
 refine kE (by omega) nL.1 oI.1 nL.2.1 oI.2.1 ?_
 intro M1 s1 r1
 have oH:=Rt.sub nL s1
 have rU:=Rt.sub oI s1
 refine je (by omega) oH.2.2 rU.2.2 ?_
 intro M2 s2 r2
 have Ad:=Rs.sub r1 s2
 refine AU (by omega) Ad r2 ?_
 intro M3 s3 r3
 exact k _ ((s1.trans s2).trans s3) r3
theorem AV {a b c:Tr} (hs:s+14<=128) (nL:Rt M a) (oI:Rt M b) (h_c:Rt M c)
  (k:∀ M',Sub M M'->Rs M' (s+13)->jr n M' l):jr n M (iK s a b c++l):=by
 unfold iK
 simp only[List.append_assoc]
 refine ql (by omega) nL oI ?_
 intro M1 s1 r1
 have Js:=Rt.sub h_c s1
 refine RF (by omega) r1 Js ?_
 intro M2 s2 r2
 exact k _ (s1.trans s2) r2
theorem RI {a b:Tr} (hs:s+8<=128) (nL:Rt M a) (oI:Rt M b)
  (k:∀ M',Sub M M'->Rt M' (gP s)->jr n M' l):jr n M (uI s a b++l):=by
 unfold uI
 simp only[List.append_assoc]
 refine kE (by omega) nL.1 oI.2.2 oI.1 nL.2.2 ?_
 intro M1 s1 r1
 have oH:=Rt.sub nL s1
 have rU:=Rt.sub oI s1
 refine kE (by omega) oH.2.1 rU.2.2 rU.2.1 oH.2.2 ?_
 intro M2 s2 r2
 have vZ:=Rt.sub oH s2
 have DY:=Rt.sub rU s2
 have Ad:=Rs.sub r1 s2
 refine je (by omega) vZ.2.2 DY.2.2 ?_
 intro M3 s3 r3
 have D5:=Rs.sub Ad s3
 have D6:=Rs.sub r2 s3
 refine AU (by omega) r3 r3 ?_
 intro M4 s4 r4
 have Yc:=Rs.sub D5 s4
 have Yd:=Rs.sub D6 s4
 exact k _ (((s1.trans s2).trans s3).trans s4) ⟨Yc,Yd,r4⟩
theorem RJ {p m:Tr} (hs:s+7<=128) (xQ:Rt M p) (TA:Rt M m)
  (k:∀ M',Sub M M'->Rt M' (lZ s)->jr n M' l):jr n M (zx s p m++l):=by
 unfold zx
 simp only[List.append_assoc]
 refine je (by omega) TA.1 xQ.2.2 ?_
 intro M1 s1 r1
 have Ch:=Rt.sub xQ s1
 have Jt:=Rt.sub TA s1
 refine je (by omega) Jt.2.1 Ch.2.2 ?_
 intro M2 s2 r2
 have DZ:=Rt.sub Ch s2
 have UA:=Rt.sub Jt s2
 have Ad:=Rs.sub r1 s2
 refine kE (by omega) UA.1 DZ.1 UA.2.1 DZ.2.1 ?_
 intro M3 s3 r3
 have D5:=Rs.sub Ad s3
 have D6:=Rs.sub r2 s3
 refine J8 (by omega) r3 ?_
 intro M4 s4 r4
 have Yc:=Rs.sub D5 s4
 have Yd:=Rs.sub D6 s4
 exact k _ (((s1.trans s2).trans s3).trans s4) ⟨Yc,Yd,r4⟩
theorem Ka {p m:Tr} (hs:s+9<=128) (xQ:Rt M p) (TA:Rt M m)
  (k:∀ M',Sub M M'->Rt M' (eD s)->jr n M' l):jr n M (tC s p m++l):=by
 unfold tC
 simp only[List.append_assoc]
 refine J8 (by omega) TA.1 ?_
 intro M1 s1 r1
 have Ch:=Rt.sub xQ s1
 have Jt:=Rt.sub TA s1
 refine RJ (by omega) Ch ⟨Jt.2.1,r1,Jt.2.2⟩ ?_
 intro M2 s2 r2
 exact k _ (s1.trans s2) ⟨r2.1,r2.2.1,r2.2.2⟩
theorem Ld {p m:Tr} (hs:s+18<=128) (xQ:Rt M p) (TA:Rt M m)
  (k:∀ M',Sub M M'->Rt M' (dX s)->jr n M' l):jr n M (jC s p m++l):=by
 unfold jC
 simp only[List.append_assoc]
 refine Ka (by omega) xQ TA ?_
 intro M1 s1 r1
 have Jt:=Rt.sub TA s1
 refine ql (by omega) r1 Jt ?_
 intro M2 s2 r2
 exact k _ (s1.trans s2) ⟨r2.1,r2.2.1,r2.2.2⟩
theorem YQ {p m:Tr} (hs:s+27<=128) (xQ:Rt M p) (TA:Rt M m)
  (k:∀ M',Sub M M'->Rt M' (wE s)->jr n M' l):jr n M (Eh s p m++l):=by
 unfold Eh
 simp only[List.append_assoc]
 refine Ld (by omega) xQ TA ?_
 intro M1 s1 r1
 have Ch:=Rt.sub xQ s1
 refine AU (by omega) r1.1 r1.1 ?_
 intro M2 s2 r2
 have DZ:=Rt.sub Ch s2
 have Qa:=Rt.sub r1 s2
 refine AU (by omega) Qa.2.1 Qa.2.1 ?_
 intro M3 s3 r3
 have Ya:=Rt.sub DZ s3
 have aam:=Rt.sub Qa s3
 have aaq:=Rs.sub r2 s3
 refine lY (by omega) aaq Ya.2.2 Ya.1 aam.2.2 ?_
 intro M4 s4 r4
 have Yb:=Rt.sub Ya s4
 have aar:=Rt.sub aam s4
 have aav:=Rs.sub r3 s4
 refine lY (by omega) aav Yb.2.2 Yb.2.1 aar.2.2 ?_
 intro M5 s5 r5
 have abY:=Rt.sub Yb s5
 have abX:=Rt.sub aar s5
 have abZ:=Rs.sub r4 s5
 refine je (by omega) abX.2.2 abY.2.2 ?_
 intro M6 s6 r6
 have ab0:=Rs.sub abZ s6
 have ab1:=Rs.sub r5 s6
 exact k _ (((((s1.trans s2).trans s3).trans s4).trans s5).trans s6) ⟨ab0,ab1,r6⟩
theorem RG {a b:Tr} (hs:s+26<=128) (nL:Rt M a) (oI:Rt M b)
  (k:∀ M',Sub M M'->Rt M' (dz s)->jr n M' l):jr n M (rF s a b++l):=by
 unfold rF
 simp only[List.append_assoc]
 refine RI (by omega) nL oI ?_
 intro M1 s1 r1
 have oH:=Rt.sub nL s1
 have rU:=Rt.sub oI s1
 refine ql (by omega) oH rU ?_
 intro M2 s2 r2
 have UA:=Rt.sub r1 s2
 refine Ka (by omega) UA r2 ?_
 intro M3 s3 r3
 exact k _ ((s1.trans s2).trans s3) ⟨r3.1,r3.2.1,r3.2.2⟩
theorem YO {a b c:Tr} (hs:s+61<=128) (nL:Rt M a) (oI:Rt M b) (h_c:Rt M c)
  (k:∀ M',Sub M M'->Rt M' (uT s)->jr n M' l):jr n M (zW s a b c++l):=by
 unfold zW
 simp only[List.append_assoc]
 refine RG (by omega) nL oI ?_
 intro M1 s1 r1
 have oH:=Rt.sub nL s1
 have Js:=Rt.sub h_c s1
 refine RG (by omega) oH Js ?_
 intro M2 s2 r2
 have Qa:=Rt.sub r1 s2
 refine ql (by omega) Qa r2 ?_
 intro M3 s3 r3
 exact k _ ((s1.trans s2).trans s3) ⟨r3.1,r3.2.1,r3.2.2⟩
theorem yt {a b:Tr} (hs:s+7<=128) (nL:Rt M a) (oI:Rt M b)
  (k:∀ M',Sub M M'->Rt M' (aD s)->jr n M' l):jr n M (dh s a b++l):=by
 unfold dh
 simp only[List.append_assoc]
 refine lY (by omega) oI.1 nL.2.2 nL.1 oI.2.2 ?_
 intro M1 s1 r1
 have oH:=Rt.sub nL s1
 have rU:=Rt.sub oI s1
 refine lY (by omega) rU.2.1 oH.2.2 oH.2.1 rU.2.2 ?_
 intro M2 s2 r2
 have vZ:=Rt.sub oH s2
 have DY:=Rt.sub rU s2
 have Ad:=Rs.sub r1 s2
 refine je (by omega) vZ.2.2 DY.2.2 ?_
 intro M3 s3 r3
 have D5:=Rs.sub Ad s3
 have D6:=Rs.sub r2 s3
 exact k _ ((s1.trans s2).trans s3) ⟨D5,D6,r3⟩
theorem J7 {p:Tr} (hs:s+5<=128) (xQ:Rt M p)
  (k:∀ M',Sub M M'->Rt M' (aR s)->jr n M' l):jr n M (lH s p++l):=by
 unfold lH
 simp only[List.append_assoc]
 refine je (by omega) xQ.1 xQ.2.2 ?_
 intro M1 s1 r1
 have Ch:=Rt.sub xQ s1
 refine je (by omega) Ch.2.1 Ch.2.2 ?_
 intro M2 s2 r2
 have DZ:=Rt.sub Ch s2
 have Ad:=Rs.sub r1 s2
 refine kE (by omega) DZ.1 DZ.1 DZ.2.1 DZ.2.1 ?_
 intro M3 s3 r3
 have D5:=Rs.sub Ad s3
 have D6:=Rs.sub r2 s3
 exact k _ ((s1.trans s2).trans s3) ⟨D5,D6,r3⟩
theorem YN {a b c:Tr} (hs:s+38<=128) (nL:Rt M a) (oI:Rt M b) (h_c:Rt M c)
  (k:∀ M',Sub M M'->Rs M' (s+37)->jr n M' l):jr n M (zV s a b c++l):=by
 unfold zV
 simp only[List.append_assoc]
 refine AV (by omega) nL oI h_c ?_
 intro M1 s1 r1
 have oH:=Rt.sub nL s1
 have rU:=Rt.sub oI s1
 have Js:=Rt.sub h_c s1
 refine sJ (by omega) r1 ?_
 intro M2 s2 r2
 have vZ:=Rt.sub oH s2
 have DY:=Rt.sub rU s2
 have abT:=Rt.sub Js s2
 refine yt (by omega) DY vZ ?_
 intro M3 s3 r3
 have X9:=Rt.sub DY s3
 have abV:=Rt.sub abT s3
 have aan:=Rs.sub r2 s3
 refine yt (by omega) X9 abV ?_
 intro M4 s4 r4
 have aas:=Rs.sub aan s4
 have WM:=Rt.sub r3 s4
 refine kE (by omega) WM.1 r4.1 WM.2.1 r4.2.1 ?_
 intro M5 s5 r5
 have aax:=Rs.sub aas s5
 refine J8 (by omega) r5 ?_
 intro M6 s6 r6
 have aaB:=Rs.sub aax s6
 refine je (by omega) aaB r6 ?_
 intro M7 s7 r7
 exact k _ ((((((s1.trans s2).trans s3).trans s4).trans s5).trans s6).trans s7) r7
theorem YR {a b c d:Tr} (hs:s+50<=128) (nL:Rt M a) (oI:Rt M b) (h_c:Rt M c) (h_d:Rt M d)
  (k:∀ M',Sub M M'->Rs M' (s+49)->jr n M' l):jr n M (BI s a b c d++l):=by
 unfold BI
 simp only[List.append_assoc]
 refine yt (by omega) nL oI ?_
 intro M1 s1 r1
 have oH:=Rt.sub nL s1
 have Js:=Rt.sub h_c s1
 have abR:=Rt.sub h_d s1
 refine yt (by omega) oH Js ?_
 intro M2 s2 r2
 have vZ:=Rt.sub oH s2
 have abU:=Rt.sub abR s2
 have aal:=Rt.sub r1 s2
 refine yt (by omega) vZ abU ?_
 intro M3 s3 r3
 have aao:=Rt.sub aal s3
 have aap:=Rt.sub r2 s3
 refine J7 (by omega) aao ?_
 intro M4 s4 r4
 have aat:=Rt.sub aap s4
 have aau:=Rt.sub r3 s4
 refine J7 (by omega) aat ?_
 intro M5 s5 r5
 have aay:=Rt.sub aau s5
 have aaw:=Rt.sub r4 s5
 refine J7 (by omega) aay ?_
 intro M6 s6 r6
 have aaz:=Rt.sub aaw s6
 have aaA:=Rt.sub r5 s6
 refine AV (by omega) aaz aaA r6 ?_
 intro M7 s7 r7
 exact k _ ((((((s1.trans s2).trans s3).trans s4).trans s5).trans s6).trans s7) r7
theorem YS {a b:Tr} (hs:s+10<=128) (nL:Rt M a) (oI:Rt M b)
  (k:∀ M',Sub M M'->Rs M' (s+9)->jr n M' l):jr n M (Cz s a b++l):=by
 unfold Cz
 simp only[List.append_assoc]
 refine yt (by omega) nL oI ?_
 intro M1 s1 r1
 refine kE (by omega) r1.1 r1.1 r1.2.1 r1.2.1 ?_
 intro M2 s2 r2
 exact k _ (s1.trans s2) r2
theorem RH {m:Tr} {f k:Nat} (hk:k < 16) (hm':Rt M m) (hf:Rs M f) (kk:∀ M',Sub M M'->Rt M' (hm k)->jr n M' l):jr n M (kp3 f m k++l):=by
 refine je (by omega) hm'.1 hf ?_
 intro M1 s1 r1
 refine je (by omega) (hm'.2.1.sub s1) (hf.sub s1) ?_
 intro M2 s2 r2
 refine je (by omega) ((hm'.2.2.sub s1).sub s2) ((hf.sub s1).sub s2) ?_
 intro M3 s3 r3
 exact kk _ ((s1.trans s2).trans s3) ⟨(r1.sub s2).sub s3,r2.sub s3,r3⟩
theorem yh {m:Tr} {f k:Nat} (hs:f < 128) (hk:k < 16) (hm':Rt M m) (kk:∀ M',Sub M M'->Rt M' (hm k)->jr n M' l):jr n M (Am f m k++l):=by
 refine RN hs hm'.2.2 ?_
 intro M1 s1 r1
 exact RH hk (hm'.sub s1) r1 (fun M2 s2 r2=>kk _ (s1.trans s2) r2)
theorem J6 {m:Tr} {f k:Nat} (hs:f < 128) (hk:k < 16) (hm':Rt M m) (kk:∀ M',Sub M M'->Rt M' (hm k)->jr n M' l):jr n M (OP f m k++l):=by
 refine Ep hs (by omega) ?_
 intro M1 s1 r1
 exact RH hk (hm'.sub s1) r1 (fun M2 s2 r2=>kk _ (s1.trans s2) r2)
def vO (C:List eY) (M:Nat->Bool):Prop:=∀ j (h:j < C.length),eT C[j]≠63->Rt M (hm j)
theorem vO.P {C:List eY} (h:vO C M) {j:Nat} (hj:rJ C j):Rt M (hm j):=h j hj.1 (by rw[hj.2];omega)
theorem vO.L {C:List eY} (h:vO C M) {j:Nat} (hj:nQ C j):Rt M (hm j):=h j hj.1 (by rw[hj.2];omega)
theorem vO.next {C:List eY} {c:eY} {M':Nat->Bool} (h:vO C M) (k:Sub M M') (hc:eT c≠63->Rt M' (hm C.length)):vO (C++[c]) M':=by
 intro j hj hs
 by_cases hl:j < C.length
 ·rw[List.getElem_append_left hl]at hs;exact (h j hl hs).sub k
 ·have:j=C.length:=by simp at hj;omega
  subst this
  exact hc (by simpa using hs)
theorem YP {C:List eY} {i:Nat} (c:eY) (hk:C.length < 16) (hn:n<=32) (hi:i+iZ c<=n) (h:vO C M) (hok:kX C c) (kk:∀ M',Sub M M'->(eT c≠63->Rt M' (hm C.length))->jr n M' l):jr n M (gY C.length i c++l):=by
 cases c using eY.el with
 | pt =>
  have hi2:i+2<=n:=hi
  refine Xd (by omega) (by omega) hn ?_
  intro M1 s1 r1
  refine Xd (by omega) (by omega) hn ?_
  intro M2 s2 r2
  refine Ep (by omega) (by omega) ?_
  intro M3 s3 r3
  refine yh (m:=jP 48) (by omega) hk ⟨(r1.sub s2).sub s3,r2.sub s3,r3⟩ ?_
  intro M4 s4 r4
  exact kk _ (((s1.trans s2).trans s3).trans s4) (fun _=>r4)
 | mid a b =>
  unfold kX at hok
  unfold gY
  simp only[List.append_assoc]
  refine RI (by omega) (h.P hok.1) (h.P hok.2) ?_
  intro M1 s1 r1
  refine yh (by omega) hk r1 ?_
  intro M2 s2 r2
  exact kk _ (s1.trans s2) (fun _=>r2)
 | line a b =>
  unfold kX at hok
  unfold gY
  simp only[List.append_assoc,List.cons_append]
  refine ql (by omega) (h.P hok.1) (h.P hok.2) ?_
  intro M1 s1 r1
  refine kE (by omega) r1.1 r1.1 r1.2.1 r1.2.1 ?_
  intro M2 s2 r2
  refine Er r2 (by omega) hk ?_
  refine J6 (by omega) hk (r1.sub s2) ?_
  intro M3 s3 r3
  exact kk _ ((s1.trans s2).trans s3) (fun _=>r3)
 | par a b =>
  unfold kX at hok
  unfold gY
  simp only[List.append_assoc]
  refine RJ (by omega) (h.P hok.1) (h.L hok.2) ?_
  intro M1 s1 r1
  refine J6 (by omega) hk r1 ?_
  intro M2 s2 r2
  exact kk _ (s1.trans s2) (fun _=>r2)
 | pK a b =>
  unfold kX at hok
  unfold gY
  simp only[List.append_assoc]
  refine Ka (by omega) (h.P hok.1) (h.L hok.2) ?_
  intro M1 s1 r1
  refine J6 (by omega) hk r1 ?_
  intro M2 s2 r2
  exact kk _ (s1.trans s2) (fun _=>r2)
 | meet a b =>
  unfold kX at hok
  unfold gY
  simp only[List.append_assoc,List.cons_append]
  refine ql (by omega) (h.L hok.1) (h.L hok.2) ?_
  intro M1 s1 r1
  refine Er r1.2.2 (by omega) hk ?_
  refine yh (by omega) hk r1 ?_
  intro M2 s2 r2
  exact kk _ (s1.trans s2) (fun _=>r2)
 | foot a b =>
  unfold kX at hok
  unfold gY
  simp only[List.append_assoc]
  refine Ld (by omega) (h.P hok.1) (h.L hok.2) ?_
  intro M1 s1 r1
  refine yh (by omega) hk r1 ?_
  intro M2 s2 r2
  exact kk _ (s1.trans s2) (fun _=>r2)
 | mirror a b =>
  unfold kX at hok
  unfold gY
  simp only[List.append_assoc]
  refine YQ (by omega) (h.P hok.1) (h.L hok.2) ?_
  intro M1 s1 r1
  refine yh (by omega) hk r1 ?_
  intro M2 s2 r2
  exact kk _ (s1.trans s2) (fun _=>r2)
 | dV a b c =>
  unfold kX at hok
  unfold gY
  simp only[List.append_assoc,List.cons_append]
  refine YO (by omega) (h.P hok.1) (h.P hok.2.1) (h.P hok.2.2) ?_
  intro M1 s1 r1
  refine Er r1.2.2 (by omega) hk ?_
  refine yh (by omega) hk r1 ?_
  intro M2 s2 r2
  exact kk _ (s1.trans s2) (fun _=>r2)
 | same a b =>
  unfold kX at hok
  unfold gY
  simp only[List.append_assoc]
  refine YS (by omega) (h.P hok.1) (h.P hok.2) ?_
  intro M1 s1 r1
  refine sJ (by omega) r1 ?_
  intro M2 s2 r2
  refine qP r2 ?_
  exact kk _ (s1.trans s2) (fun hh=>absurd rfl hh)
 | col a b c =>
  unfold kX at hok
  unfold gY
  simp only[List.append_assoc]
  refine AV (by omega) (h.P hok.1) (h.P hok.2.1) (h.P hok.2.2) ?_
  intro M1 s1 r1
  refine sJ (by omega) r1 ?_
  intro M2 s2 r2
  refine qP r2 ?_
  exact kk _ (s1.trans s2) (fun hh=>absurd rfl hh)
 | Iy a b c =>
  unfold kX at hok
  unfold gY
  simp only[List.append_assoc]
  refine AV (by omega) (h.P hok.1) (h.P hok.2.1) (h.P hok.2.2) ?_
  intro M1 s1 r1
  refine qP r1 ?_
  exact kk _ s1 (fun hh=>absurd rfl hh)
 | Iw a b c =>
  unfold kX at hok
  unfold gY
  simp only[List.append_assoc]
  refine YN (by omega) (h.P hok.1) (h.P hok.2.1) (h.P hok.2.2) ?_
  intro M1 s1 r1
  refine qP r1 ?_
  exact kk _ s1 (fun hh=>absurd rfl hh)
 | con a b c d =>
  unfold kX at hok
  unfold gY
  simp only[List.append_assoc]
  refine YR (by omega) (h.P hok.1) (h.P hok.2.1) (h.P hok.2.2.1) (h.P hok.2.2.2) ?_
  intro M1 s1 r1
  refine sJ (by omega) r1 ?_
  intro M2 s2 r2
  refine qP r2 ?_
  exact kk _ (s1.trans s2) (fun hh=>absurd rfl hh)
 | on a b =>
  unfold kX at hok
  unfold gY
  simp only[List.append_assoc]
  refine RF (by omega) (h.P hok.1) (h.L hok.2) ?_
  intro M1 s1 r1
  refine sJ (by omega) r1 ?_
  intro M2 s2 r2
  refine qP r2 ?_
  exact kk _ (s1.trans s2) (fun hh=>absurd rfl hh)
 | cc a b c =>
  unfold kX at hok
  unfold gY
  simp only[List.append_assoc]
  refine AV (by omega) (h.L hok.1) (h.L hok.2.1) (h.L hok.2.2) ?_
  intro M1 s1 r1
  refine sJ (by omega) r1 ?_
  intro M2 s2 r2
  refine qP r2 ?_
  exact kk _ (s1.trans s2) (fun hh=>absurd rfl hh)
 | IB a b =>
  unfold kX at hok
  unfold gY
  simp only[List.append_assoc]
  refine lY (by omega) (h.L hok.1).1 (h.L hok.2).2.1 (h.L hok.1).2.1 (h.L hok.2).1 ?_
  intro M1 s1 r1
  refine sJ (by omega) r1 ?_
  intro M2 s2 r2
  refine qP r2 ?_
  exact kk _ (s1.trans s2) (fun hh=>absurd rfl hh)
 | IC a b =>
  unfold kX at hok
  unfold gY
  simp only[List.append_assoc]
  refine kE (by omega) (h.L hok.1).1 (h.L hok.2).1 (h.L hok.1).2.1 (h.L hok.2).2.1 ?_
  intro M1 s1 r1
  refine sJ (by omega) r1 ?_
  intro M2 s2 r2
  refine qP r2 ?_
  exact kk _ (s1.trans s2) (fun hh=>absurd rfl hh)
end
theorem Lc {n:Nat} (hn:n<=32):∀ (r C:List eY) (W:List Nat) (i:Nat) (M:Nat->Bool),vO C M->Wf C W r->C.length+r.length<=16->i+aY r<=n->jr n M (bZ r C.length i)
 | [],_,_,_,_,_,_,_,_=>trivial
 | c :: r,C,W,i,M,h,hw,hl,hi=>by
  obtain⟨h1,-,h3⟩:=hw
  simp only[aY,List.map_cons,List.sum_cons]at hi
  simp only[List.length_cons]at hl
  refine YP c (by omega) hn (by omega) h h1 ?_
  intro M' s' hc
  have:=Lc hn r (C++[c]) _ (i+iZ c) M' (h.next s' hc) h3 (by simp;omega) (by unfold aY;omega)
  simpa using this
theorem Pm (k i:Nat) (c:eY):(gY k i c).length<=70:=by cases c using eY.el<;>exact Nat.le_of_ble_eq_true rfl
theorem xM:∀ (r:List eY) (k i:Nat),(bZ r k i).length<=70*r.length
 | [],_,_=>Nat.le_refl _
 | c :: r,k,i=>by
  have h1:=Pm k i c
  have h2:=xM r (k+1) (i+iZ c)
  simp only[bZ,List.length_append,List.length_cons]
  omega
structure Made (l:List St):Prop where
 len:(bZ (cmds l) 0 0).length<=1120
 ok:jr (aY (cmds l)) (fun _=>false) (bZ (cmds l) 0 0)
 n32:aY (cmds l)<=32
theorem zF:∀ r:List eY,aY r<=2*r.length
 | []=>Nat.le_refl _
 | c :: r=>by
  have h1:iZ c<=2:=by cases c using eY.el<;>exact Nat.le_of_ble_eq_true rfl
  have h2:=zF r
  simp only[aY,List.map_cons,List.sum_cons,List.length_cons]at *
  omega
theorem jc {p:List (St × Nat)} (h:Ok p) (hl:p.length<=16):Made (aL p):=by
 have e:=iE (p:=p)
 have h32:aY (cmds (aL p))<=32:=by have:=zF (cmds (aL p));omega
 refine⟨by have:=xM (cmds (aL p)) 0 0;omega,?_,h32⟩
 exact Lc h32 (cmds (aL p)) [] [] 0 _ (fun j hj=>by simp at hj) (xw h) (by simp;omega) (by omega)
end Go.Proofs.YtmnfndpbblpjiabGreatDoor.Pu

/- Of the statements of a source: how many there are, and that their words stand in it: plain. -/
namespace Go.Proofs.YtmnfndpbblpjiabGreatDoor.Pu
theorem YK {y x:Sc} {c:Nat} (h:nx y c=some x) :
  (y.st=0/\y.n≠16/\c=63/\x=⟨2,y.n,y.le,y.ar⟩)\/(y.st=0/\y.n≠16/\gU c=true/\x=⟨1,y.n,y.le,y.ar⟩)\/(y.st=1/\c=61/\x=⟨2,y.n,y.le,y.ar⟩)\/(y.st=2/\gU c=true/\x=⟨3,y.n,1,y.ar⟩) \/
  (y.st=3/\gU c=true/\x=⟨3,y.n,y.le+1,y.ar⟩)\/(y.st=3/\c=40/\x=⟨4,y.n,y.le,0⟩)\/(y.st=4/\gU c=true/\x=⟨5,y.n,y.le,y.ar+1⟩)\/(y.st=4/\c=41/\x=⟨7,y.n,y.le,y.ar⟩) \/
  (y.st=5/\c=41/\x=⟨7,y.n,y.le,y.ar⟩)\/(y.st=5/\c=44/\x=⟨6,y.n,y.le,y.ar⟩)\/(y.st=6/\gU c=true/\x=⟨5,y.n,y.le,y.ar+1⟩)\/(y.st=7/\c=59/\x=⟨0,y.n+1,y.le,y.ar⟩):=by
 unfold nx at h
 by_cases h0:y.st=0
 ·rw[if_pos h0]at h
  by_cases h1:y.n=16
  ·simp[h1]at h
  ·by_cases h2:c=63
   ·simp[h1,h2]at h;simp[h0,h1,h2,h]
   ·by_cases h3:gU c=true
    ·simp[h1,h2,h3]at h;simp[h0,h1,h3,h]
    ·simp[h1,h2,h3]at h
 rw[if_neg h0]at h
 by_cases h1:y.st=1
 ·rw[if_pos h1]at h
  by_cases h2:c=61
  ·simp[h2]at h;simp[h1,h2,h]
  ·simp[h2]at h
 rw[if_neg h1]at h
 by_cases h2:y.st=2
 ·rw[if_pos h2]at h
  by_cases h3:gU c=true
  ·simp[h3]at h;simp[h2,h3,h]
  ·simp[h3]at h
 rw[if_neg h2]at h
 by_cases h3:y.st=3
 ·rw[if_pos h3]at h
  by_cases h4:gU c && decide (y.le < 6)
  ·rw[if_pos h4]at h
   simp at h4 h
   simp[h3,h4.1,h]
  ·rw[if_neg h4]at h
   by_cases h5:c=40
   ·simp[h5]at h;simp[h3,h5,h]
   ·simp[h5]at h
 rw[if_neg h3]at h
 by_cases h4:y.st=4
 ·rw[if_pos h4]at h
  by_cases h5:gU c=true
  ·simp[h5]at h;simp[h4,h5,h]
  ·by_cases h6:c=41
   ·simp[h6,gU]at h;simp[h4,h6,h]
   ·simp[h5,h6]at h
 rw[if_neg h4]at h
 by_cases h5:y.st=5
 ·rw[if_pos h5]at h
  by_cases h6:c=41
  ·simp[h6]at h;simp[h5,h6,h]
  ·by_cases h7:c=44/\y.ar < 4
   ·simp[h7]at h;simp[h5,h7.1,h]
   ·rw[if_neg h6,if_neg h7]at h;cases h
 rw[if_neg h5]at h
 by_cases h6:y.st=6
 ·rw[if_pos h6]at h
  by_cases h7:gU c=true
  ·simp[h7]at h;simp[h6,h7,h]
  ·simp[h7]at h
 rw[if_neg h6]at h
 by_cases h7:y.st=7
 ·rw[if_pos h7]at h
  by_cases h8:c=59
  ·simp[h8]at h;simp[h7,h8,h]
  ·simp[h8]at h
 ·rw[if_neg h7]at h;cases h
def Tq (s:ByteArray) (i:Nat) (wd:List UInt8):Prop:=i+wd.length<=s.size/\∀ j (hj:j < wd.length),bt s (i+j)=wd[j]
theorem Tq.nil (s:ByteArray) {i:Nat} (h:i<=s.size):Tq s i []:=⟨by simpa using h,fun j hj=>by simp at hj⟩
theorem Tq.snoc {s:ByteArray} {i:Nat} {wd:List UInt8} (h:Tq s i wd) (hk:i+wd.length < s.size):Tq s i (wd++[bt s (i+wd.length)]):=by
 refine⟨by simp;omega,fun j hj=>?_⟩
 by_cases e:j < wd.length
 ·rw[List.getElem_append_left e];exact h.2 j e
 ·have:j=wd.length:=by simp at hj;omega
  subst this
  simp
structure GaI (s:ByteArray) (k:Nat) (x:Sc):Prop where
 cnt:(bF s k).l.length=x.n
 n16:x.n<=16/\(x.st≠0->x.n < 16)
 ins:(bF s k).ins=true↔(x.st=4\/x.st=5\/x.st=6)
 old:∀ y∈(bF s k).l,∃ i,Tq s i y.word
 wd2:x.st=2->(bF s k).x.word=[]
 wd3:x.st=3->(bF s k).x.word.length<=k/\Tq s (k - (bF s k).x.word.length) (bF s k).x.word
 wd4:4<=x.st->∃ i,Tq s i (bF s k).x.word
theorem Ye (s:ByteArray):∀ (k:Nat) (x:Sc),k<=s.size->stA s k=some x->GaI s k x:=by
 intro k
 induction k with
 | zero =>
  intro x _ h
  have:x=⟨0,0,0,0⟩:=(Option.some.inj h).symm
  subst this
  exact⟨rfl,⟨by decide,fun h=>absurd rfl h⟩,by simp[bF],fun y hy=>by simp[bF]at hy,fun h=>by simp at h,fun h=>by simp at h,fun h=>by simp at h⟩
 | succ k ih =>
  intro x hk h
  obtain⟨y,hy,hn⟩:=BO h
  obtain⟨c1,c2,c3,c4,c5,c6,c7⟩:=ih y (by omega) hy
  have hl:gU (g s k)=true->97<=g s k/\g s k<=122:=(jM _).1
  have hA:bF s (k+1)=aX s k (bF s k):=rfl
  rcases YK hn with ⟨a,b,c,rfl⟩ | ⟨a,b,c,rfl⟩ | ⟨a,c,rfl⟩ | ⟨a,c,rfl⟩ | ⟨a,c,rfl⟩ | ⟨a,c,rfl⟩ | ⟨a,c,rfl⟩ | ⟨a,c,rfl⟩ | ⟨a,c,rfl⟩ | ⟨a,c,rfl⟩ | ⟨a,c,rfl⟩ | ⟨a,c,rfl⟩
  ·have hG:aX s k (bF s k)=⟨(bF s k).l,⟨(bF s k).x.name,[],(bF s k).x.args⟩,(bF s k).ins⟩:=by simp[aX,c]
   constructor
   all_goals (simp only[hA,hG])
   ·exact c1
   ·exact⟨c2.1,fun _=>by omega⟩
   ·rw[c3];simp[a]
   ·exact c4
   ·intro _;trivial
   ·intro h;simp at h
   ·intro h;simp at h
  ·have hc:=hl c
   have hi:(bF s k).ins=false:=by
    cases hh:(bF s k).ins with
    | false=>rfl
    | true=>rw[hh]at c3;simp[a]at c3
   have hG:aX s k (bF s k)=⟨(bF s k).l,⟨(bF s k).x.name,(bF s k).x.word++[bt s k],(bF s k).x.args⟩,false⟩:=by
    simp[aX,c,hi,show g s k≠61 by omega,show g s k≠63 by omega,show g s k≠40 by omega,show g s k≠41 by omega,show g s k≠59 by omega]
   constructor
   all_goals (simp only[hA,hG])
   ·exact c1
   ·exact⟨c2.1,fun _=>by omega⟩
   ·simp
   ·exact c4
   ·intro h;simp at h
   ·intro h;simp at h
   ·intro h;simp at h
  ·have hG:aX s k (bF s k)=⟨(bF s k).l,⟨g s (k - 1),[],(bF s k).x.args⟩,(bF s k).ins⟩:=by simp[aX,c]
   constructor
   all_goals (simp only[hA,hG])
   ·exact c1
   ·exact⟨c2.1,fun _=>c2.2 (by omega)⟩
   ·rw[c3];simp[a]
   ·exact c4
   ·intro _;trivial
   ·intro h;simp at h
   ·intro h;simp at h
  ·have hc:=hl c
   have hi:(bF s k).ins=false:=by
    cases hh:(bF s k).ins with
    | false=>rfl
    | true=>rw[hh]at c3;simp[a]at c3
   have hw:=c5 a
   have hG:aX s k (bF s k)=⟨(bF s k).l,⟨(bF s k).x.name,[bt s k],(bF s k).x.args⟩,false⟩:=by
    simp[aX,c,hi,hw,show g s k≠61 by omega,show g s k≠63 by omega,show g s k≠40 by omega,show g s k≠41 by omega,show g s k≠59 by omega]
   constructor
   all_goals (simp only[hA,hG])
   ·exact c1
   ·exact⟨c2.1,fun _=>c2.2 (by omega)⟩
   ·simp
   ·exact c4
   ·intro h;simp at h
   ·intro _
    have:=(Tq.nil s (i:=k) (by omega)).snoc (by simp;omega)
    simpa using this
   ·intro h;simp at h
  ·have hc:=hl c
   have hi:(bF s k).ins=false:=by
    cases hh:(bF s k).ins with
    | false=>rfl
    | true=>rw[hh]at c3;simp[a]at c3
   obtain⟨w1,w2⟩:=c6 a
   have hG:aX s k (bF s k)=⟨(bF s k).l,⟨(bF s k).x.name,(bF s k).x.word++[bt s k],(bF s k).x.args⟩,false⟩:=by
    simp[aX,c,hi,show g s k≠61 by omega,show g s k≠63 by omega,show g s k≠40 by omega,show g s k≠41 by omega,show g s k≠59 by omega]
   constructor
   all_goals (simp only[hA,hG])
   ·exact c1
   ·exact⟨c2.1,fun _=>c2.2 (by omega)⟩
   ·simp
   ·exact c4
   ·intro h;simp at h
   ·intro _
    have e:k - (bF s k).x.word.length+(bF s k).x.word.length=k:=by omega
    have:=w2.snoc (by omega)
    rw[e]at this
    refine⟨by simp;omega,?_⟩
    rw[show k+1 - ((bF s k).x.word++[bt s k]).length=k - (bF s k).x.word.length by simp]
    exact this
   ·intro h;simp at h
  ·have hG:aX s k (bF s k)=⟨(bF s k).l,(bF s k).x,true⟩:=by simp[aX,c]
   constructor
   all_goals (simp only[hA,hG])
   ·exact c1
   ·exact⟨c2.1,fun _=>c2.2 (by omega)⟩
   ·simp
   ·exact c4
   ·intro h;simp at h
   ·intro h;simp at h
   ·intro _;exact⟨_,(c6 a).2⟩
  ·have hc:=hl c
   have hi:(bF s k).ins=true:=c3.2 (.inl a)
   have hG:aX s k (bF s k)=⟨(bF s k).l,⟨(bF s k).x.name,(bF s k).x.word,(bF s k).x.args++[bt s k]⟩,true⟩:=by
    simp[aX,c,hi,show g s k≠61 by omega,show g s k≠63 by omega,show g s k≠40 by omega,show g s k≠41 by omega,show g s k≠59 by omega]
   constructor
   all_goals (simp only[hA,hG])
   ·exact c1
   ·exact⟨c2.1,fun _=>c2.2 (by omega)⟩
   ·simp
   ·exact c4
   ·intro h;simp at h
   ·intro h;simp at h
   ·intro _;exact c7 (by omega)
  ·have hG:aX s k (bF s k)=⟨(bF s k).l,(bF s k).x,false⟩:=by simp[aX,c]
   constructor
   all_goals (simp only[hA,hG])
   ·exact c1
   ·exact⟨c2.1,fun _=>c2.2 (by omega)⟩
   ·simp
   ·exact c4
   ·intro h;simp at h
   ·intro h;simp at h
   ·intro _;exact c7 (by omega)
  ·have hG:aX s k (bF s k)=⟨(bF s k).l,(bF s k).x,false⟩:=by simp[aX,c]
   constructor
   all_goals (simp only[hA,hG])
   ·exact c1
   ·exact⟨c2.1,fun _=>c2.2 (by omega)⟩
   ·simp
   ·exact c4
   ·intro h;simp at h
   ·intro h;simp at h
   ·intro _;exact c7 (by omega)
  ·have hG:aX s k (bF s k)=bF s k:=by simp[aX,c,gU]
   constructor
   all_goals (simp only[hA,hG])
   ·exact c1
   ·exact⟨c2.1,fun _=>c2.2 (by omega)⟩
   ·rw[c3];simp[a]
   ·exact c4
   ·intro h;simp at h
   ·intro h;simp at h
   ·intro _;exact c7 (by omega)
  ·have hc:=hl c
   have hi:(bF s k).ins=true:=c3.2 (.inr (.inr a))
   have hG:aX s k (bF s k)=⟨(bF s k).l,⟨(bF s k).x.name,(bF s k).x.word,(bF s k).x.args++[bt s k]⟩,true⟩:=by
    simp[aX,c,hi,show g s k≠61 by omega,show g s k≠63 by omega,show g s k≠40 by omega,show g s k≠41 by omega,show g s k≠59 by omega]
   constructor
   all_goals (simp only[hA,hG])
   ·exact c1
   ·exact⟨c2.1,fun _=>c2.2 (by omega)⟩
   ·simp
   ·exact c4
   ·intro h;simp at h
   ·intro h;simp at h
   ·intro _;exact c7 (by omega)
  ·have hG:aX s k (bF s k)=⟨(bF s k).l++[(bF s k).x],⟨0,[],[]⟩,(bF s k).ins⟩:=by simp[aX,c]
   have FT:=c2.2 (by omega)
   constructor
   all_goals (simp only[hA,hG])
   ·simp[c1]
   ·exact⟨by omega,fun h=>absurd rfl h⟩
   ·rw[c3];simp[a]
   ·intro z hz
    rcases List.mem_append.1 hz with hz | hz
    ·exact c4 z hz
    ·simp at hz;subst hz;exact c7 (by omega)
   ·intro h;simp at h
   ·intro h;simp at h
   ·intro h;simp at h
theorem zk {s:ByteArray} (h:Whole s):(bF s s.size).l.length<=16/\∀ y∈(bF s s.size).l,∃ i,Tq s i y.word:=by
 obtain⟨x,hx,-⟩:=h
 have hi:=Ye s s.size x (Nat.le_refl _) hx
 exact⟨by rw[hi.cnt];exact hi.n16.1,hi.old⟩
end Go.Proofs.YtmnfndpbblpjiabGreatDoor.Pu

/- Words on memory that all the walks share: which blocks a call may have turned, how a reader, a sentence lie. -/
import Derived.Test.YtmnfndpbblpjiabGreatDoorRows
import Derived.WalkSpells
import Derived.WalkLawsBesides
import Derived.Deep.QuietTactic
import Derived.BigQuiet
import Derived.Test.YtmnfndpbblpjiabGreatDoorZx01
set_option maxHeartbeats 4000000
set_option maxRecDepth 100000
namespace Go.Proofs.YtmnfndpbblpjiabGreatDoor
open Go.RowKit
structure Mod (p:Nat->Prop) (w w':World):Prop where
 os:w'.os=w.os
 tape:w'.tape=w.tape
 output:w'.output=w.output
 size:w.heap.size<=w'.heap.size
 block:∀ k,k < w.heap.size->¬ p k->w'.heap[k]?=w.heap[k]?
section
variable {p q:Nat->Prop} {a b c w:World}
theorem Mod.refl (p:Nat->Prop) (w:World):Mod p w w:=⟨rfl,rfl,rfl,Nat.le_refl _,fun _ _ _=>rfl⟩
theorem Mod.trans (h:Mod p a b) (k:Mod p b c):Mod p a c :=
 ⟨k.os.trans h.os,k.tape.trans h.tape,k.output.trans h.output,Nat.le_trans h.size k.size,fun i hi hp=>(k.block i (Nat.lt_of_lt_of_le hi h.size) hp).trans (h.block i hi hp)⟩
theorem Mod.mono (h:Mod p a b) (hp:∀ k,k < a.heap.size->p k->q k):Mod q a b:=⟨h.os,h.tape,h.output,h.size,fun k hk hn=>h.block k hk fun hh=>hn (hp k hk hh)⟩
theorem Mod.drewN (h:Mod p a b) (n:Nat):Mod p a (b.drewN n):=⟨h.os,h.tape,h.output,by simpa using h.size,fun k hk hp=>h.block k hk hp⟩
theorem Mod.drew (h:Mod p a b):Mod p a b.drew:=⟨h.os,h.tape,h.output,h.size,h.block⟩
theorem Mod.alloc (h:Mod p a b) (o:Obj):Mod p a (b.alloc o) :=
 ⟨h.os,h.tape,h.output,by have:=h.size;simp;omega,fun k hk hp=>(Below.heap_alloc _ _ _ (Nat.lt_of_lt_of_le hk h.size)).trans (h.block k hk hp)⟩
theorem Mod.setCell (h:Mod p a b) (x:Addr) (v:Value) (hx:x.block < a.heap.size->p x.block):Mod p a (b.setCell x v):=by
 refine⟨h.os,h.tape,h.output,by simpa using h.size,fun k hk hp=>?_⟩
 rw[Below.heap_setCell _ _ _ _ (fun e=>hp (by rw[e];exact hx (by omega)))]
 exact h.block k hk hp
theorem Mod.grown {row:Option Nat} (h:Mod p a b) (hg:b.grownBy c row) (hr:∀ k,row=some k->k < a.heap.size->p k):Mod p a c :=
 ⟨hg.os.trans h.os,hg.tape.trans h.tape,hg.output.trans h.output,Nat.le_trans h.size hg.size,fun k hk hp=>(hg.block k (Nat.lt_of_lt_of_le hk h.size) (fun e=>hp (hr k e.symm hk))).trans (h.block k hk hp)⟩
theorem Mod.below (h:Mod (fun _=>False) a b):Below a.heap.size a b:=⟨h.os,h.tape,h.output,h.size,fun k hk=>h.block k hk (fun f=>f)⟩
theorem Mod.keep {o:Obj} {k:Nat} (h:Mod p a b) (hk:a.heap[k]?=some o) (hp:¬ p k):b.heap[k]?=some o :=
 (h.block k (lt_of_block hk) hp).trans hk
theorem Mod.same (n:Nat) (p:Nat->Prop) (w:World):Mod p w (w.drewN n):=(Mod.refl p w).drewN n
end
abbrev S (l:List UInt8):Value:=.string ⟨l.toArray⟩
def Rd (w:World) (rb:Nat) (s:ByteArray) (k:Nat):Prop:=w.heap[rb]?=some (.cells #[.string s,.int .i64 k] 118 (0,0))
def Se (w:World) (sb:Nat) (n:Nat) (wd:List UInt8) (av:Value) (wt:Int):Prop:=w.heap[sb]?=some (.cells #[.int .u8 n,S wd,av,.int .i64 wt] 72 (0,0))
section
variable {w:World} {rb sb k n:Nat} {s:ByteArray} {wd:List UInt8} {av:Value} {wt:Int}
theorem Rd.c0 (h:Rd w rb s k):w.cell? ⟨rb,0,none⟩=some (.string s):=by unfold Rd at h;simp[World.cell?,h]
theorem Rd.c1 (h:Rd w rb s k):w.cell? ⟨rb,1,none⟩=some (.int .i64 k):=by unfold Rd at h;simp[World.cell?,h]
theorem Rd.f1 (h:Rd w rb s k):w.frozen? ⟨rb,1,none⟩=false:=by unfold Rd at h;simp[World.frozen?,h]
theorem Rd.lt (h:Rd w rb s k):rb < w.heap.size:=lt_of_block h
theorem Rd.set (h:Rd w rb s k) (j:Nat):Rd (w.setCell ⟨rb,1,none⟩ (.int .i64 j)) rb s j:=by
 unfold Rd at *
 simp[World.setCell,Array.getElem?_modify,h]
theorem Rd.drewN (h:Rd w rb s k) (j:Nat):Rd (w.drewN j) rb s k:=by unfold Rd at *;simpa using h
theorem Rd.keep {p:Nat->Prop} {w':World} (h:Rd w rb s k) (hm:Mod p w w') (hp:¬ p rb):Rd w' rb s k:=hm.keep h hp
theorem Se.lt (h:Se w sb n wd av wt):sb < w.heap.size:=lt_of_block h
theorem Se.ne (h:Se w sb n wd av wt) (k:Rd w rb s k):rb≠sb:=by
 intro e;subst e;unfold Se at h;unfold Rd at k;rw[h]at k;simp at k
theorem Se.c0 (h:Se w sb n wd av wt):w.cell? ⟨sb,0,none⟩=some (.int .u8 n):=by unfold Se at h;simp[World.cell?,h]
theorem Se.c1 (h:Se w sb n wd av wt):w.cell? ⟨sb,1,none⟩=some (S wd):=by unfold Se at h;simp[World.cell?,h]
theorem Se.c2 (h:Se w sb n wd av wt):w.cell? ⟨sb,2,none⟩=some av:=by unfold Se at h;simp[World.cell?,h]
theorem Se.c3 (h:Se w sb n wd av wt):w.cell? ⟨sb,3,none⟩=some (.int .i64 wt):=by unfold Se at h;simp[World.cell?,h]
theorem Se.fz (h:Se w sb n wd av wt) (i:Nat):w.frozen? ⟨sb,i,none⟩=false:=by unfold Se at h;simp[World.frozen?,h]
theorem Se.set0 (h:Se w sb n wd av wt) (j:Nat):Se (w.setCell ⟨sb,0,none⟩ (.int .u8 j)) sb j wd av wt:=by unfold Se at *;simp[World.setCell,Array.getElem?_modify,h]
theorem Se.set1 (h:Se w sb n wd av wt) (j:List UInt8):Se (w.setCell ⟨sb,1,none⟩ (S j)) sb n j av wt:=by unfold Se at *;simp[World.setCell,Array.getElem?_modify,h]
theorem Se.set2 (h:Se w sb n wd av wt) (j:Value):Se (w.setCell ⟨sb,2,none⟩ j) sb n wd j wt:=by unfold Se at *;simp[World.setCell,Array.getElem?_modify,h]
theorem Se.gL (h:Se w sb n wd av wt) (j:Int):Se (w.setCell ⟨sb,3,none⟩ (.int .i64 j)) sb n wd av j:=by unfold Se at *;simp[World.setCell,Array.getElem?_modify,h]
theorem Se.drewN (h:Se w sb n wd av wt) (j:Nat):Se (w.drewN j) sb n wd av wt:=by unfold Se at *;simpa using h
theorem Se.keep {p:Nat->Prop} {w':World} (h:Se w sb n wd av wt) (hm:Mod p w w') (hp:¬ p sb):Se w' sb n wd av wt:=hm.keep h hp
end
theorem bN {c m:Nat} (h:c=m):((c:Int) == (m:Int))=true:=by subst h;simp
theorem aF {c m:Nat} (h:¬ c=m):((c:Int) == (m:Int))=false:=by
 rw[beq_eq_false_iff_ne];omega
def bvs (l:List UInt8):List Value:=l.map fun c=>.int .u8 (c.toNat:Int)
theorem rQ (l:List UInt8) (c:UInt8):bvs l++[.int .u8 (c.toNat:Int)]=bvs (l++[c]):=by simp[bvs]
def sliceLen:Value->Nat
 | .slice _ n _=>n
 | _=>0
section
variable {w w':World} {base:Nat} {e:TypeId} {size:Nat} {v:Value} {n:Nat} {xs:List Value}
theorem aj (h:w.ownsRow base e size v n xs):∃ ao cap,v=.slice ao n cap/\(ao=none->n=0/\cap=0):=by
 obtain⟨_,⟨rfl,rfl⟩ | ⟨g,cap,cur,rfl,_⟩⟩:=h
 ·exact⟨none,0,rfl,fun _=>⟨rfl,rfl⟩⟩
 ·exact⟨_,cap,rfl,fun h=>by cases h⟩
theorem au {p:Nat->Prop} (h:w.ownsRow base e size v n xs) (hm:Mod p w w') (hp:∀ g,base<=g->p g->False):w'.ownsRow base e size v n xs:=by
 obtain⟨hl,⟨rfl,rfl⟩ | ⟨g,cap,cur,rfl,hb,hg,h1,h2,h3,h4⟩⟩:=h
 ·exact⟨hl,.inl ⟨rfl,rfl⟩⟩
 ·exact⟨hl,.inr ⟨g,cap,cur,rfl,hb,hm.keep hg (hp g hb),h1,h2,h3,h4⟩⟩
theorem dW {p:Nat->Prop} (h:w.ownsRow base e size v n xs) (hm:Mod p w w') (hp:∀ g,v.ownBlock=some g->p g->False):w'.ownsRow base e size v n xs:=by
 obtain⟨hl,⟨rfl,rfl⟩ | ⟨g,cap,cur,rfl,hb,hg,h1,h2,h3,h4⟩⟩:=h
 ·exact⟨hl,.inl ⟨rfl,rfl⟩⟩
 ·exact⟨hl,.inr ⟨g,cap,cur,rfl,hb,hm.keep hg (hp g rfl),h1,h2,h3,h4⟩⟩
theorem AX (h:w.ownsRow base e size v n xs) (j:Nat):(w.drewN j).ownsRow base e size v n xs:=au h (Mod.same j (fun _=>False) w) (fun _ _ f=>f)
theorem bI {base':Nat} (h:w.ownsRow base e size v n xs) (hb:base'<=base):w.ownsRow base' e size v n xs:=by
 obtain⟨hl,⟨rfl,rfl⟩ | ⟨g,cap,cur,rfl,hb',hg⟩⟩:=h
 ·exact⟨hl,.inl ⟨rfl,rfl⟩⟩
 ·exact⟨hl,.inr ⟨g,cap,cur,rfl,by omega,hg⟩⟩
theorem iM {ao:Option Addr} {cap:Nat} (h:w.ownsRow base e size (.slice ao n cap) n xs) {j:Nat} (hj:j < n*size):∃ gb,ao=some ⟨gb,0,none⟩/\w.cell? ⟨gb,j,none⟩=xs[j]?:=by
 have h':=h
 obtain⟨hl,⟨he,rfl⟩ | ⟨gb,cap',cur,he,hb',hg⟩⟩:=h
 ·simp at hj
 ·cases he
  exact⟨gb,rfl,h'.cellAt j hj⟩
theorem jG {P:Program} {src dst:TypeId} {l:List UInt8} (h:w.ownsRow base e 1 v n (bvs l)) (hn:n=l.length) (hs:P.underlying src=some (.slice e)) (he:P.underlying e=some (.int .u8)) (hd:P.underlying dst=some .string) :
  (convert src dst v).run P w=.ok (S l) w:=by
 subst hn
 have h':=h
 obtain⟨hl,⟨rfl,h0⟩ | ⟨gb,cap,cur,rfl,hb',hg⟩⟩:=h
 ·have:l=[]:=List.eq_nil_of_length_eq_zero h0
  subst this
  exact run_convert_bytes_nil w src e hs he 0 0 dst hd
 ·refine run_convert_bytes_back w src dst e _ cap l hs he hd fun j hj=>?_
  have hc:=h'.cellAt j (by omega)
  have ha:(⟨gb,0,none⟩:Addr).add j=⟨gb,j,none⟩:=by
   unfold Addr.add
   by_cases h0:j=0
   ·subst h0;simp
   ·simp[h0]
  rw[ha,hc]
  simp[bvs,hj]
end
end Go.Proofs.YtmnfndpbblpjiabGreatDoor

/- The reader's small steps: peek, take, takeLetter. -/
namespace Go.Proofs.YtmnfndpbblpjiabGreatDoor
set_option linter.unusedVariables false
open Go.RowKit Pu
theorem nT (rb:Nat) (s:ByteArray) (k:Nat) (w:World) (hs:s.size<=300) (hk:k<=s.size) (hr:Rd w rb s k) :
  Calls Tryz.prog 138 #[.pointer (some ⟨rb,0,none⟩)] w fun e w'=>e=.returned (.int .u8 (g s k))/\∃ n,w'=w.drewN n:=by
 have h0:=hr.c0
 have h1:=hr.c1
 clear hr
 have hg:decide ((k:Int) < 0)=false:=by simp
 by_cases hlt:k < s.size
 ·have HG:Hid (s[k].toNat=g s k):=(dB hlt).symm
  go_in
  go_wp2
  go_quiet (fail)
  go_wp2
  go_quiet (fail)
  go_wp2
  go_ret
  exact⟨by rw[<- HG.out];rfl,_,World.drewN_drewN ..⟩
 ·have HG:Hid (g s k=0):=FQ (by omega)
  go_in
  go_wp2
  go_quiet (fail)
  go_wp2
  go_ret
  exact⟨by rw[HG.out];rfl,_,rfl⟩
theorem ji (rb:Nat) (s:ByteArray) (k c:Nat) (w:World) (hs:s.size<=300) (hk:k<=s.size) (hr:Rd w rb s k) (hc0:0 < c) (hc:g s k=c) :
  Calls Tryz.prog 96 #[.pointer (some ⟨rb,0,none⟩),.int .u8 c] w fun e w'=>e=.returned (.bool true)/\Rd w' rb s (k+1)/\k+1<=s.size/\Mod (fun i=>i=rb) w w':=by
 have hlt:k < s.size:=Ec (by omega)
 have h1:=hr.c1
 have hf:=hr.f1
 have hb:((g s k:Int) != (c:Int))=false:=by simp[hc]
 have HC:Hid (g s k=c):=hc
 clear hc
 go_in
 go_wp2_with (go_at_call 138;refine (nT rb s k _ hs hk hr).mono ?_;rintro e w' ⟨rfl,n,rfl⟩)
 go_ret
 exact⟨rfl,by have:=(hr.drewN n).set (k+1);simpa using this,hlt,(Mod.same n _ w).setCell _ _ (fun _=>rfl)⟩
theorem jB (rb:Nat) (s:ByteArray) (k c:Nat) (w:World) (hs:s.size<=300) (hk:k<=s.size) (hr:Rd w rb s k) (hc:g s k≠c) :
  Calls Tryz.prog 96 #[.pointer (some ⟨rb,0,none⟩),.int .u8 c] w fun e w'=>e=.returned (.bool false)/\Rd w' rb s k/\Mod (fun i=>i=rb) w w':=by
 have hb:((g s k:Int) != (c:Int))=true:=by simp;omega
 go_in
 go_wp2_with (go_at_call 138;refine (nT rb s k _ hs hk hr).mono ?_;rintro e w' ⟨rfl,n,rfl⟩)
 go_ret
 exact⟨rfl,hr.drewN n,Mod.same n _ w⟩
theorem qL (rb:Nat) (s:ByteArray) (k:Nat) (w:World) (hs:s.size<=300) (hk:k<=s.size) (hr:Rd w rb s k) (hc:gU (g s k)=true) :
  Calls Tryz.prog 173 #[.pointer (some ⟨rb,0,none⟩)] w fun e w'=>e=.returned (.int .u8 (g s k))/\Rd w' rb s (k+1)/\k+1<=s.size/\Mod (fun i=>i=rb) w w':=by
 obtain⟨ha,hz⟩:=(jM _).1 hc
 have hlt:k < s.size:=Ec (by omega)
 have h1:=hr.c1
 have hf:=hr.f1
 clear hc
 go_in
 go_wp2_with (go_at_call 138;refine (nT rb s k _ hs hk hr).mono ?_;rintro e w' ⟨rfl,n,rfl⟩)
 go_ret
 exact⟨rfl,by have:=(hr.drewN n).set (k+1);simpa using this,hlt,(Mod.same n _ w).setCell _ _ (fun _=>rfl)⟩
theorem xZ (rb:Nat) (s:ByteArray) (k:Nat) (w:World) (hs:s.size<=300) (hk:k<=s.size) (hr:Rd w rb s k) (hc:gU (g s k)=false) :
  Calls Tryz.prog 173 #[.pointer (some ⟨rb,0,none⟩)] w fun e w'=>e=.returned (.int .u8 0)/\Rd w' rb s k/\Mod (fun i=>i=rb) w w':=by
 have hl:¬ (97<=g s k/\g s k<=122):=fun h=>by rw[(jM _).2 h]at hc;cases hc
 clear hc
 by_cases h9:g s k < 97
 all_goals
  go_in
  go_wp2_with (go_at_call 138;refine (nT rb s k _ hs hk hr).mono ?_;rintro e w' ⟨rfl,n,rfl⟩)
  go_ret
  exact⟨rfl,hr.drewN n,Mod.same n _ w⟩
end Go.Proofs.YtmnfndpbblpjiabGreatDoor

/- readHead: a name and the sign of equality, or the sign of a question. -/
namespace Go.Proofs.YtmnfndpbblpjiabGreatDoor
open Go.RowKit Pu
def jZ:Value:=.slice none 0 0
theorem Qk (rb sb:Nat) (s:ByteArray) (k n le ar:Nat) (l:List St) (w:World) (hs:s.size<=300) (hk:k < s.size) (hr:Rd w rb s k) (hS:Se w sb 0 [] jZ 0)
  (hA:At s k 0 n le ar l ⟨0,[],[]⟩ false) (hn:n≠16) :
  Calls Tryz.prog 117 #[.pointer (some ⟨rb,0,none⟩),.pointer (some ⟨sb,0,none⟩)] w fun e w'=>Mod (fun i=>i=rb\/i=sb) w w'/\∃ k',k'<=s.size/\Rd w' rb s k' /\
   ((e=.returned (.bool true)/\∃ nm,At s k' 2 n le ar l ⟨nm,[],[]⟩ false/\Se w' sb nm [] jZ 0)\/(e=.returned (.bool false)/\Stuck s k')):=by
 have hne:=hS.ne hr
 by_cases h63:g s k=63
 ·have HA:Hid (At s k 0 n le ar l ⟨0,[],[]⟩ false):=hA;have HS:Hid (Se w sb 0 [] jZ 0):=hS;clear hA hS
  have H63:Hid (g s k=63):=h63
  clear h63
  go_in
  go_wp2_with fail
  refine (ji rb s k 63 _ hs (by omega) hr (by omega) H63.out).mono ?_
  rintro e w1 ⟨rfl,hr1,hk1,hm1⟩
  go_wp2
  go_ret
  exact⟨hm1.mono (fun _ _ h=>.inl h),k+1,hk1,hr1,.inl ⟨rfl,0,XH HA.out hn H63.out,HS.out.keep hm1 (fun h=>hne h.symm)⟩⟩
 ·have HA:Hid (At s k 0 n le ar l ⟨0,[],[]⟩ false):=hA;have HS:Hid (Se w sb 0 [] jZ 0):=hS;clear hA hS
  by_cases hL:gU (g s k)=true
  ·have hl:=(jM _).1 hL
   by_cases Yg:g s (k+1)=61
   ·have H61:Hid (g s (k+1)=61):=Yg
    clear Yg
    have HL:Hid (gU (g s k)=true):=hL
    clear hL
    go_in
    go_wp2_with fail
    refine (jB rb s k 63 _ hs (by omega) hr h63).mono ?_
    rintro e w1 ⟨rfl,hr1,hm1⟩
    go_wp2_with fail
    refine (qL rb s k _ hs (by omega) hr1 HL.out).mono ?_
    rintro e w2 ⟨rfl,hr2,hk2,hm2⟩
    have hS2:=(HS.out.keep hm1 (fun h=>hne h.symm)).keep hm2 (fun h=>hne h.symm)
    have cc:=hS2.c0
    have cf:=hS2.fz 0
    have hz:((g s k:Int) == 0)=false:=by simp;omega
    go_wp2_with fail
    have uD:=hS2.set0 (g s k)
    have aC:Mod (fun i=>i=rb\/i=sb) w (w2.setCell ⟨sb,0,none⟩ (.int .u8 (g s k))):=((hm1.trans hm2).mono (fun _ _ h=>.inl h)).setCell _ _ (fun _=>.inr rfl)
    have hr3:Rd (w2.setCell ⟨sb,0,none⟩ (.int .u8 (g s k))) rb s (k+1):=hr2.keep ((Mod.refl (fun i=>i=sb) w2).setCell _ _ (fun _=>rfl)) hne
    clear cc cf hS2
    refine (ji rb s (k+1) 61 _ hs (by omega) hr3 (by omega) H61.out).mono ?_
    rintro e w4 ⟨rfl,hr4,hk4,aO⟩
    go_wp2
    go_ret
    exact⟨aC.trans (aO.mono (fun _ _ h=>.inl h)),k+2,hk4,hr4,.inl ⟨rfl,g s k,by have:=Pf (KQ HA.out hn HL.out) H61.out;simpa using this,uD.keep aO (fun h=>hne h.symm)⟩⟩
   ·have HL:Hid (gU (g s k)=true):=hL
    clear hL
    go_in
    go_wp2_with fail
    refine (jB rb s k 63 _ hs (by omega) hr h63).mono ?_
    rintro e w1 ⟨rfl,hr1,hm1⟩
    go_wp2_with fail
    refine (qL rb s k _ hs (by omega) hr1 HL.out).mono ?_
    rintro e w2 ⟨rfl,hr2,hk2,hm2⟩
    have hS2:=(HS.out.keep hm1 (fun h=>hne h.symm)).keep hm2 (fun h=>hne h.symm)
    have cc:=hS2.c0
    have cf:=hS2.fz 0
    have hz:((g s k:Int) == 0)=false:=by simp;omega
    go_wp2_with fail
    have aC:Mod (fun i=>i=rb\/i=sb) w (w2.setCell ⟨sb,0,none⟩ (.int .u8 (g s k))):=((hm1.trans hm2).mono (fun _ _ h=>.inl h)).setCell _ _ (fun _=>.inr rfl)
    have hr3:Rd (w2.setCell ⟨sb,0,none⟩ (.int .u8 (g s k))) rb s (k+1):=hr2.keep ((Mod.refl (fun i=>i=sb) w2).setCell _ _ (fun _=>rfl)) hne
    clear cc cf hS2
    refine (jB rb s (k+1) 61 _ hs (by omega) hr3 Yg).mono ?_
    rintro e w4 ⟨rfl,hr4,aO⟩
    go_wp2
    go_ret
    exact⟨aC.trans (aO.mono (fun _ _ h=>.inl h)),k+1,hk2,hr4,.inr ⟨rfl,jJ (KQ HA.out hn HL.out) hk2 (.inl (by omega)) (by simp[nx,Yg])⟩⟩
  ·have hL':gU (g s k)=false:=by simpa using hL
   have HL:Hid (gU (g s k)=false):=hL'
   clear hL hL'
   go_in
   go_wp2_with fail
   refine (jB rb s k 63 _ hs (by omega) hr h63).mono ?_
   rintro e w1 ⟨rfl,hr1,hm1⟩
   go_wp2_with fail
   refine (xZ rb s k _ hs (by omega) hr1 HL.out).mono ?_
   rintro e w2 ⟨rfl,hr2,hm2⟩
   have hS2:=(HS.out.keep hm1 (fun h=>hne h.symm)).keep hm2 (fun h=>hne h.symm)
   have cc:=hS2.c0
   have cf:=hS2.fz 0
   go_wp2
   go_ret
   exact⟨((hm1.trans hm2).mono (fun _ _ h=>.inl h)).setCell _ _ (fun _=>.inr rfl),k,by omega,hr2.keep ((Mod.refl (fun i=>i=sb) w2).setCell _ _ (fun _=>rfl)) hne,
    .inr ⟨rfl,jJ HA.out (by omega) (.inr hk) (by simp[nx,hn,h63,HL.out])⟩⟩
theorem Tryz.info5:(Tryz.prog.info? 5).map (fun i=>(i.zero,i.size,i.bytes))=some (some (.int .u8 0),1,1):=by kernel_rfl
def Z0 (s:ByteArray) (k n le ar:Nat) (l:List St) (nm:Nat) (wd:List UInt8):Prop :=
 (wd=[]/\At s k 2 n le ar l ⟨nm,[],[]⟩ false)\/(wd≠[]/\At s k 3 n wd.length ar l ⟨nm,wd,[]⟩ false)
theorem Z0.step {s:ByteArray} {k n le ar:Nat} {l:List St} {nm:Nat} {wd:List UInt8} (h:Z0 s k n le ar l nm wd) (hl:wd.length < 6) (hc:gU (g s k)=true):Z0 s (k+1) n le ar l nm (wd++[bt s k]):=by
 rcases h with ⟨rfl,h⟩ | ⟨hn,h⟩
 ·exact .inr ⟨by simp,by simpa using Pg h hc⟩
 ·exact .inr ⟨by simp,by simpa using Uh h hl hc⟩
theorem Iq {s:ByteArray} {k n le ar:Nat} {l:List St} {nm sb:Nat} {wd:List UInt8} {w:World} {b:Bool} (h:Z0 s k n le ar l nm wd) (hk:k<=s.size) (hS:Se w sb nm wd jZ 0) (h6:wd.length=6\/gU (g s k)=false)
  (hb:b=decide (0 < wd.length):=by rfl) :
  (Ending.returned (.bool b)=.returned (.bool true)/\∃ wd le',At s k 3 n le' ar l ⟨nm,wd,[]⟩ false/\Se w sb nm wd jZ 0/\(le'=6\/gU (g s k)=false))\/(Ending.returned (.bool b)=.returned (.bool false)/\Stuck s k):=by
 subst hb
 rcases h with ⟨rfl,h⟩ | ⟨hn,h⟩
 ·refine .inr ⟨by simp,jJ h hk (.inl (by omega)) ?_⟩
  rcases h6 with h6 | h6
  ·simp at h6
  ·simp[nx,h6]
 ·refine .inl ⟨?_,wd,wd.length,h,hS,h6⟩
  have:0 < wd.length:=List.length_pos_iff.2 hn
  simp[this]
theorem Tk (rb sb:Nat) (s:ByteArray) (k n le ar:Nat) (l:List St) (nm:Nat) (w:World) (hs:s.size<=300) (hk:k<=s.size) (hr:Rd w rb s k) (hS:Se w sb nm [] jZ 0)
  (hA:At s k 2 n le ar l ⟨nm,[],[]⟩ false) :
  Calls Tryz.prog 118 #[.pointer (some ⟨rb,0,none⟩),.pointer (some ⟨sb,0,none⟩)] w fun e w'=>Mod (fun i=>i=rb\/i=sb) w w'/\∃ k',k'<=s.size/\Rd w' rb s k' /\
   ((e=.returned (.bool true)/\∃ wd le',At s k' 3 n le' ar l ⟨nm,wd,[]⟩ false/\Se w' sb nm wd jZ 0/\(le'=6\/gU (g s k')=false))\/(e=.returned (.bool false)/\Stuck s k')):=by
 have hne:=hS.ne hr
 have hrl:=hr.lt
 have hsl:=hS.lt
 obtain⟨i0,hi,hz0,hz1,hz2⟩:=info_parts Tryz.info5
 go_in
 go_wp2
 go_loopw [5] (fun v wr=>∃ (k':Nat) (wd:List UInt8),wd.length<=6/\wr.ownsRow w.heap.size 5 1 v wd.length (bvs wd)/\Rd wr rb s k'/\Z0 s k' n le ar l nm wd/\Se wr sb nm [] jZ 0/\Mod (fun i=>i=rb\/i=sb) w wr/\k'<=s.size)
  (fun v _=>6 - sliceLen v)
 case atStart=>exact⟨k,[],by simp,World.ownsRow_nil _ _ _ _,hr,.inl ⟨rfl,hA⟩,hS,Mod.refl _ _,hk⟩
 case round =>
  obtain⟨k',wd,hlen,hown,hr',hW,hS',hm,hk'⟩:=hrel
  obtain⟨ao,cap,rfl,-⟩:=aj hown
  have hsz:=hm.size
  by_cases hl6:wd.length < 6
  ·by_cases hL:gU (g s k')=true
   ·have hc:=(jM _).1 hL
    have HL:Hid (gU (g s k')=true):=hL
    clear hL hS hr
    go_wp2_with fail
    refine (qL rb s k' _ hs hk' hr' HL.out).mono ?_
    rintro e w2 ⟨rfl,hr2,hk2,hm2⟩
    have hown2:=au hown hm2 (fun q hq he=>by omega)
    have hS2:=hS'.keep hm2 (fun h=>hne h.symm)
    have aC:=hm.trans (hm2.mono (q:=fun i=>i=rb\/i=sb) (fun _ _ h=>.inl h))
    have YD:=aC.size
    clear hown hr' hS' hm hm2
    go_wp2_with (at_builtin;refine wpList_append_own _ rfl _ _ 70 rfl w.heap.size 5 i0 (.int .u8 0) 1 1 Tryz.underlying70 hi hz0 hz1 hz2 rfl (by decide) _ _ _ rfl (hown2.alloc _) ⟨w2.heap.size,0,none⟩ 1 1 [.int .u8 (g s k')] rfl rfl ?c1 ?c2 ?c3 ?c4 ?c5 ?_)
    case c1=>exact cell_one_new _ _ _
    case c2=>intro u hu;simp at hu;subst hu;rfl
    case c3=>unfold maxLen;omega
    case c4=>omega
    case c5=>simp;omega
    intro v' w4 aG hgrow _
    have hW':=hW.step hl6 HL.out
    have jH:=(aC.alloc _).grown hgrow (fun q hq hlt=>by have:=(hown2.lt q hq).1;omega)
    have hg2:Mod (fun q=>w.heap.size<=q) w2 w4:=((Mod.refl _ w2).alloc _).grown hgrow (fun q hq _=>(hown2.lt q hq).1)
    have hr4:=hr2.keep hg2 (by omega)
    have xP:=hS2.keep hg2 (by omega)
    have hown5:w4.ownsRow w.heap.size 5 1 v' (wd++[bt s k']).length (bvs (wd++[bt s k'])):=by rw[<- rQ,List.length_append];exact aG
    obtain⟨O6,cap',rfl,-⟩:=aj aG
    clear aG hgrow hown2 hr2 hS2 aC hg2 hW
    go_wp2
    go_roundw
    case rel=>exact⟨k'+1,wd++[bt s k'],by simp;omega,hown5,hr4,hW',xP,jH,hk2⟩
    case measure=>simp[sliceLen];omega
   ·have HL:Hid (gU (g s k')=false):=show gU (g s k')=false by simpa using hL
    clear hL hS hr
    go_wp2_with fail
    refine (xZ rb s k' _ hs hk' hr' HL.out).mono ?_
    rintro e w2 ⟨rfl,hr2,hm2⟩
    have hown2:=au hown hm2 (fun q hq he=>by omega)
    have hS2:=hS'.keep hm2 (fun h=>hne h.symm)
    have aC:=hm.trans (hm2.mono (q:=fun i=>i=rb\/i=sb) (fun _ _ h=>.inl h))
    have aaI:=jG (P:=Tryz.prog) (src:=70) (dst:=9) hown2 rfl Tryz.underlying70 Tryz.underlying5 Tryz.underlying9
    have cc:=hS2.c1
    have cf:=hS2.fz 1
    clear hown hr' hS' hm hm2 hown2
    go_wp2
    go_ret
    refine⟨aC.setCell _ _ (fun _=>.inr rfl),k',hk',hr2.keep ((Mod.refl (fun i=>i=sb) w2).setCell _ _ (fun _=>rfl)) hne,?_⟩
    exact Iq hW hk' (hS2.set1 wd) (.inr HL.out)
  ·clear hS hr
   have aaI:=jG (P:=Tryz.prog) (src:=70) (dst:=9) hown rfl Tryz.underlying70 Tryz.underlying5 Tryz.underlying9
   have cc:=hS'.c1
   have cf:=hS'.fz 1
   go_wp2
   go_ret
   refine⟨hm.setCell _ _ (fun _=>.inr rfl),k',hk',hr'.keep ((Mod.refl (fun i=>i=sb) wr).setCell _ _ (fun _=>rfl)) hne,?_⟩
   exact Iq hW hk' (hS'.set1 wd) (.inl (by omega))
def Zo (s:ByteArray) (k n le:Nat) (l:List St) (nm:Nat) (wd ag:List UInt8):Prop :=
 (ag=[]/\At s k 4 n le 0 l ⟨nm,wd,[]⟩ true/\g s k≠41)\/(ag≠[]/\At s k 6 n le ag.length l ⟨nm,wd,ag⟩ true)
theorem Zo.step {s:ByteArray} {k n le:Nat} {l:List St} {nm:Nat} {wd ag:List UInt8} (h:Zo s k n le l nm wd ag) (hc:gU (g s k)=true):At s (k+1) 5 n le (ag++[bt s k]).length l ⟨nm,wd,ag++[bt s k]⟩ true:=by
 rcases h with ⟨rfl,h,_⟩ | ⟨hn,h⟩
 ·simpa using O9 (.inl h) hc
 ·simpa using O9 (.inr h) hc
theorem Zo.stuck {s:ByteArray} {k n le:Nat} {l:List St} {nm:Nat} {wd ag:List UInt8} (h:Zo s k n le l nm wd ag) (hk:k<=s.size) (hc:gU (g s k)=false):Stuck s k:=by
 rcases h with ⟨rfl,h,zn⟩ | ⟨hn,h⟩
 ·exact jJ h hk (.inl (by omega)) (by simp[nx,hc,zn])
 ·exact jJ h hk (.inl (by omega)) (by simp[nx,hc])
def Aq (w:World) (sb:Nat):Nat:=sliceLen ((w.cell? ⟨sb,2,none⟩).getD undef)
theorem Se.Aq {w:World} {sb n:Nat} {wd:List UInt8} {av:Value} {wt:Int} (h:Se w sb n wd av wt):Aq w sb=sliceLen av:=by unfold Go.Proofs.YtmnfndpbblpjiabGreatDoor.Aq;rw[h.c2];rfl
def TH (rb sb B:Nat) (s:ByteArray) (n:Nat) (l:List St) (nm:Nat) (wd:List UInt8) (e:Ending) (w':World):Prop:=∃ k',k'<=s.size/\Rd w' rb s k' /\
   ((e=.returned (.bool true)/\∃ ag av le' ar',At s k' 7 n le' ar' l ⟨nm,wd,ag⟩ false/\Se w' sb nm wd av 0/\w'.ownsRow B 5 1 av ag.length (bvs ag))\/(e=.returned (.bool false)/\Stuck s k'))
theorem O7 (rb sb:Nat) (s:ByteArray) (k n le ar:Nat) (l:List St) (nm:Nat) (wd:List UInt8) (w:World) (hs:s.size<=300) (hk:k<=s.size) (hr:Rd w rb s k) (hS:Se w sb nm wd jZ 0)
  (hA:At s k 3 n le ar l ⟨nm,wd,[]⟩ false) (h6:le=6\/gU (g s k)=false) :
  Calls Tryz.prog 119 #[.pointer (some ⟨rb,0,none⟩),.pointer (some ⟨sb,0,none⟩)] w fun e w'=>Mod (fun i=>i=rb\/i=sb) w w'/\TH rb sb w.heap.size s n l nm wd e w':=by
 have hne:=hS.ne hr
 have hrl:=hr.lt
 have hsl:=hS.lt
 obtain⟨i0,hi,hz0,hz1,hz2⟩:=info_parts Tryz.info5
 have H6:Hid (le=6\/gU (g s k)=false):=h6
 clear h6
 by_cases WO:g s k=40
 ·have UJ:=Uj hA WO
  have H40:Hid (g s k=40):=WO
  clear WO
  by_cases zn:g s (k+1)=41
  ·have Ww:Hid (g s (k+1)=41):=zn
   clear zn
   go_in
   go_wp2_with fail
   refine (ji rb s k 40 _ hs hk hr (by omega) H40.out).mono ?_
   rintro e w1 ⟨rfl,hr1,hk1,hm1⟩
   go_wp2_with fail
   refine (ji rb s (k+1) 41 _ hs hk1 hr1 (by omega) Ww.out).mono ?_
   rintro e w2 ⟨rfl,hr2,hk2,hm2⟩
   go_wp2
   go_ret
   exact⟨(hm1.trans hm2).mono (fun _ _ h=>.inl h),k+2,hk2,hr2,.inl ⟨rfl,[],jZ,_,_,Ui UJ Ww.out,(hS.keep hm1 (fun h=>hne h.symm)).keep hm2 (fun h=>hne h.symm),World.ownsRow_nil _ _ _ _⟩⟩
  ·go_in
   go_wp2_with fail
   refine (ji rb s k 40 _ hs hk hr (by omega) H40.out).mono ?_
   rintro e w1 ⟨rfl,hr1,hk1,hm1⟩
   go_wp2_with fail
   refine (jB rb s (k+1) 41 _ hs hk1 hr1 zn).mono ?_
   rintro e w2 ⟨rfl,hr2,hm2⟩
   have hS2:=(hS.keep hm1 (fun h=>hne h.symm)).keep hm2 (fun h=>hne h.symm)
   have uE:Mod (fun i=>i=rb\/i=sb) w w2:=(hm1.trans hm2).mono (fun _ _ h=>.inl h)
   have hAA:Zo s (k+1) n le l nm wd []:=.inl ⟨rfl,UJ,zn⟩
   clear hm1 hm2 hS hr hr1 zn UJ hA
   go_wp2
   go_loopw [5] (fun _ wr=>∃ (k':Nat) (ag:List UInt8) (av:Value),ag.length < 4/\wr.ownsRow w.heap.size 5 1 av ag.length (bvs ag)/\Rd wr rb s k'/\Zo s k' n le l nm wd ag/\Se wr sb nm wd av 0/\Mod (fun i=>i=rb\/i=sb) w wr/\k'<=s.size)
    (fun _ wr=>4 - Aq wr sb)
   case atStart=>exact⟨k+1,[],jZ,by simp,World.ownsRow_nil _ _ _ _,hr2,hAA,hS2,uE,hk1⟩
   case round =>
    clear hr2 hAA hS2 uE hk1
    obtain⟨k',ag,av,hlen,hown,hr',hW,hS',hm,hk'⟩:=hrel
    obtain⟨ao,cap,rfl,-⟩:=aj hown
    have hsz:=hm.size
    have HLen:Hid (Aq wr sb=ag.length):=hS'.Aq
    have cc:=hS'.c2
    by_cases hL:gU (g s k')=true
    ·have hc:=(jM _).1 hL
     have Zw:=hW.step hL
     have HL:Hid (gU (g s k')=true):=hL
     have hnz:((g s k':Int) == 0)=false:=by simp;omega
     clear hL hW
     go_wp2_with fail
     refine (qL rb s k' _ hs hk' hr' HL.out).mono ?_
     rintro e w3 ⟨rfl,hr3,hk3,aC⟩
     have hown3:=au hown aC (fun q hq he=>by omega)
     have uD:=hS'.keep aC (fun h=>hne h.symm)
     have aO:=hm.trans (aC.mono (q:=fun i=>i=rb\/i=sb) (fun _ _ h=>.inl h))
     have YD:=aO.size
     clear cc hown hr' hS' hm aC hsz
     have cc:=uD.c2
     go_wp2_with (at_builtin;refine wpList_append_own _ rfl _ _ 70 rfl w.heap.size 5 i0 (.int .u8 0) 1 1 Tryz.underlying70 hi hz0 hz1 hz2 rfl (by decide) _ _ _ rfl (hown3.alloc _) ⟨w3.heap.size,0,none⟩ 1 1 [.int .u8 (g s k')] rfl rfl ?c1 ?c2 ?c3 ?c4 ?c5 ?_)
     case c1=>exact cell_one_new _ _ _
     case c2=>intro u hu;simp at hu;subst hu;rfl
     case c3=>unfold maxLen;omega
     case c4=>omega
     case c5=>simp;omega
     intro v' w4 aG hgrow _
     have jH:=(aO.alloc _).grown hgrow (fun q hq hlt=>by have:=(hown3.lt q hq).1;omega)
     have hg2:Mod (fun q=>w.heap.size<=q) w3 w4:=((Mod.refl _ w3).alloc _).grown hgrow (fun q hq _=>(hown3.lt q hq).1)
     have hr4:=hr3.keep hg2 (by omega)
     have xP:=uD.keep hg2 (by omega)
     have hown5:w4.ownsRow w.heap.size 5 1 v' (ag++[bt s k']).length (bvs (ag++[bt s k'])):=by rw[<- rQ,List.length_append];exact aG
     obtain⟨O6,cap',rfl,-⟩:=aj aG
     clear cc aG hgrow hown3 hr3 uD aO hg2 YD
     have cc:=xP.c2
     have cf:=xP.fz 2
     generalize hv':Value.slice O6 (ag.length+1) cap'=v' at *
     have Yj:=xP.set2 v'
     have EZ:Mod (fun i=>i=sb) w4 (w4.setCell ⟨sb,2,none⟩ v'):=(Mod.refl (fun i=>i=sb) w4).setCell _ _ (fun _=>rfl)
     have UQ:=hr4.keep EZ hne
     have hown6:=au hown5 EZ (fun q hq he=>by omega)
     have uN:=jH.trans (EZ.mono (q:=fun i=>i=rb\/i=sb) (fun _ _ h=>.inr h))
     subst hv'
     clear EZ xP hr4 hown5 jH
     have hl3:ag.length<=3:=by omega
     by_cases h4:ag.length=3
     ·have H4:Hid (ag.length=3):=h4
      clear h4
      have h4:((ag.length:Int)+1 == 4)=true:=by have:=H4.out;simp;omega
      go_wp2_with fail
      by_cases zn:g s (k'+1)=41
      ·have Ww:Hid (g s (k'+1)=41):=zn
       clear zn
       refine (ji rb s (k'+1) 41 _ hs hk3 UQ (by omega) Ww.out).mono ?_
       rintro e w7 ⟨rfl,JD,hk7,xS⟩
       go_wp2
       go_ret
       exact⟨uN.trans (xS.mono (fun _ _ h=>.inl h)),k'+2,hk7,JD,.inl ⟨rfl,ag++[bt s k'],_,_,_,KR Zw Ww.out,Yj.keep xS (fun h=>hne h.symm),au hown6 xS (fun q hq he=>by omega)⟩⟩
      ·refine (jB rb s (k'+1) 41 _ hs hk3 UQ zn).mono ?_
       rintro e w7 ⟨rfl,JD,xS⟩
       go_wp2
       go_ret
       exact⟨uN.trans (xS.mono (fun _ _ h=>.inl h)),k'+1,hk3,JD,.inr ⟨rfl,jJ Zw hk3 (.inl (by omega)) (by have:=H4.out;simp[nx,zn];omega)⟩⟩
     ·have h4':((ag.length:Int)+1 == 4)=false:=by simp;omega
      go_wp2_with fail
      refine (nT rb s (k'+1) _ hs hk3 UQ).mono ?_
      rintro e w7 ⟨rfl,nq,rfl⟩
      generalize w4.setCell ⟨sb,2,none⟩ (Value.slice O6 (ag.length+1) cap')=w6 at *
      clear cc cf
      by_cases hcm:g s (k'+1)=44
      ·have hq:((g s (k'+1):Int) != 44)=false:=by simp;omega
       have HC:Hid (g s (k'+1)=44):=hcm
       have hA6:=Pb Zw (by simp;omega) hcm
       clear hcm Zw
       have hlt:k'+1 < s.size:=Ec (by have:=HC.out;omega)
       have h1:=UQ.c1
       have hf:=UQ.f1
       have hr8:=(UQ.drewN nq).set (k'+2)
       have hmR:Mod (fun i=>i=rb) w6 ((w6.drewN nq).setCell ⟨rb,1,none⟩ (.int .i64 (k'+2:Nat))):=(Mod.same nq _ w6).setCell _ _ (fun _=>rfl)
       have hS8:=Yj.keep hmR (fun h=>hne h.symm)
       have aaN:=au hown6 hmR (fun q hq he=>by omega)
       have WY:=uN.trans (hmR.mono (q:=fun i=>i=rb\/i=sb) (fun _ _ h=>.inl h))
       have acg:=hS8.Aq
       clear hmR Yj hown6 uN UQ
       have e2:((k':Int)+1+1)=((k'+2:Nat):Int):=by omega
       go_wp2
       go_roundw
       case rel=>exact⟨k'+2,ag++[bt s k'],_,by simp;omega,aaN,hr8,.inr ⟨by simp,hA6⟩,hS8,WY,hlt⟩
       case measure=>refine Nat.lt_of_le_of_lt (Nat.le_of_eq (congrArg (4 - ·) acg)) ?_;rw[HLen.out];simp[sliceLen];omega
      ·have hq:((g s (k'+1):Int) != 44)=true:=by simp;omega
       go_wp2_with fail
       by_cases zn:g s (k'+1)=41
       ·have Ww:Hid (g s (k'+1)=41):=zn
        clear zn
        refine (ji rb s (k'+1) 41 _ hs hk3 (UQ.drewN nq) (by omega) Ww.out).mono ?_
        rintro e w7 ⟨rfl,JD,hk7,xS⟩
        go_wp2
        go_ret
        exact⟨(uN.drewN nq).trans (xS.mono (fun _ _ h=>.inl h)),k'+2,hk7,JD,.inl ⟨rfl,ag++[bt s k'],_,_,_,KR Zw Ww.out,(Yj.drewN nq).keep xS (fun h=>hne h.symm),au (AX hown6 nq) xS (fun q hq he=>by omega)⟩⟩
       ·refine (jB rb s (k'+1) 41 _ hs hk3 (UQ.drewN nq) zn).mono ?_
        rintro e w7 ⟨rfl,JD,xS⟩
        go_wp2
        go_ret
        exact⟨(uN.drewN nq).trans (xS.mono (fun _ _ h=>.inl h)),k'+1,hk3,JD,.inr ⟨rfl,jJ Zw hk3 (.inl (by omega)) (by simp[nx,zn,hcm])⟩⟩
    ·have HL:Hid (gU (g s k')=false):=show gU (g s k')=false by simpa using hL
     clear hL
     go_wp2_with fail
     refine (xZ rb s k' _ hs hk' hr' HL.out).mono ?_
     rintro e w3 ⟨rfl,hr3,aC⟩
     go_wp2
     go_ret
     exact⟨hm.trans (aC.mono (fun _ _ h=>.inl h)),k',hk',hr3,.inr ⟨rfl,hW.stuck hk' HL.out⟩⟩
 ·go_in
  go_wp2_with fail
  refine (jB rb s k 40 _ hs hk hr WO).mono ?_
  rintro e w1 ⟨rfl,hr1,hm1⟩
  go_wp2
  go_ret
  exact⟨hm1.mono (fun _ _ h=>.inl h),k,hk,hr1,.inr ⟨rfl,jJ hA hk (.inl (by omega)) (by rcases H6.out with h | h<;>simp[nx,h,WO])⟩⟩
theorem CB (rb sb:Nat) (s:ByteArray) (k n le ar:Nat) (l:List St) (w:World) (hs:s.size<=300) (hk:k < s.size) (hr:Rd w rb s k) (hS:Se w sb 0 [] jZ 0)
  (hA:At s k 0 n le ar l ⟨0,[],[]⟩ false) (hn:n≠16) :
  Calls Tryz.prog 72 #[.pointer (some ⟨rb,0,none⟩),.pointer (some ⟨sb,0,none⟩)] w fun e w'=>Mod (fun i=>i=rb\/i=sb) w w'/\∃ k',k'<=s.size/\Rd w' rb s k' /\
   ((e=.returned (.bool true)/\∃ x av le' ar',At s k' 0 (n+1) le' ar' (l++[x]) ⟨0,[],[]⟩ false/\Se w' sb x.name x.word av 0/\w'.ownsRow w.heap.size 5 1 av x.args.length (bvs x.args))\/(e=.returned (.bool false)/\Stuck s k')):=by
 have hne:=hS.ne hr
 have hrl:=hr.lt
 have hsl:=hS.lt
 go_in
 go_wp2_with fail
 refine (Qk rb sb s k n le ar l _ hs hk hr hS hA hn).mono ?_
 rintro e w1 ⟨hm1,k1,hk1,hr1,⟨rfl,nm,hA1,hS1⟩ | ⟨rfl,hst⟩⟩
 ·clear hr hS
  have hz1:=hm1.size
  go_wp2_with fail
  refine (Tk rb sb s k1 n le ar l nm _ hs hk1 hr1 hS1 hA1).mono ?_
  rintro e w2 ⟨hm2,k2,hk2,hr2,⟨rfl,wd,le2,hA2,hS2,h6⟩ | ⟨rfl,hst⟩⟩
  ·clear hr1 hS1
   have UO:=hm1.trans hm2
   have hz2:=UO.size
   have H6:Hid (le2=6\/gU (g s k2)=false):=h6
   clear h6 hm1 hm2
   go_wp2_with fail
   refine (O7 rb sb s k2 n le2 ar l nm wd _ hs hk2 hr2 hS2 hA2 H6.out).mono ?_
   rintro e w3 ⟨aC,k3,hk3,hr3,⟨rfl,ag,av,le3,ar3,hA3,uD,hown3⟩ | ⟨rfl,hst⟩⟩
   ·have WX:=UO.trans aC
    clear UO aC hr2 hS2
    by_cases Yf:g s k3=59
    ·have H59:Hid (g s k3=59):=Yf
     clear Yf
     go_wp2_with fail
     refine (ji rb s k3 59 _ hs hk3 hr3 (by omega) H59.out).mono ?_
     rintro e w4 ⟨rfl,hr4,hk4,aO⟩
     go_wp2
     go_ret
     have UJ:=at_end hA3 H59.out
     exact⟨WX.trans (aO.mono (fun _ _ h=>.inl h)),k3+1,hk4,hr4,.inl ⟨rfl,⟨nm,wd,ag⟩,av,_,_,UJ,uD.keep aO (fun h=>hne h.symm),au (bI hown3 hz2) aO (fun q hq he=>by omega)⟩⟩
    ·go_wp2_with fail
     refine (jB rb s k3 59 _ hs hk3 hr3 Yf).mono ?_
     rintro e w4 ⟨rfl,hr4,aO⟩
     go_wp2
     go_ret
     exact⟨WX.trans (aO.mono (fun _ _ h=>.inl h)),k3,hk3,hr4,.inr ⟨rfl,jJ hA3 hk3 (.inl (by omega)) (by simp[nx,Yf])⟩⟩
   ·go_wp2
    go_ret
    exact⟨UO.trans aC,k3,hk3,hr3,.inr ⟨rfl,hst⟩⟩
  ·go_wp2
   go_ret
   exact⟨hm1.trans hm2,k2,hk2,hr2,.inr ⟨rfl,hst⟩⟩
 ·go_wp2
  go_ret
  exact⟨hm1,k1,hk1,hr1,.inr ⟨rfl,hst⟩⟩
theorem Tryz.info66:(Tryz.prog.info? 72).map (fun i=>(i.zero,i.size,i.bytes))=some (some (.agg #[.int .u8 0,.string .empty,.slice none 0 0,.int .i64 0]),4,56):=by kernel_rfl
structure It where
 x:St
 av:Value
 wt:Nat
def iw (t:It):List Value:=[.int .u8 t.x.name,S t.x.word,t.av,.int .i64 (t.wt:Int)]
def cellsOf (q:List It):List Value:=q.flatMap iw
theorem vQ (q:List It) (t:It):cellsOf q++iw t=cellsOf (q++[t]):=by simp[cellsOf]
theorem Jg (q:List It) (j i:Nat) (hj:j < q.length) (hi:i < 4):(cellsOf q)[j*4+i]?=(iw q[j])[i]?:=by
 induction q generalizing j with
 | nil=>simp at hj
 | cons t q ih =>
  cases j with
  | zero =>
   simp only[cellsOf,List.flatMap_cons,Nat.zero_mul,Nat.zero_add,List.getElem_cons_zero]
   rw[List.getElem?_append_left (by simpa [iw] using hi)]
  | succ j =>
   have:=ih j (by simpa using hj)
   simp only[cellsOf,List.flatMap_cons,List.getElem_cons_succ]at *
   rw[List.getElem?_append_right (by simp[iw];omega),<- this]
   congr 1
   simp[iw];omega
def mq (w:World) (base:Nat) (q:List It):Prop:=∀ t∈q,w.ownsRow base 5 1 t.av t.x.args.length (bvs t.x.args)
def vM (w:World) (base:Nat) (v:Value) (q:List It):Prop:=w.ownsRow base 72 4 v q.length (cellsOf q)/\mq w base q
theorem CQ (w:World) (a b c d:Value) (t:TypeId):∀ j u,[a,b,c,d][j]?=some u->(w.alloc (.cells #[a,b,c,d] t)).cell? ((⟨w.heap.size,0,none⟩:Addr).add j)=some u:=by
 intro j u hj
 match j,hj with
 | 0,hj=>simp at hj;subst hj;simp[Addr.add]
 | 1,hj=>simp at hj;subst hj;simp[Addr.add]
 | 2,hj=>simp at hj;subst hj;simp[Addr.add]
 | 3,hj=>simp at hj;subst hj;simp[Addr.add]
section
variable {w w':World} {base:Nat} {v:Value} {q:List It}
theorem vM.nil (w:World) (base:Nat):vM w base (.slice none 0 0) []:=⟨World.ownsRow_nil _ _ _ _,fun _ h=>by simp at h⟩
theorem mq.mod {p:Nat->Prop} (h:mq w base q) (hm:Mod p w w') (hp:∀ g,base<=g->g < w.heap.size->p g->False):mq w' base q :=
 fun t ht=>dW (h t ht) hm (fun g hg hpg=>by have:=(h t ht).lt g hg;exact hp g this.1 this.2 hpg)
theorem vM.mod {p:Nat->Prop} (h:vM w base v q) (hm:Mod p w w') (hp:∀ g,base<=g->g < w.heap.size->p g->False):vM w' base v q :=
 ⟨dW h.1 hm (fun g hg hpg=>by have:=h.1.lt g hg;exact hp g this.1 this.2 hpg),h.2.mod hm hp⟩
theorem mq.grown {n:Nat} {xs:List Value} (h:mq w base q) {w2:World} {g0:Nat} (hv:w.ownsRow g0 72 4 v n xs) (hg:w.grownBy w2 v.ownBlock):mq w2 base q:=by
 intro t ht
 refine dW (p:=fun i=>v.ownBlock=some i) (h t ht) ⟨hg.os,hg.tape,hg.output,hg.size,fun k hk hn=>hg.block k hk (fun e=>hn e.symm)⟩ ?_
 intro g hgt hgv
 obtain⟨_,⟨he,_⟩ | ⟨g1,c1,XR,he1,_,hb1,_⟩⟩:=h t ht
 ·rw[he]at hgt;simp[Value.ownBlock]at hgt
 ·obtain⟨_,⟨he,_⟩ | ⟨g2,c2,abJ,he2,_,hb2,_⟩⟩:=hv
  ·rw[he]at hgv;simp[Value.ownBlock]at hgv
  ·rw[he1]at hgt;rw[he2]at hgv
   simp[Value.ownBlock]at hgt hgv
   subst hgt;subst hgv
   rw[hb1]at hb2;simp at hb2
theorem vM.low {base':Nat} (h:vM w base v q) (hb:base'<=base):vM w base' v q:=⟨bI h.1 hb,fun t ht=>bI (h.2 t ht) hb⟩
theorem vM.form (h:vM w base v q):∃ ao cap,v=.slice ao q.length cap/\(ao=none->q.length=0/\cap=0):=aj h.1
theorem vM.cell {ao:Option Addr} {cap:Nat} (h:vM w base (.slice ao q.length cap) q) {j:Nat} (hj:j < q.length) :
  ∃ gb,ao=some ⟨gb,0,none⟩/\w.cell? ⟨gb,j*4,none⟩=some (.int .u8 q[j].x.name)/\w.cell? ⟨gb,j*4+1,none⟩=some (S q[j].x.word)/\w.cell? ⟨gb,j*4+2,none⟩=some q[j].av/\w.cell? ⟨gb,j*4+3,none⟩=some (.int .i64 (q[j].wt:Int)):=by
 obtain⟨gb,rfl,h0⟩:=iM h.1 (j:=j*4+0) (by omega)
 have h1:=h.1.cellAt (j*4+1) (by omega)
 have h2:=h.1.cellAt (j*4+2) (by omega)
 have h3:=h.1.cellAt (j*4+3) (by omega)
 rw[Jg q j _ hj (by omega)]at h0 h1 h2 h3
 exact⟨gb,rfl,by simpa [iw] using h0,by simpa [iw] using h1,by simpa [iw] using h2,by simpa [iw] using h3⟩
end
theorem NY (s:ByteArray) (w:World) (hs:s.size<=300) :
  Calls Tryz.prog 44 #[.string s] w fun e w'=>Mod (fun _=>False) w w' /\
   ((∃ v q,e=.returned (.tuple #[v,.int .i64 0,.bool true])/\vM w' w.heap.size v q/\Whole s/\(bF s s.size).l=q.map It.x/\q.length<=16)\/(∃ k:Nat,e=.returned (.tuple #[.slice none 0 0,.int .i64 k,.bool false])/\Stuck s k)):=by
 obtain⟨i0,hi,hz0,hz1,hz2⟩:=info_parts Tryz.info66
 go_in
 go_wp2
 have hR0:Rd (w.alloc (.cells #[.string s,.int .i64 0] 118)) w.heap.size s 0:=by unfold Rd;show (w.heap.push _)[w.heap.size]?=_;simp
 go_loopw [6] (fun v wr=>∃ (k:Nat) (q:List It) (le ar:Nat),q.length<=16/\vM wr (w.heap.size+1) v q/\Rd wr w.heap.size s k/\At s k 0 q.length le ar (q.map It.x) ⟨0,[],[]⟩ false/\Mod (fun _=>False) w wr/\k<=s.size)
  (fun v _=>16 - sliceLen v)
 case atStart=>exact⟨0,[],0,0,by simp,vM.nil _ _,hR0,Ph s,(Mod.refl _ w).alloc _,by omega⟩
 case round =>
  clear hR0
  obtain⟨k,q,le,ar,hq,hL,hr,hA,hm,hk⟩:=hrel
  obtain⟨ao,cap,rfl,-⟩:=hL.form
  have h1:=hr.c1
  have hrl:=hr.lt
  have hsz:=hm.size
  by_cases hlt:k < s.size
  ·by_cases h16:q.length=16
   ·have H16:Hid (q.length=16):=h16
    clear h16
    have h16:((q.length:Int) == 16)=true:=by have:=H16.out;simp;omega
    go_wp2
    go_quiet (fail)
    go_wp2
    go_ret3
    exact⟨hm.drewN _,.inr ⟨k,rfl,jJ hA hk (.inr hlt) (by simp[nx,H16.out])⟩⟩
   ·have acO:((q.length:Int) == 16)=false:=by simp;omega
    go_wp2_with fail
    have hS1:Se (wr.alloc (.cells #[.int .u8 0,.string .empty,.slice none 0 0,.int .i64 0] 72)) wr.heap.size 0 [] jZ 0:=by unfold Se;show (wr.heap.push _)[wr.heap.size]?=_;simp;exact⟨rfl,rfl⟩
    have hm1:Mod (fun _=>False) wr (wr.alloc (.cells #[.int .u8 0,.string .empty,.slice none 0 0,.int .i64 0] 72)):=(Mod.refl _ wr).alloc _
    have hr1:=hr.keep hm1 (fun f=>f)
    refine (CB w.heap.size wr.heap.size s k q.length le ar (q.map It.x) _ hs hlt hr1 hS1 hA h16).mono ?_
    rintro e w2 ⟨hm2,k2,hk2,hr2,⟨rfl,x,av,le2,ar2,hA2,hS2,hown2⟩ | ⟨rfl,hst⟩⟩
    ·obtain⟨XE,cap2,rfl,-⟩:=aj hown2
     have fK:Mod (fun i=>i=w.heap.size) wr w2:=((hm1.mono (fun _ _ f=>f.elim)).trans hm2).mono (fun i hi h=>h.resolve_right (by omega))
     have hL2:=hL.mod fK (fun q1 h1 _ h2=>by omega)
     have UH:mq w2 (w.heap.size+1) [⟨x,.slice XE x.args.length cap2,0⟩]:=fun t ht=>by
      simp at ht;subst ht;exact bI hown2 (by simp;omega)
     have fT:Mod (fun _=>False) w w2:=⟨fK.os.trans hm.os,fK.tape.trans hm.tape,fK.output.trans hm.output,Nat.le_trans hm.size fK.size,fun i hi _=>(fK.block i (by omega) (by omega)).trans (hm.block i hi (fun f=>f))⟩
     have hsz2:=fT.size
     have c0:=hS2.c0
     have c1:=hS2.c1
     have c2:=hS2.c2
     have c3:=hS2.c3
     clear hL hm hm1 hm2 hS1 hr1 hr hA hown2 h1
     go_wp2_with (at_builtin;refine wpList_append_own _ rfl _ _ 58 rfl (w.heap.size+1) 72 i0 _ 4 56 Tryz.underlying58 hi hz0 hz1 hz2 rfl (by decide) _ _ _ rfl (hL2.1.alloc _) ⟨w2.heap.size,0,none⟩ 1 1 (iw ⟨x,.slice XE x.args.length cap2,0⟩) rfl rfl ?c1 ?c2 ?c3 ?c4 ?c5 ?_)
     case c1=>exact CQ _ _ _ _ _ _
     case c2=>intro u hu;simp[iw]at hu;rcases hu with rfl | rfl | rfl | rfl<;>rfl
     case c3=>unfold maxLen;omega
     case c4=>omega
     case c5=>have:=hr2.lt;simp;omega
     intro v' w4 aG hgrow _
     have hgm:Mod (fun i=>w.heap.size+1<=i) w2 w4:=((Mod.refl _ w2).alloc _).grown hgrow (fun i hi _=>(hL2.1.lt i hi).1)
     have hr4:=hr2.keep hgm (by omega)
     have aO:Mod (fun _=>False) w w4:=⟨hgm.os.trans fT.os,hgm.tape.trans fT.tape,hgm.output.trans fT.output,Nat.le_trans fT.size hgm.size,fun i hi _=>(hgm.block i (by omega) (by omega)).trans (fT.block i hi (fun f=>f))⟩
     have hal:Mod (fun _=>False) w2 (w2.alloc (.cells #[.int .u8 x.name,S x.word,.slice XE x.args.length cap2,.int .i64 0] 72)):=(Mod.refl _ w2).alloc _
     have hAr:mq w4 (w.heap.size+1) (q++[⟨x,.slice XE x.args.length cap2,0⟩]):=by
      intro t ht
      rcases List.mem_append.1 ht with ht | ht
      ·exact (hL2.2.mod hal (fun _ _ _ f=>f)).grown (hL2.1.alloc _) hgrow t ht
      ·exact (UH.mod hal (fun _ _ _ f=>f)).grown (hL2.1.alloc _) hgrow t ht
     have hL4:vM w4 (w.heap.size+1) v' (q++[⟨x,.slice XE x.args.length cap2,0⟩]):=⟨by rw[<- vQ,List.length_append];exact aG,hAr⟩
     obtain⟨ao4,cap4,rfl,-⟩:=aj aG
     clear aG hgrow hgm hL2 UH fT hr2 fK hS2 c0 c1 c2 c3 hal hAr
     go_wp2
     go_roundw
     case rel=>exact⟨k2,q++[⟨x,.slice XE x.args.length cap2,0⟩],le2,ar2,by simp;omega,hL4,hr4,by simpa using hA2,aO,hk2⟩
     case measure=>simp[sliceLen];omega
    ·have h2:=hr2.c1
     have fK:Mod (fun i=>i=w.heap.size) wr w2:=((hm1.mono (fun _ _ f=>f.elim)).trans hm2).mono (fun i hi h=>h.resolve_right (by omega))
     have fT:Mod (fun _=>False) w w2:=⟨fK.os.trans hm.os,fK.tape.trans hm.tape,fK.output.trans hm.output,Nat.le_trans hm.size fK.size,fun i hi _=>(fK.block i (by omega) (by omega)).trans (hm.block i hi (fun f=>f))⟩
     go_wp2
     go_quiet (fail)
     go_wp2
     go_ret3
     exact⟨fT.drewN _,.inr ⟨k2,rfl,hst⟩⟩
  ·have hks:k=s.size:=by omega
   subst hks
   go_wp2
   go_ret3
   exact⟨hm,.inl ⟨_,q,rfl,hL.low (by omega),⟨_,hA.1,rfl⟩,by rw[hA.2],hq⟩⟩
end Go.Proofs.YtmnfndpbblpjiabGreatDoor

/- The tables of words, on both sides. -/
namespace Go.Proofs.YtmnfndpbblpjiabGreatDoor
open Go.RowKit Pu
theorem uR (s:ByteArray) (w:World):Calls Tryz.prog 122 #[.string s] w fun e w'=>e=.returned (.int .u8 (sG s.toList))/\w=w':=by
 go_in
 go_wp2
 all_goals go_ret
 all_goals refine⟨?_,rfl⟩
 all_goals simp_all[sG]
theorem zy (s:ByteArray) (sum last:Nat) (w:World) (h1:sum<=1000) (h2:last<=1000):Calls Tryz.prog 123 #[.string s,.int .i64 sum,.int .i64 last] w fun e w'=>e=.returned (.int .i64 (wG s.toList sum last))/\w=w':=by
 go_in
 go_wp2
 all_goals go_ret
 all_goals refine⟨?_,rfl⟩
 all_goals simp_all[wG]
theorem wP (s:ByteArray) (w:World):Calls Tryz.prog 120 #[.string s] w fun e w'=>e=.returned (.tuple #[S (qT s.toList).1,.bool (qT s.toList).2])/\w=w':=by
 go_in
 go_wp2
 all_goals go_ret2
 all_goals refine⟨?_,rfl⟩
 all_goals simp_all[qT]
theorem rE (s:ByteArray) (w:World):Calls Tryz.prog 121 #[.string s] w fun e w'=>e=.returned (.tuple #[S (cT s.toList).1,.bool (cT s.toList).2])/\w=w':=by
 go_in
 go_wp2
 all_goals go_ret2
 all_goals refine⟨?_,rfl⟩
 all_goals simp_all[cT]
theorem Ac (s:ByteArray) (w:World):Calls Tryz.prog 148 #[.string s] w fun e w'=>e=.returned (.tuple #[S (fm s.toList).1,.int .u8 (fm s.toList).2])/\w=w':=by
 go_in
 go_wp2
 all_goals go_ret2
 all_goals refine⟨?_,rfl⟩
 all_goals simp_all[fm]
end Go.Proofs.YtmnfndpbblpjiabGreatDoor

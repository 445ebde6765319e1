/- Words on memory that all the walks share: which blocks a call may have turned, how a reader, a sentence lie. -/
import Derived.Test.YtmnfndpbblpjiaaGreatDoorRows
import Derived.WalkSpells
import Derived.WalkLawsBesides
import Derived.Deep.QuietTactic
import Derived.BigQuiet
import Derived.Test.YtmnfndpbblpjiaaGreatDoorZr01
namespace Go.Proofs.YtmnfndpbblpjiaaGreatDoor
open Go.RowKit
structure Mod (p:Nat→Prop) (w w':World):Prop where
 os:w'.os=w.os
 tape:w'.tape=w.tape
 output:w'.output=w.output
 size:w.heap.size≤w'.heap.size
 block:∀ k,k < w.heap.size→¬ p k→w'.heap[k]?=w.heap[k]?
section
variable {p q:Nat→Prop} {a b c w:World}
theorem Mod.refl (p:Nat→Prop) (w:World):Mod p w w:=⟨rfl,rfl,rfl,Nat.le_refl _,fun _ _ _=>rfl⟩
theorem Mod.trans (h:Mod p a b) (k:Mod p b c):Mod p a c :=
 ⟨k.os.trans h.os,k.tape.trans h.tape,k.output.trans h.output,Nat.le_trans h.size k.size,fun i hi hp=>(k.block i (Nat.lt_of_lt_of_le hi h.size) hp).trans (h.block i hi hp)⟩
theorem Mod.mono (h:Mod p a b) (hp:∀ k,k < a.heap.size→p k→q k):Mod q a b:=⟨h.os,h.tape,h.output,h.size,fun k hk hn=>h.block k hk fun hh=>hn (hp k hk hh)⟩
theorem Mod.drewN (h:Mod p a b) (n:Nat):Mod p a (b.drewN n):=⟨h.os,h.tape,h.output,by simpa using h.size,fun k hk hp=>h.block k hk hp⟩
theorem Mod.drew (h:Mod p a b):Mod p a b.drew:=⟨h.os,h.tape,h.output,h.size,h.block⟩
theorem Mod.alloc (h:Mod p a b) (o:Obj):Mod p a (b.alloc o) :=
 ⟨h.os,h.tape,h.output,by have:=h.size;simp;omega,fun k hk hp=>(Below.heap_alloc _ _ _ (Nat.lt_of_lt_of_le hk h.size)).trans (h.block k hk hp)⟩
theorem Mod.setCell (h:Mod p a b) (x:Addr) (v:Value) (hx:x.block < a.heap.size→p x.block):Mod p a (b.setCell x v):=by
 refine ⟨h.os,h.tape,h.output,by simpa using h.size,fun k hk hp=>?_⟩
 rw [Below.heap_setCell _ _ _ _ (fun e=>hp (by rw [e];exact hx (by omega)))]
 exact h.block k hk hp
theorem Mod.grown {row:Option Nat} (h:Mod p a b) (hg:b.grownBy c row) (hr:∀ k,row=some k→k < a.heap.size→p k):Mod p a c :=
 ⟨hg.os.trans h.os,hg.tape.trans h.tape,hg.output.trans h.output,Nat.le_trans h.size hg.size,fun k hk hp=>(hg.block k (Nat.lt_of_lt_of_le hk h.size) (fun e=>hp (hr k e.symm hk))).trans (h.block k hk hp)⟩
theorem Mod.below (h:Mod (fun _=>False) a b):Below a.heap.size a b:=⟨h.os,h.tape,h.output,h.size,fun k hk=>h.block k hk (fun f=>f)⟩
theorem Mod.keep {o:Obj} {k:Nat} (h:Mod p a b) (hk:a.heap[k]?=some o) (hp:¬ p k):b.heap[k]?=some o :=
 (h.block k (lt_of_block hk) hp).trans hk
theorem Mod.same (n:Nat) (p:Nat→Prop) (w:World):Mod p w (w.drewN n):=(Mod.refl p w).drewN n
end
abbrev S (l:List UInt8):Value:=.string ⟨l.toArray⟩
def Rd (w:World) (rb:Nat) (s:ByteArray) (k:Nat):Prop:=w.heap[rb]?=some (.cells #[.string s,.int .i64 k] 138 (0,0))
def Se (w:World) (sb:Nat) (n:Nat) (wd:List UInt8) (av:Value) (wt:Int):Prop:=w.heap[sb]?=some (.cells #[.int .u8 n,S wd,av,.int .i64 wt] 83 (0,0))
section
variable {w:World} {rb sb k n:Nat} {s:ByteArray} {wd:List UInt8} {av:Value} {wt:Int}
theorem Rd.c0 (h:Rd w rb s k):w.cell? ⟨rb,0,none⟩=some (.string s):=by unfold Rd at h;simp [World.cell?,h]
theorem Rd.c1 (h:Rd w rb s k):w.cell? ⟨rb,1,none⟩=some (.int .i64 k):=by unfold Rd at h;simp [World.cell?,h]
theorem Rd.f1 (h:Rd w rb s k):w.frozen? ⟨rb,1,none⟩=false:=by unfold Rd at h;simp [World.frozen?,h]
theorem Rd.lt (h:Rd w rb s k):rb < w.heap.size:=lt_of_block h
theorem Rd.set (h:Rd w rb s k) (j:Nat):Rd (w.setCell ⟨rb,1,none⟩ (.int .i64 j)) rb s j:=by
 unfold Rd at *
 simp [World.setCell,Array.getElem?_modify,h]
theorem Rd.drewN (h:Rd w rb s k) (j:Nat):Rd (w.drewN j) rb s k:=by unfold Rd at *;simpa using h
theorem Rd.keep {p:Nat→Prop} {w':World} (h:Rd w rb s k) (hm:Mod p w w') (hp:¬ p rb):Rd w' rb s k:=hm.keep h hp
theorem Se.lt (h:Se w sb n wd av wt):sb < w.heap.size:=lt_of_block h
theorem Se.ne (h:Se w sb n wd av wt) (k:Rd w rb s k):rb≠sb:=by
 intro e;subst e;unfold Se at h;unfold Rd at k;rw [h] at k;simp at k
theorem Se.c0 (h:Se w sb n wd av wt):w.cell? ⟨sb,0,none⟩=some (.int .u8 n):=by unfold Se at h;simp [World.cell?,h]
theorem Se.c1 (h:Se w sb n wd av wt):w.cell? ⟨sb,1,none⟩=some (S wd):=by unfold Se at h;simp [World.cell?,h]
theorem Se.c2 (h:Se w sb n wd av wt):w.cell? ⟨sb,2,none⟩=some av:=by unfold Se at h;simp [World.cell?,h]
theorem Se.c3 (h:Se w sb n wd av wt):w.cell? ⟨sb,3,none⟩=some (.int .i64 wt):=by unfold Se at h;simp [World.cell?,h]
theorem Se.fz (h:Se w sb n wd av wt) (i:Nat):w.frozen? ⟨sb,i,none⟩=false:=by unfold Se at h;simp [World.frozen?,h]
theorem Se.set0 (h:Se w sb n wd av wt) (j:Nat):Se (w.setCell ⟨sb,0,none⟩ (.int .u8 j)) sb j wd av wt:=by unfold Se at *;simp [World.setCell,Array.getElem?_modify,h]
theorem Se.set1 (h:Se w sb n wd av wt) (j:List UInt8):Se (w.setCell ⟨sb,1,none⟩ (S j)) sb n j av wt:=by unfold Se at *;simp [World.setCell,Array.getElem?_modify,h]
theorem Se.set2 (h:Se w sb n wd av wt) (j:Value):Se (w.setCell ⟨sb,2,none⟩ j) sb n wd j wt:=by unfold Se at *;simp [World.setCell,Array.getElem?_modify,h]
theorem Se.set3 (h:Se w sb n wd av wt) (j:Int):Se (w.setCell ⟨sb,3,none⟩ (.int .i64 j)) sb n wd av j:=by unfold Se at *;simp [World.setCell,Array.getElem?_modify,h]
theorem Se.drewN (h:Se w sb n wd av wt) (j:Nat):Se (w.drewN j) sb n wd av wt:=by unfold Se at *;simpa using h
theorem Se.keep {p:Nat→Prop} {w':World} (h:Se w sb n wd av wt) (hm:Mod p w w') (hp:¬ p sb):Se w' sb n wd av wt:=hm.keep h hp
end
theorem beq_t {c m:Nat} (h:c=m):((c:Int) == (m:Int))=true:=by subst h;simp
theorem beq_f {c m:Nat} (h:¬ c=m):((c:Int) == (m:Int))=false:=by
 rw [beq_eq_false_iff_ne];omega
def bvs (l:List UInt8):List Value:=l.map fun c=>.int .u8 (c.toNat:Int)
theorem bvs_snoc (l:List UInt8) (c:UInt8):bvs l++[.int .u8 (c.toNat:Int)]=bvs (l++[c]):=by simp [bvs]
def sliceLen:Value→Nat
 | .slice _ n _=>n
 | _=>0
section
variable {w w':World} {base:Nat} {e:TypeId} {size:Nat} {v:Value} {n:Nat} {xs:List Value}
theorem owns_form (h:w.ownsRow base e size v n xs):∃ ao cap,v=.slice ao n cap∧(ao=none→n=0∧cap=0):=by
 obtain ⟨_,⟨rfl,rfl⟩ | ⟨g,cap,cur,rfl,_⟩⟩:=h
 ·exact ⟨none,0,rfl,fun _=>⟨rfl,rfl⟩⟩
 ·exact ⟨_,cap,rfl,fun h=>by cases h⟩
theorem owns_mod {p:Nat→Prop} (h:w.ownsRow base e size v n xs) (hm:Mod p w w') (hp:∀ g,base≤g→p g→False):w'.ownsRow base e size v n xs:=by
 obtain ⟨hl,⟨rfl,rfl⟩ | ⟨g,cap,cur,rfl,hb,hg,h1,h2,h3,h4⟩⟩:=h
 ·exact ⟨hl,.inl ⟨rfl,rfl⟩⟩
 ·exact ⟨hl,.inr ⟨g,cap,cur,rfl,hb,hm.keep hg (hp g hb),h1,h2,h3,h4⟩⟩
theorem owns_mod' {p:Nat→Prop} (h:w.ownsRow base e size v n xs) (hm:Mod p w w') (hp:∀ g,v.ownBlock=some g→p g→False):w'.ownsRow base e size v n xs:=by
 obtain ⟨hl,⟨rfl,rfl⟩ | ⟨g,cap,cur,rfl,hb,hg,h1,h2,h3,h4⟩⟩:=h
 ·exact ⟨hl,.inl ⟨rfl,rfl⟩⟩
 ·exact ⟨hl,.inr ⟨g,cap,cur,rfl,hb,hm.keep hg (hp g rfl),h1,h2,h3,h4⟩⟩
theorem owns_drewN (h:w.ownsRow base e size v n xs) (j:Nat):(w.drewN j).ownsRow base e size v n xs:=owns_mod h (Mod.same j (fun _=>False) w) (fun _ _ f=>f)
theorem owns_base {base':Nat} (h:w.ownsRow base e size v n xs) (hb:base'≤base):w.ownsRow base' e size v n xs:=by
 obtain ⟨hl,⟨rfl,rfl⟩ | ⟨g,cap,cur,rfl,hb',hg⟩⟩:=h
 ·exact ⟨hl,.inl ⟨rfl,rfl⟩⟩
 ·exact ⟨hl,.inr ⟨g,cap,cur,rfl,by omega,hg⟩⟩
theorem owns_cell {ao:Option Addr} {cap:Nat} (h:w.ownsRow base e size (.slice ao n cap) n xs) {j:Nat} (hj:j < n*size):∃ gb,ao=some ⟨gb,0,none⟩∧w.cell? ⟨gb,j,none⟩=xs[j]?:=by
 have h':=h
 obtain ⟨hl,⟨he,rfl⟩ | ⟨gb,cap',cur,he,hb',hg⟩⟩:=h
 ·simp at hj
 ·cases he
  exact ⟨gb,rfl,h'.cellAt j hj⟩
theorem convert_owned {P:Program} {src dst:TypeId} {l:List UInt8} (h:w.ownsRow base e 1 v n (bvs l)) (hn:n=l.length) (hs:P.underlying src=some (.slice e)) (he:P.underlying e=some (.int .u8)) (hd:P.underlying dst=some .string) :
  (convert src dst v).run P w=.ok (S l) w:=by
 subst hn
 have h':=h
 obtain ⟨hl,⟨rfl,h0⟩ | ⟨gb,cap,cur,rfl,hb',hg⟩⟩:=h
 ·have:l=[]:=List.eq_nil_of_length_eq_zero h0
  subst this
  exact run_convert_bytes_nil w src e hs he 0 0 dst hd
 ·refine run_convert_bytes_back w src dst e _ cap l hs he hd fun j hj=>?_
  have hc:=h'.cellAt j (by omega)
  have ha:(⟨gb,0,none⟩:Addr).add j=⟨gb,j,none⟩:=by
   unfold Addr.add
   by_cases h0:j=0
   ·subst h0;simp
   ·simp [h0]
  rw [ha,hc]
  simp [bvs,hj]
end
end Go.Proofs.YtmnfndpbblpjiaaGreatDoor

/- The reader's small steps: peek, take, takeLetter. -/
namespace Go.Proofs.YtmnfndpbblpjiaaGreatDoor
set_option linter.unusedVariables false
open Go.RowKit Pu
set_option maxHeartbeats 400000 in
theorem peek_any (rb:Nat) (s:ByteArray) (k:Nat) (w:World) (hs:s.size≤300) (hk:k≤s.size) (hr:Rd w rb s k) :
  Calls Tryz.prog 159 #[.pointer (some ⟨rb,0,none⟩)] w fun e w'=>e=.returned (.int .u8 (g s k))∧∃ n,w'=w.drewN n:=by
 have h0:=hr.c0
 have h1:=hr.c1
 clear hr
 have hg:decide ((k:Int) < 0)=false:=by simp
 by_cases hlt:k < s.size
 ·have HG:Hid (s[k].toNat=g s k):=(g_in hlt).symm
  go_enter Tryz.func159,Tryz.ntmps159
  go_wp2
  go_quiet (fail)
  go_wp2
  go_quiet (fail)
  go_wp2
  go_ret
  exact ⟨by rw [← HG.out];rfl,_,World.drewN_drewN ..⟩
 ·have HG:Hid (g s k=0):=g_out (by omega)
  go_enter Tryz.func159,Tryz.ntmps159
  go_wp2
  go_quiet (fail)
  go_wp2
  go_ret
  exact ⟨by rw [HG.out];rfl,_,rfl⟩
set_option maxHeartbeats 400000 in
theorem take_yes (rb:Nat) (s:ByteArray) (k c:Nat) (w:World) (hs:s.size≤300) (hk:k≤s.size) (hr:Rd w rb s k) (hc0:0 < c) (hc:g s k=c) :
  Calls Tryz.prog 109 #[.pointer (some ⟨rb,0,none⟩),.int .u8 c] w fun e w'=>e=.returned (.bool true)∧Rd w' rb s (k+1)∧k+1≤s.size∧Mod (fun i=>i=rb) w w':=by
 have hlt:k < s.size:=lt_of_g (by omega)
 have h1:=hr.c1
 have hf:=hr.f1
 have hb:((g s k:Int) != (c:Int))=false:=by simp [hc]
 have HC:Hid (g s k=c):=hc
 clear hc
 go_enter Tryz.func109,Tryz.ntmps109
 go_wp2_with (go_at_call 159;refine (peek_any rb s k _ hs hk hr).mono ?_;rintro e w' ⟨rfl,n,rfl⟩)
 go_ret
 exact ⟨rfl,by have:=(hr.drewN n).set (k+1);simpa using this,hlt,(Mod.same n _ w).setCell _ _ (fun _=>rfl)⟩
set_option maxHeartbeats 400000 in
theorem take_no (rb:Nat) (s:ByteArray) (k c:Nat) (w:World) (hs:s.size≤300) (hk:k≤s.size) (hr:Rd w rb s k) (hc:g s k≠c) :
  Calls Tryz.prog 109 #[.pointer (some ⟨rb,0,none⟩),.int .u8 c] w fun e w'=>e=.returned (.bool false)∧Rd w' rb s k∧Mod (fun i=>i=rb) w w':=by
 have hb:((g s k:Int) != (c:Int))=true:=by simp;omega
 go_enter Tryz.func109,Tryz.ntmps109
 go_wp2_with (go_at_call 159;refine (peek_any rb s k _ hs hk hr).mono ?_;rintro e w' ⟨rfl,n,rfl⟩)
 go_ret
 exact ⟨rfl,hr.drewN n,Mod.same n _ w⟩
set_option maxHeartbeats 400000 in
theorem letter_yes (rb:Nat) (s:ByteArray) (k:Nat) (w:World) (hs:s.size≤300) (hk:k≤s.size) (hr:Rd w rb s k) (hc:isL (g s k)=true) :
  Calls Tryz.prog 177 #[.pointer (some ⟨rb,0,none⟩)] w fun e w'=>e=.returned (.int .u8 (g s k))∧Rd w' rb s (k+1)∧k+1≤s.size∧Mod (fun i=>i=rb) w w':=by
 obtain ⟨ha,hz⟩:=(isL_iff _).1 hc
 have hlt:k < s.size:=lt_of_g (by omega)
 have h1:=hr.c1
 have hf:=hr.f1
 clear hc
 go_enter Tryz.func177,Tryz.ntmps177
 go_wp2_with (go_at_call 159;refine (peek_any rb s k _ hs hk hr).mono ?_;rintro e w' ⟨rfl,n,rfl⟩)
 go_ret
 exact ⟨rfl,by have:=(hr.drewN n).set (k+1);simpa using this,hlt,(Mod.same n _ w).setCell _ _ (fun _=>rfl)⟩
set_option maxHeartbeats 400000 in
theorem letter_no (rb:Nat) (s:ByteArray) (k:Nat) (w:World) (hs:s.size≤300) (hk:k≤s.size) (hr:Rd w rb s k) (hc:isL (g s k)=false) :
  Calls Tryz.prog 177 #[.pointer (some ⟨rb,0,none⟩)] w fun e w'=>e=.returned (.int .u8 0)∧Rd w' rb s k∧Mod (fun i=>i=rb) w w':=by
 have hl:¬ (97≤g s k∧g s k≤122):=fun h=>by rw [(isL_iff _).2 h] at hc;cases hc
 clear hc
 by_cases h9:g s k < 97
 all_goals
  go_enter Tryz.func177,Tryz.ntmps177
  go_wp2_with (go_at_call 159;refine (peek_any rb s k _ hs hk hr).mono ?_;rintro e w' ⟨rfl,n,rfl⟩)
  go_ret
  exact ⟨rfl,hr.drewN n,Mod.same n _ w⟩
end Go.Proofs.YtmnfndpbblpjiaaGreatDoor

/- readHead: a name and the sign of equality, or the sign of a question. -/
namespace Go.Proofs.YtmnfndpbblpjiaaGreatDoor
open Go.RowKit Pu
def NoArgs:Value:=.slice none 0 0
set_option maxHeartbeats 400000 in
theorem head_any (rb sb:Nat) (s:ByteArray) (k n le ar:Nat) (l:List St) (w:World) (hs:s.size≤300) (hk:k < s.size) (hr:Rd w rb s k) (hS:Se w sb 0 [] NoArgs 0)
  (hA:At s k 0 n le ar l ⟨0,[],[]⟩ false) (hn:n≠16) :
  Calls Tryz.prog 140 #[.pointer (some ⟨rb,0,none⟩),.pointer (some ⟨sb,0,none⟩)] w fun e w'=>Mod (fun i=>i=rb∨i=sb) w w'∧∃ k',k'≤s.size∧Rd w' rb s k' ∧
   ((e=.returned (.bool true)∧∃ nm,At s k' 2 n le ar l ⟨nm,[],[]⟩ false∧Se w' sb nm [] NoArgs 0)∨(e=.returned (.bool false)∧Stuck s k')):=by
 have hne:=hS.ne hr
 by_cases h63:g s k=63
 ·have HA:Hid (At s k 0 n le ar l ⟨0,[],[]⟩ false):=hA;have HS:Hid (Se w sb 0 [] NoArgs 0):=hS;clear hA hS
  have H63:Hid (g s k=63):=h63
  clear h63
  go_enter Tryz.func140,Tryz.ntmps140
  go_wp2_with fail
  refine (take_yes rb s k 63 _ hs (by omega) hr (by omega) H63.out).mono ?_
  rintro e w1 ⟨rfl,hr1,hk1,hm1⟩
  go_wp2
  go_ret
  exact ⟨hm1.mono (fun _ _ h=>.inl h),k+1,hk1,hr1,.inl ⟨rfl,0,at_ask HA.out hn H63.out,HS.out.keep hm1 (fun h=>hne h.symm)⟩⟩
 ·have HA:Hid (At s k 0 n le ar l ⟨0,[],[]⟩ false):=hA;have HS:Hid (Se w sb 0 [] NoArgs 0):=hS;clear hA hS
  by_cases hL:isL (g s k)=true
  ·have hl:=(isL_iff _).1 hL
   by_cases h61:g s (k+1)=61
   ·have H61:Hid (g s (k+1)=61):=h61
    clear h61
    have HL:Hid (isL (g s k)=true):=hL
    clear hL
    go_enter Tryz.func140,Tryz.ntmps140
    go_wp2_with fail
    refine (take_no rb s k 63 _ hs (by omega) hr h63).mono ?_
    rintro e w1 ⟨rfl,hr1,hm1⟩
    go_wp2_with fail
    refine (letter_yes rb s k _ hs (by omega) hr1 HL.out).mono ?_
    rintro e w2 ⟨rfl,hr2,hk2,hm2⟩
    have hS2:=(HS.out.keep hm1 (fun h=>hne h.symm)).keep hm2 (fun h=>hne h.symm)
    have cc:=hS2.c0
    have cf:=hS2.fz 0
    have hz:((g s k:Int) == 0)=false:=by simp;omega
    go_wp2_with fail
    have hS3:=hS2.set0 (g s k)
    have hm3:Mod (fun i=>i=rb∨i=sb) w (w2.setCell ⟨sb,0,none⟩ (.int .u8 (g s k))):=((hm1.trans hm2).mono (fun _ _ h=>.inl h)).setCell _ _ (fun _=>.inr rfl)
    have hr3:Rd (w2.setCell ⟨sb,0,none⟩ (.int .u8 (g s k))) rb s (k+1):=hr2.keep ((Mod.refl (fun i=>i=sb) w2).setCell _ _ (fun _=>rfl)) hne
    clear cc cf hS2
    refine (take_yes rb s (k+1) 61 _ hs (by omega) hr3 (by omega) H61.out).mono ?_
    rintro e w4 ⟨rfl,hr4,hk4,hm4⟩
    go_wp2
    go_ret
    exact ⟨hm3.trans (hm4.mono (fun _ _ h=>.inl h)),k+2,hk4,hr4,.inl ⟨rfl,g s k,by have:=at_equal (at_name HA.out hn HL.out) H61.out;simpa using this,hS3.keep hm4 (fun h=>hne h.symm)⟩⟩
   ·have HL:Hid (isL (g s k)=true):=hL
    clear hL
    go_enter Tryz.func140,Tryz.ntmps140
    go_wp2_with fail
    refine (take_no rb s k 63 _ hs (by omega) hr h63).mono ?_
    rintro e w1 ⟨rfl,hr1,hm1⟩
    go_wp2_with fail
    refine (letter_yes rb s k _ hs (by omega) hr1 HL.out).mono ?_
    rintro e w2 ⟨rfl,hr2,hk2,hm2⟩
    have hS2:=(HS.out.keep hm1 (fun h=>hne h.symm)).keep hm2 (fun h=>hne h.symm)
    have cc:=hS2.c0
    have cf:=hS2.fz 0
    have hz:((g s k:Int) == 0)=false:=by simp;omega
    go_wp2_with fail
    have hm3:Mod (fun i=>i=rb∨i=sb) w (w2.setCell ⟨sb,0,none⟩ (.int .u8 (g s k))):=((hm1.trans hm2).mono (fun _ _ h=>.inl h)).setCell _ _ (fun _=>.inr rfl)
    have hr3:Rd (w2.setCell ⟨sb,0,none⟩ (.int .u8 (g s k))) rb s (k+1):=hr2.keep ((Mod.refl (fun i=>i=sb) w2).setCell _ _ (fun _=>rfl)) hne
    clear cc cf hS2
    refine (take_no rb s (k+1) 61 _ hs (by omega) hr3 h61).mono ?_
    rintro e w4 ⟨rfl,hr4,hm4⟩
    go_wp2
    go_ret
    exact ⟨hm3.trans (hm4.mono (fun _ _ h=>.inl h)),k+1,hk2,hr4,.inr ⟨rfl,stuck_of (at_name HA.out hn HL.out) hk2 (.inl (by omega)) (by simp [nx,h61])⟩⟩
  ·have hL':isL (g s k)=false:=by simpa using hL
   have HL:Hid (isL (g s k)=false):=hL'
   clear hL hL'
   go_enter Tryz.func140,Tryz.ntmps140
   go_wp2_with fail
   refine (take_no rb s k 63 _ hs (by omega) hr h63).mono ?_
   rintro e w1 ⟨rfl,hr1,hm1⟩
   go_wp2_with fail
   refine (letter_no rb s k _ hs (by omega) hr1 HL.out).mono ?_
   rintro e w2 ⟨rfl,hr2,hm2⟩
   have hS2:=(HS.out.keep hm1 (fun h=>hne h.symm)).keep hm2 (fun h=>hne h.symm)
   have cc:=hS2.c0
   have cf:=hS2.fz 0
   go_wp2
   go_ret
   exact ⟨((hm1.trans hm2).mono (fun _ _ h=>.inl h)).setCell _ _ (fun _=>.inr rfl),k,by omega,hr2.keep ((Mod.refl (fun i=>i=sb) w2).setCell _ _ (fun _=>rfl)) hne,
    .inr ⟨rfl,stuck_of HA.out (by omega) (.inr hk) (by simp [nx,hn,h63,HL.out])⟩⟩
theorem Tryz.info5:(Tryz.prog.info? 5).map (fun i=>(i.zero,i.size,i.bytes))=some (some (.int .u8 0),1,1):=by kernel_rfl
def WAt (s:ByteArray) (k n le ar:Nat) (l:List St) (nm:Nat) (wd:List UInt8):Prop :=
 (wd=[]∧At s k 2 n le ar l ⟨nm,[],[]⟩ false)∨(wd≠[]∧At s k 3 n wd.length ar l ⟨nm,wd,[]⟩ false)
theorem WAt.step {s:ByteArray} {k n le ar:Nat} {l:List St} {nm:Nat} {wd:List UInt8} (h:WAt s k n le ar l nm wd) (hl:wd.length < 6) (hc:isL (g s k)=true):WAt s (k+1) n le ar l nm (wd++[bt s k]):=by
 rcases h with ⟨rfl,h⟩ | ⟨hn,h⟩
 ·exact .inr ⟨by simp,by simpa using at_first h hc⟩
 ·exact .inr ⟨by simp,by simpa using at_more h hl hc⟩
theorem word_end {s:ByteArray} {k n le ar:Nat} {l:List St} {nm sb:Nat} {wd:List UInt8} {w:World} {b:Bool} (h:WAt s k n le ar l nm wd) (hk:k≤s.size) (hS:Se w sb nm wd NoArgs 0) (h6:wd.length=6∨isL (g s k)=false)
  (hb:b=decide (0 < wd.length):=by rfl) :
  (Ending.returned (.bool b)=.returned (.bool true)∧∃ wd le',At s k 3 n le' ar l ⟨nm,wd,[]⟩ false∧Se w sb nm wd NoArgs 0∧(le'=6∨isL (g s k)=false))∨(Ending.returned (.bool b)=.returned (.bool false)∧Stuck s k):=by
 subst hb
 rcases h with ⟨rfl,h⟩ | ⟨hn,h⟩
 ·refine .inr ⟨by simp,stuck_of h hk (.inl (by omega)) ?_⟩
  rcases h6 with h6 | h6
  ·simp at h6
  ·simp [nx,h6]
 ·refine .inl ⟨?_,wd,wd.length,h,hS,h6⟩
  have:0 < wd.length:=List.length_pos_iff.2 hn
  simp [this]
set_option maxHeartbeats 800000 in
set_option maxRecDepth 100000 in
theorem word_any (rb sb:Nat) (s:ByteArray) (k n le ar:Nat) (l:List St) (nm:Nat) (w:World) (hs:s.size≤300) (hk:k≤s.size) (hr:Rd w rb s k) (hS:Se w sb nm [] NoArgs 0)
  (hA:At s k 2 n le ar l ⟨nm,[],[]⟩ false) :
  Calls Tryz.prog 141 #[.pointer (some ⟨rb,0,none⟩),.pointer (some ⟨sb,0,none⟩)] w fun e w'=>Mod (fun i=>i=rb∨i=sb) w w'∧∃ k',k'≤s.size∧Rd w' rb s k' ∧
   ((e=.returned (.bool true)∧∃ wd le',At s k' 3 n le' ar l ⟨nm,wd,[]⟩ false∧Se w' sb nm wd NoArgs 0∧(le'=6∨isL (g s k')=false))∨(e=.returned (.bool false)∧Stuck s k')):=by
 have hne:=hS.ne hr
 have hrl:=hr.lt
 have hsl:=hS.lt
 obtain ⟨i0,hi,hz0,hz1,hz2⟩:=info_parts Tryz.info5
 go_enter Tryz.func141,Tryz.ntmps141
 go_wp2
 go_loopw [5] (fun v wr=>∃ (k':Nat) (wd:List UInt8),wd.length≤6∧wr.ownsRow w.heap.size 5 1 v wd.length (bvs wd)∧Rd wr rb s k'∧WAt s k' n le ar l nm wd∧Se wr sb nm [] NoArgs 0∧Mod (fun i=>i=rb∨i=sb) w wr∧k'≤s.size)
  (fun v _=>6 - sliceLen v)
 case atStart=>exact ⟨k,[],by simp,World.ownsRow_nil _ _ _ _,hr,.inl ⟨rfl,hA⟩,hS,Mod.refl _ _,hk⟩
 case round =>
  obtain ⟨k',wd,hlen,hown,hr',hW,hS',hm,hk'⟩:=hrel
  obtain ⟨ao,cap,rfl,-⟩:=owns_form hown
  have hsz:=hm.size
  by_cases hl6:wd.length < 6
  ·by_cases hL:isL (g s k')=true
   ·have hc:=(isL_iff _).1 hL
    have HL:Hid (isL (g s k')=true):=hL
    clear hL hS hr
    go_wp2_with fail
    refine (letter_yes rb s k' _ hs hk' hr' HL.out).mono ?_
    rintro e w2 ⟨rfl,hr2,hk2,hm2⟩
    have hown2:=owns_mod hown hm2 (fun q hq he=>by omega)
    have hS2:=hS'.keep hm2 (fun h=>hne h.symm)
    have hm3:=hm.trans (hm2.mono (q:=fun i=>i=rb∨i=sb) (fun _ _ h=>.inl h))
    have hsz3:=hm3.size
    clear hown hr' hS' hm hm2
    go_wp2_with (at_builtin;refine wpList_append_own _ rfl _ _ 75 rfl w.heap.size 5 i0 (.int .u8 0) 1 1 Tryz.underlying75 hi hz0 hz1 hz2 rfl (by decide) _ _ _ rfl (hown2.alloc _) ⟨w2.heap.size,0,none⟩ 1 1 [.int .u8 (g s k')] rfl rfl ?c1 ?c2 ?c3 ?c4 ?c5 ?_)
    case c1=>exact cell_one_new _ _ _
    case c2=>intro u hu;simp at hu;subst hu;rfl
    case c3=>unfold maxLen;omega
    case c4=>omega
    case c5=>simp;omega
    intro v' w4 hown4 hgrow _
    have hW':=hW.step hl6 HL.out
    have hm5:=(hm3.alloc _).grown hgrow (fun q hq hlt=>by have:=(hown2.lt q hq).1;omega)
    have hg2:Mod (fun q=>w.heap.size≤q) w2 w4:=((Mod.refl _ w2).alloc _).grown hgrow (fun q hq _=>(hown2.lt q hq).1)
    have hr4:=hr2.keep hg2 (by omega)
    have hS4:=hS2.keep hg2 (by omega)
    have hown5:w4.ownsRow w.heap.size 5 1 v' (wd++[bt s k']).length (bvs (wd++[bt s k'])):=by rw [← bvs_snoc,List.length_append];exact hown4
    obtain ⟨ao',cap',rfl,-⟩:=owns_form hown4
    clear hown4 hgrow hown2 hr2 hS2 hm3 hg2 hW
    go_wp2
    go_roundw
    case rel=>exact ⟨k'+1,wd++[bt s k'],by simp;omega,hown5,hr4,hW',hS4,hm5,hk2⟩
    case measure=>simp [sliceLen];omega
   ·have HL:Hid (isL (g s k')=false):=show isL (g s k')=false by simpa using hL
    clear hL hS hr
    go_wp2_with fail
    refine (letter_no rb s k' _ hs hk' hr' HL.out).mono ?_
    rintro e w2 ⟨rfl,hr2,hm2⟩
    have hown2:=owns_mod hown hm2 (fun q hq he=>by omega)
    have hS2:=hS'.keep hm2 (fun h=>hne h.symm)
    have hm3:=hm.trans (hm2.mono (q:=fun i=>i=rb∨i=sb) (fun _ _ h=>.inl h))
    have hconv:=convert_owned (P:=Tryz.prog) (src:=75) (dst:=9) hown2 rfl Tryz.underlying75 Tryz.underlying5 Tryz.underlying9
    have cc:=hS2.c1
    have cf:=hS2.fz 1
    clear hown hr' hS' hm hm2 hown2
    go_wp2
    go_ret
    refine ⟨hm3.setCell _ _ (fun _=>.inr rfl),k',hk',hr2.keep ((Mod.refl (fun i=>i=sb) w2).setCell _ _ (fun _=>rfl)) hne,?_⟩
    exact word_end hW hk' (hS2.set1 wd) (.inr HL.out)
  ·clear hS hr
   have hconv:=convert_owned (P:=Tryz.prog) (src:=75) (dst:=9) hown rfl Tryz.underlying75 Tryz.underlying5 Tryz.underlying9
   have cc:=hS'.c1
   have cf:=hS'.fz 1
   go_wp2
   go_ret
   refine ⟨hm.setCell _ _ (fun _=>.inr rfl),k',hk',hr'.keep ((Mod.refl (fun i=>i=sb) wr).setCell _ _ (fun _=>rfl)) hne,?_⟩
   exact word_end hW hk' (hS'.set1 wd) (.inl (by omega))
def AAt (s:ByteArray) (k n le:Nat) (l:List St) (nm:Nat) (wd ag:List UInt8):Prop :=
 (ag=[]∧At s k 4 n le 0 l ⟨nm,wd,[]⟩ true∧g s k≠41)∨(ag≠[]∧At s k 6 n le ag.length l ⟨nm,wd,ag⟩ true)
theorem AAt.step {s:ByteArray} {k n le:Nat} {l:List St} {nm:Nat} {wd ag:List UInt8} (h:AAt s k n le l nm wd ag) (hc:isL (g s k)=true):At s (k+1) 5 n le (ag++[bt s k]).length l ⟨nm,wd,ag++[bt s k]⟩ true:=by
 rcases h with ⟨rfl,h,_⟩ | ⟨hn,h⟩
 ·simpa using at_arg (.inl h) hc
 ·simpa using at_arg (.inr h) hc
theorem AAt.stuck {s:ByteArray} {k n le:Nat} {l:List St} {nm:Nat} {wd ag:List UInt8} (h:AAt s k n le l nm wd ag) (hk:k≤s.size) (hc:isL (g s k)=false):Stuck s k:=by
 rcases h with ⟨rfl,h,h41⟩ | ⟨hn,h⟩
 ·exact stuck_of h hk (.inl (by omega)) (by simp [nx,hc,h41])
 ·exact stuck_of h hk (.inl (by omega)) (by simp [nx,hc])
def lenAt (w:World) (sb:Nat):Nat:=sliceLen ((w.cell? ⟨sb,2,none⟩).getD undef)
theorem Se.lenAt {w:World} {sb n:Nat} {wd:List UInt8} {av:Value} {wt:Int} (h:Se w sb n wd av wt):lenAt w sb=sliceLen av:=by unfold Go.Proofs.YtmnfndpbblpjiaaGreatDoor.lenAt;rw [h.c2];rfl
def ArgsEnd (rb sb B:Nat) (s:ByteArray) (n:Nat) (l:List St) (nm:Nat) (wd:List UInt8) (e:Ending) (w':World):Prop:=∃ k',k'≤s.size∧Rd w' rb s k' ∧
   ((e=.returned (.bool true)∧∃ ag av le' ar',At s k' 7 n le' ar' l ⟨nm,wd,ag⟩ false∧Se w' sb nm wd av 0∧w'.ownsRow B 5 1 av ag.length (bvs ag))∨(e=.returned (.bool false)∧Stuck s k'))
set_option maxHeartbeats 1600000 in
set_option maxRecDepth 100000 in
theorem args_any (rb sb:Nat) (s:ByteArray) (k n le ar:Nat) (l:List St) (nm:Nat) (wd:List UInt8) (w:World) (hs:s.size≤300) (hk:k≤s.size) (hr:Rd w rb s k) (hS:Se w sb nm wd NoArgs 0)
  (hA:At s k 3 n le ar l ⟨nm,wd,[]⟩ false) (h6:le=6∨isL (g s k)=false) :
  Calls Tryz.prog 142 #[.pointer (some ⟨rb,0,none⟩),.pointer (some ⟨sb,0,none⟩)] w fun e w'=>Mod (fun i=>i=rb∨i=sb) w w'∧ArgsEnd rb sb w.heap.size s n l nm wd e w':=by
 have hne:=hS.ne hr
 have hrl:=hr.lt
 have hsl:=hS.lt
 obtain ⟨i0,hi,hz0,hz1,hz2⟩:=info_parts Tryz.info5
 have H6:Hid (le=6∨isL (g s k)=false):=h6
 clear h6
 by_cases h40:g s k=40
 ·have hA4:=at_open hA h40
  have H40:Hid (g s k=40):=h40
  clear h40
  by_cases h41:g s (k+1)=41
  ·have H41:Hid (g s (k+1)=41):=h41
   clear h41
   go_enter Tryz.func142,Tryz.ntmps142
   go_wp2_with fail
   refine (take_yes rb s k 40 _ hs hk hr (by omega) H40.out).mono ?_
   rintro e w1 ⟨rfl,hr1,hk1,hm1⟩
   go_wp2_with fail
   refine (take_yes rb s (k+1) 41 _ hs hk1 hr1 (by omega) H41.out).mono ?_
   rintro e w2 ⟨rfl,hr2,hk2,hm2⟩
   go_wp2
   go_ret
   exact ⟨(hm1.trans hm2).mono (fun _ _ h=>.inl h),k+2,hk2,hr2,.inl ⟨rfl,[],NoArgs,_,_,at_none hA4 H41.out,(hS.keep hm1 (fun h=>hne h.symm)).keep hm2 (fun h=>hne h.symm),World.ownsRow_nil _ _ _ _⟩⟩
  ·go_enter Tryz.func142,Tryz.ntmps142
   go_wp2_with fail
   refine (take_yes rb s k 40 _ hs hk hr (by omega) H40.out).mono ?_
   rintro e w1 ⟨rfl,hr1,hk1,hm1⟩
   go_wp2_with fail
   refine (take_no rb s (k+1) 41 _ hs hk1 hr1 h41).mono ?_
   rintro e w2 ⟨rfl,hr2,hm2⟩
   have hS2:=(hS.keep hm1 (fun h=>hne h.symm)).keep hm2 (fun h=>hne h.symm)
   have hm2':Mod (fun i=>i=rb∨i=sb) w w2:=(hm1.trans hm2).mono (fun _ _ h=>.inl h)
   have hAA:AAt s (k+1) n le l nm wd []:=.inl ⟨rfl,hA4,h41⟩
   clear hm1 hm2 hS hr hr1 h41 hA4 hA
   go_wp2
   go_loopw [5] (fun _ wr=>∃ (k':Nat) (ag:List UInt8) (av:Value),ag.length < 4∧wr.ownsRow w.heap.size 5 1 av ag.length (bvs ag)∧Rd wr rb s k'∧AAt s k' n le l nm wd ag∧Se wr sb nm wd av 0∧Mod (fun i=>i=rb∨i=sb) w wr∧k'≤s.size)
    (fun _ wr=>4 - lenAt wr sb)
   case atStart=>exact ⟨k+1,[],NoArgs,by simp,World.ownsRow_nil _ _ _ _,hr2,hAA,hS2,hm2',hk1⟩
   case round =>
    clear hr2 hAA hS2 hm2' hk1
    obtain ⟨k',ag,av,hlen,hown,hr',hW,hS',hm,hk'⟩:=hrel
    obtain ⟨ao,cap,rfl,-⟩:=owns_form hown
    have hsz:=hm.size
    have HLen:Hid (lenAt wr sb=ag.length):=hS'.lenAt
    have cc:=hS'.c2
    by_cases hL:isL (g s k')=true
    ·have hc:=(isL_iff _).1 hL
     have hA5:=hW.step hL
     have HL:Hid (isL (g s k')=true):=hL
     have hnz:((g s k':Int) == 0)=false:=by simp;omega
     clear hL hW
     go_wp2_with fail
     refine (letter_yes rb s k' _ hs hk' hr' HL.out).mono ?_
     rintro e w3 ⟨rfl,hr3,hk3,hm3⟩
     have hown3:=owns_mod hown hm3 (fun q hq he=>by omega)
     have hS3:=hS'.keep hm3 (fun h=>hne h.symm)
     have hm4:=hm.trans (hm3.mono (q:=fun i=>i=rb∨i=sb) (fun _ _ h=>.inl h))
     have hsz3:=hm4.size
     clear cc hown hr' hS' hm hm3 hsz
     have cc:=hS3.c2
     go_wp2_with (at_builtin;refine wpList_append_own _ rfl _ _ 75 rfl w.heap.size 5 i0 (.int .u8 0) 1 1 Tryz.underlying75 hi hz0 hz1 hz2 rfl (by decide) _ _ _ rfl (hown3.alloc _) ⟨w3.heap.size,0,none⟩ 1 1 [.int .u8 (g s k')] rfl rfl ?c1 ?c2 ?c3 ?c4 ?c5 ?_)
     case c1=>exact cell_one_new _ _ _
     case c2=>intro u hu;simp at hu;subst hu;rfl
     case c3=>unfold maxLen;omega
     case c4=>omega
     case c5=>simp;omega
     intro v' w4 hown4 hgrow _
     have hm5:=(hm4.alloc _).grown hgrow (fun q hq hlt=>by have:=(hown3.lt q hq).1;omega)
     have hg2:Mod (fun q=>w.heap.size≤q) w3 w4:=((Mod.refl _ w3).alloc _).grown hgrow (fun q hq _=>(hown3.lt q hq).1)
     have hr4:=hr3.keep hg2 (by omega)
     have hS4:=hS3.keep hg2 (by omega)
     have hown5:w4.ownsRow w.heap.size 5 1 v' (ag++[bt s k']).length (bvs (ag++[bt s k'])):=by rw [← bvs_snoc,List.length_append];exact hown4
     obtain ⟨ao',cap',rfl,-⟩:=owns_form hown4
     clear cc hown4 hgrow hown3 hr3 hS3 hm4 hg2 hsz3
     have cc:=hS4.c2
     have cf:=hS4.fz 2
     generalize hv':Value.slice ao' (ag.length+1) cap'=v' at *
     have hS6:=hS4.set2 v'
     have hmS:Mod (fun i=>i=sb) w4 (w4.setCell ⟨sb,2,none⟩ v'):=(Mod.refl (fun i=>i=sb) w4).setCell _ _ (fun _=>rfl)
     have hr6:=hr4.keep hmS hne
     have hown6:=owns_mod hown5 hmS (fun q hq he=>by omega)
     have hm6:=hm5.trans (hmS.mono (q:=fun i=>i=rb∨i=sb) (fun _ _ h=>.inr h))
     subst hv'
     clear hmS hS4 hr4 hown5 hm5
     have hl3:ag.length≤3:=by omega
     by_cases h4:ag.length=3
     ·have H4:Hid (ag.length=3):=h4
      clear h4
      have h4:((ag.length:Int)+1 == 4)=true:=by have:=H4.out;simp;omega
      go_wp2_with fail
      by_cases h41:g s (k'+1)=41
      ·have H41:Hid (g s (k'+1)=41):=h41
       clear h41
       refine (take_yes rb s (k'+1) 41 _ hs hk3 hr6 (by omega) H41.out).mono ?_
       rintro e w7 ⟨rfl,hr7,hk7,hm7⟩
       go_wp2
       go_ret
       exact ⟨hm6.trans (hm7.mono (fun _ _ h=>.inl h)),k'+2,hk7,hr7,.inl ⟨rfl,ag++[bt s k'],_,_,_,at_shut hA5 H41.out,hS6.keep hm7 (fun h=>hne h.symm),owns_mod hown6 hm7 (fun q hq he=>by omega)⟩⟩
      ·refine (take_no rb s (k'+1) 41 _ hs hk3 hr6 h41).mono ?_
       rintro e w7 ⟨rfl,hr7,hm7⟩
       go_wp2
       go_ret
       exact ⟨hm6.trans (hm7.mono (fun _ _ h=>.inl h)),k'+1,hk3,hr7,.inr ⟨rfl,stuck_of hA5 hk3 (.inl (by omega)) (by have:=H4.out;simp [nx,h41];omega)⟩⟩
     ·have h4':((ag.length:Int)+1 == 4)=false:=by simp;omega
      go_wp2_with fail
      refine (peek_any rb s (k'+1) _ hs hk3 hr6).mono ?_
      rintro e w7 ⟨rfl,nq,rfl⟩
      generalize w4.setCell ⟨sb,2,none⟩ (Value.slice ao' (ag.length+1) cap')=w6 at *
      clear cc cf
      by_cases hcm:g s (k'+1)=44
      ·have hq:((g s (k'+1):Int) != 44)=false:=by simp;omega
       have HC:Hid (g s (k'+1)=44):=hcm
       have hA6:=at_comma hA5 (by simp;omega) hcm
       clear hcm hA5
       have hlt:k'+1 < s.size:=lt_of_g (by have:=HC.out;omega)
       have h1:=hr6.c1
       have hf:=hr6.f1
       have hr8:=(hr6.drewN nq).set (k'+2)
       have hmR:Mod (fun i=>i=rb) w6 ((w6.drewN nq).setCell ⟨rb,1,none⟩ (.int .i64 (k'+2:Nat))):=(Mod.same nq _ w6).setCell _ _ (fun _=>rfl)
       have hS8:=hS6.keep hmR (fun h=>hne h.symm)
       have hown8:=owns_mod hown6 hmR (fun q hq he=>by omega)
       have hm8:=hm6.trans (hmR.mono (q:=fun i=>i=rb∨i=sb) (fun _ _ h=>.inl h))
       have hle8:=hS8.lenAt
       clear hmR hS6 hown6 hm6 hr6
       have e2:((k':Int)+1+1)=((k'+2:Nat):Int):=by omega
       go_wp2
       go_roundw
       case rel=>exact ⟨k'+2,ag++[bt s k'],_,by simp;omega,hown8,hr8,.inr ⟨by simp,hA6⟩,hS8,hm8,hlt⟩
       case measure=>refine Nat.lt_of_le_of_lt (Nat.le_of_eq (congrArg (4 - ·) hle8)) ?_;rw [HLen.out];simp [sliceLen];omega
      ·have hq:((g s (k'+1):Int) != 44)=true:=by simp;omega
       go_wp2_with fail
       by_cases h41:g s (k'+1)=41
       ·have H41:Hid (g s (k'+1)=41):=h41
        clear h41
        refine (take_yes rb s (k'+1) 41 _ hs hk3 (hr6.drewN nq) (by omega) H41.out).mono ?_
        rintro e w7 ⟨rfl,hr7,hk7,hm7⟩
        go_wp2
        go_ret
        exact ⟨(hm6.drewN nq).trans (hm7.mono (fun _ _ h=>.inl h)),k'+2,hk7,hr7,.inl ⟨rfl,ag++[bt s k'],_,_,_,at_shut hA5 H41.out,(hS6.drewN nq).keep hm7 (fun h=>hne h.symm),owns_mod (owns_drewN hown6 nq) hm7 (fun q hq he=>by omega)⟩⟩
       ·refine (take_no rb s (k'+1) 41 _ hs hk3 (hr6.drewN nq) h41).mono ?_
        rintro e w7 ⟨rfl,hr7,hm7⟩
        go_wp2
        go_ret
        exact ⟨(hm6.drewN nq).trans (hm7.mono (fun _ _ h=>.inl h)),k'+1,hk3,hr7,.inr ⟨rfl,stuck_of hA5 hk3 (.inl (by omega)) (by simp [nx,h41,hcm])⟩⟩
    ·have HL:Hid (isL (g s k')=false):=show isL (g s k')=false by simpa using hL
     clear hL
     go_wp2_with fail
     refine (letter_no rb s k' _ hs hk' hr' HL.out).mono ?_
     rintro e w3 ⟨rfl,hr3,hm3⟩
     go_wp2
     go_ret
     exact ⟨hm.trans (hm3.mono (fun _ _ h=>.inl h)),k',hk',hr3,.inr ⟨rfl,hW.stuck hk' HL.out⟩⟩
 ·go_enter Tryz.func142,Tryz.ntmps142
  go_wp2_with fail
  refine (take_no rb s k 40 _ hs hk hr h40).mono ?_
  rintro e w1 ⟨rfl,hr1,hm1⟩
  go_wp2
  go_ret
  exact ⟨hm1.mono (fun _ _ h=>.inl h),k,hk,hr1,.inr ⟨rfl,stuck_of hA hk (.inl (by omega)) (by rcases H6.out with h | h <;> simp [nx,h,h40])⟩⟩
set_option maxHeartbeats 800000 in
set_option maxRecDepth 100000 in
theorem statement_any (rb sb:Nat) (s:ByteArray) (k n le ar:Nat) (l:List St) (w:World) (hs:s.size≤300) (hk:k < s.size) (hr:Rd w rb s k) (hS:Se w sb 0 [] NoArgs 0)
  (hA:At s k 0 n le ar l ⟨0,[],[]⟩ false) (hn:n≠16) :
  Calls Tryz.prog 87 #[.pointer (some ⟨rb,0,none⟩),.pointer (some ⟨sb,0,none⟩)] w fun e w'=>Mod (fun i=>i=rb∨i=sb) w w'∧∃ k',k'≤s.size∧Rd w' rb s k' ∧
   ((e=.returned (.bool true)∧∃ x av le' ar',At s k' 0 (n+1) le' ar' (l++[x]) ⟨0,[],[]⟩ false∧Se w' sb x.name x.word av 0∧w'.ownsRow w.heap.size 5 1 av x.args.length (bvs x.args))∨(e=.returned (.bool false)∧Stuck s k')):=by
 have hne:=hS.ne hr
 have hrl:=hr.lt
 have hsl:=hS.lt
 go_enter Tryz.func87,Tryz.ntmps87
 go_wp2_with fail
 refine (head_any rb sb s k n le ar l _ hs hk hr hS hA hn).mono ?_
 rintro e w1 ⟨hm1,k1,hk1,hr1,⟨rfl,nm,hA1,hS1⟩ | ⟨rfl,hst⟩⟩
 ·clear hr hS
  have hz1:=hm1.size
  go_wp2_with fail
  refine (word_any rb sb s k1 n le ar l nm _ hs hk1 hr1 hS1 hA1).mono ?_
  rintro e w2 ⟨hm2,k2,hk2,hr2,⟨rfl,wd,le2,hA2,hS2,h6⟩ | ⟨rfl,hst⟩⟩
  ·clear hr1 hS1
   have hm12:=hm1.trans hm2
   have hz2:=hm12.size
   have H6:Hid (le2=6∨isL (g s k2)=false):=h6
   clear h6 hm1 hm2
   go_wp2_with fail
   refine (args_any rb sb s k2 n le2 ar l nm wd _ hs hk2 hr2 hS2 hA2 H6.out).mono ?_
   rintro e w3 ⟨hm3,k3,hk3,hr3,⟨rfl,ag,av,le3,ar3,hA3,hS3,hown3⟩ | ⟨rfl,hst⟩⟩
   ·have hm123:=hm12.trans hm3
    clear hm12 hm3 hr2 hS2
    by_cases h59:g s k3=59
    ·have H59:Hid (g s k3=59):=h59
     clear h59
     go_wp2_with fail
     refine (take_yes rb s k3 59 _ hs hk3 hr3 (by omega) H59.out).mono ?_
     rintro e w4 ⟨rfl,hr4,hk4,hm4⟩
     go_wp2
     go_ret
     have hA4:=at_end hA3 H59.out
     exact ⟨hm123.trans (hm4.mono (fun _ _ h=>.inl h)),k3+1,hk4,hr4,.inl ⟨rfl,⟨nm,wd,ag⟩,av,_,_,hA4,hS3.keep hm4 (fun h=>hne h.symm),owns_mod (owns_base hown3 hz2) hm4 (fun q hq he=>by omega)⟩⟩
    ·go_wp2_with fail
     refine (take_no rb s k3 59 _ hs hk3 hr3 h59).mono ?_
     rintro e w4 ⟨rfl,hr4,hm4⟩
     go_wp2
     go_ret
     exact ⟨hm123.trans (hm4.mono (fun _ _ h=>.inl h)),k3,hk3,hr4,.inr ⟨rfl,stuck_of hA3 hk3 (.inl (by omega)) (by simp [nx,h59])⟩⟩
   ·go_wp2
    go_ret
    exact ⟨hm12.trans hm3,k3,hk3,hr3,.inr ⟨rfl,hst⟩⟩
  ·go_wp2
   go_ret
   exact ⟨hm1.trans hm2,k2,hk2,hr2,.inr ⟨rfl,hst⟩⟩
 ·go_wp2
  go_ret
  exact ⟨hm1,k1,hk1,hr1,.inr ⟨rfl,hst⟩⟩
theorem Tryz.info66:(Tryz.prog.info? 83).map (fun i=>(i.zero,i.size,i.bytes))=some (some (.agg #[.int .u8 0,.string .empty,.slice none 0 0,.int .i64 0]),4,56):=by kernel_rfl
structure It where
 x:St
 av:Value
 wt:Nat
def secells (t:It):List Value:=[.int .u8 t.x.name,S t.x.word,t.av,.int .i64 (t.wt:Int)]
def cellsOf (q:List It):List Value:=q.flatMap secells
theorem cellsOf_snoc (q:List It) (t:It):cellsOf q++secells t=cellsOf (q++[t]):=by simp [cellsOf]
theorem cellsOf_at (q:List It) (j i:Nat) (hj:j < q.length) (hi:i < 4):(cellsOf q)[j*4+i]?=(secells q[j])[i]?:=by
 induction q generalizing j with
 | nil=>simp at hj
 | cons t q ih =>
  cases j with
  | zero =>
   simp only [cellsOf,List.flatMap_cons,Nat.zero_mul,Nat.zero_add,List.getElem_cons_zero]
   rw [List.getElem?_append_left (by simpa [secells] using hi)]
  | succ j =>
   have:=ih j (by simpa using hj)
   simp only [cellsOf,List.flatMap_cons,List.getElem_cons_succ] at *
   rw [List.getElem?_append_right (by simp [secells];omega),← this]
   congr 1
   simp [secells];omega
def ArgsOk (w:World) (base:Nat) (q:List It):Prop:=∀ t∈q,w.ownsRow base 5 1 t.av t.x.args.length (bvs t.x.args)
def Lst (w:World) (base:Nat) (v:Value) (q:List It):Prop:=w.ownsRow base 83 4 v q.length (cellsOf q)∧ArgsOk w base q
theorem cell_new4 (w:World) (a b c d:Value) (t:TypeId):∀ j u,[a,b,c,d][j]?=some u→(w.alloc (.cells #[a,b,c,d] t)).cell? ((⟨w.heap.size,0,none⟩:Addr).add j)=some u:=by
 intro j u hj
 match j,hj with
 | 0,hj=>simp at hj;subst hj;simp [Addr.add]
 | 1,hj=>simp at hj;subst hj;simp [Addr.add]
 | 2,hj=>simp at hj;subst hj;simp [Addr.add]
 | 3,hj=>simp at hj;subst hj;simp [Addr.add]
section
variable {w w':World} {base:Nat} {v:Value} {q:List It}
theorem Lst.nil (w:World) (base:Nat):Lst w base (.slice none 0 0) []:=⟨World.ownsRow_nil _ _ _ _,fun _ h=>by simp at h⟩
theorem ArgsOk.mod {p:Nat→Prop} (h:ArgsOk w base q) (hm:Mod p w w') (hp:∀ g,base≤g→g < w.heap.size→p g→False):ArgsOk w' base q :=
 fun t ht=>owns_mod' (h t ht) hm (fun g hg hpg=>by have:=(h t ht).lt g hg;exact hp g this.1 this.2 hpg)
theorem Lst.mod {p:Nat→Prop} (h:Lst w base v q) (hm:Mod p w w') (hp:∀ g,base≤g→g < w.heap.size→p g→False):Lst w' base v q :=
 ⟨owns_mod' h.1 hm (fun g hg hpg=>by have:=h.1.lt g hg;exact hp g this.1 this.2 hpg),h.2.mod hm hp⟩
theorem ArgsOk.grown {n:Nat} {xs:List Value} (h:ArgsOk w base q) {w2:World} {g0:Nat} (hv:w.ownsRow g0 83 4 v n xs) (hg:w.grownBy w2 v.ownBlock):ArgsOk w2 base q:=by
 intro t ht
 refine owns_mod' (p:=fun i=>v.ownBlock=some i) (h t ht) ⟨hg.os,hg.tape,hg.output,hg.size,fun k hk hn=>hg.block k hk (fun e=>hn e.symm)⟩ ?_
 intro g hgt hgv
 obtain ⟨_,⟨he,_⟩ | ⟨g1,c1,cur1,he1,_,hb1,_⟩⟩:=h t ht
 ·rw [he] at hgt;simp [Value.ownBlock] at hgt
 ·obtain ⟨_,⟨he,_⟩ | ⟨g2,c2,cur2,he2,_,hb2,_⟩⟩:=hv
  ·rw [he] at hgv;simp [Value.ownBlock] at hgv
  ·rw [he1] at hgt;rw [he2] at hgv
   simp [Value.ownBlock] at hgt hgv
   subst hgt;subst hgv
   rw [hb1] at hb2;simp at hb2
theorem Lst.low {base':Nat} (h:Lst w base v q) (hb:base'≤base):Lst w base' v q:=⟨owns_base h.1 hb,fun t ht=>owns_base (h.2 t ht) hb⟩
theorem Lst.form (h:Lst w base v q):∃ ao cap,v=.slice ao q.length cap∧(ao=none→q.length=0∧cap=0):=owns_form h.1
theorem Lst.cell {ao:Option Addr} {cap:Nat} (h:Lst w base (.slice ao q.length cap) q) {j:Nat} (hj:j < q.length) :
  ∃ gb,ao=some ⟨gb,0,none⟩∧w.cell? ⟨gb,j*4,none⟩=some (.int .u8 q[j].x.name)∧w.cell? ⟨gb,j*4+1,none⟩=some (S q[j].x.word)∧w.cell? ⟨gb,j*4+2,none⟩=some q[j].av∧w.cell? ⟨gb,j*4+3,none⟩=some (.int .i64 (q[j].wt:Int)):=by
 obtain ⟨gb,rfl,h0⟩:=owns_cell h.1 (j:=j*4+0) (by omega)
 have h1:=h.1.cellAt (j*4+1) (by omega)
 have h2:=h.1.cellAt (j*4+2) (by omega)
 have h3:=h.1.cellAt (j*4+3) (by omega)
 rw [cellsOf_at q j _ hj (by omega)] at h0 h1 h2 h3
 exact ⟨gb,rfl,by simpa [secells] using h0,by simpa [secells] using h1,by simpa [secells] using h2,by simpa [secells] using h3⟩
end
set_option maxHeartbeats 1600000 in
set_option maxRecDepth 100000 in
theorem parse_any (s:ByteArray) (w:World) (hs:s.size≤300) :
  Calls Tryz.prog 54 #[.string s] w fun e w'=>Mod (fun _=>False) w w' ∧
   ((∃ v q,e=.returned (.tuple #[v,.int .i64 0,.bool true])∧Lst w' w.heap.size v q∧Whole s∧(gaA s s.size).l=q.map It.x∧q.length≤16)∨(∃ k:Nat,e=.returned (.tuple #[.slice none 0 0,.int .i64 k,.bool false])∧Stuck s k)):=by
 obtain ⟨i0,hi,hz0,hz1,hz2⟩:=info_parts Tryz.info66
 go_enter Tryz.func54,Tryz.ntmps54
 go_wp2
 have hR0:Rd (w.alloc (.cells #[.string s,.int .i64 0] 138)) w.heap.size s 0:=by unfold Rd;show (w.heap.push _)[w.heap.size]?=_;simp
 go_loopw [6] (fun v wr=>∃ (k:Nat) (q:List It) (le ar:Nat),q.length≤16∧Lst wr (w.heap.size+1) v q∧Rd wr w.heap.size s k∧At s k 0 q.length le ar (q.map It.x) ⟨0,[],[]⟩ false∧Mod (fun _=>False) w wr∧k≤s.size)
  (fun v _=>16 - sliceLen v)
 case atStart=>exact ⟨0,[],0,0,by simp,Lst.nil _ _,hR0,at_start s,(Mod.refl _ w).alloc _,by omega⟩
 case round =>
  clear hR0
  obtain ⟨k,q,le,ar,hq,hL,hr,hA,hm,hk⟩:=hrel
  obtain ⟨ao,cap,rfl,-⟩:=hL.form
  have h1:=hr.c1
  have hrl:=hr.lt
  have hsz:=hm.size
  by_cases hlt:k < s.size
  ·by_cases h16:q.length=16
   ·have H16:Hid (q.length=16):=h16
    clear h16
    have h16:((q.length:Int) == 16)=true:=by have:=H16.out;simp;omega
    go_wp2
    go_quiet (fail)
    go_wp2
    go_ret3
    exact ⟨hm.drewN _,.inr ⟨k,rfl,stuck_of hA hk (.inr hlt) (by simp [nx,H16.out])⟩⟩
   ·have h16':((q.length:Int) == 16)=false:=by simp;omega
    go_wp2_with fail
    have hS1:Se (wr.alloc (.cells #[.int .u8 0,.string .empty,.slice none 0 0,.int .i64 0] 83)) wr.heap.size 0 [] NoArgs 0:=by unfold Se;show (wr.heap.push _)[wr.heap.size]?=_;simp;exact ⟨rfl,rfl⟩
    have hm1:Mod (fun _=>False) wr (wr.alloc (.cells #[.int .u8 0,.string .empty,.slice none 0 0,.int .i64 0] 83)):=(Mod.refl _ wr).alloc _
    have hr1:=hr.keep hm1 (fun f=>f)
    refine (statement_any w.heap.size wr.heap.size s k q.length le ar (q.map It.x) _ hs hlt hr1 hS1 hA h16).mono ?_
    rintro e w2 ⟨hm2,k2,hk2,hr2,⟨rfl,x,av,le2,ar2,hA2,hS2,hown2⟩ | ⟨rfl,hst⟩⟩
    ·obtain ⟨ao2,cap2,rfl,-⟩:=owns_form hown2
     have hmW:Mod (fun i=>i=w.heap.size) wr w2:=((hm1.mono (fun _ _ f=>f.elim)).trans hm2).mono (fun i hi h=>h.resolve_right (by omega))
     have hL2:=hL.mod hmW (fun q1 h1 _ h2=>by omega)
     have hA2':ArgsOk w2 (w.heap.size+1) [⟨x,.slice ao2 x.args.length cap2,0⟩]:=fun t ht=>by
      simp at ht;subst ht;exact owns_base hown2 (by simp;omega)
     have hmF:Mod (fun _=>False) w w2:=⟨hmW.os.trans hm.os,hmW.tape.trans hm.tape,hmW.output.trans hm.output,Nat.le_trans hm.size hmW.size,fun i hi _=>(hmW.block i (by omega) (by omega)).trans (hm.block i hi (fun f=>f))⟩
     have hsz2:=hmF.size
     have c0:=hS2.c0
     have c1:=hS2.c1
     have c2:=hS2.c2
     have c3:=hS2.c3
     clear hL hm hm1 hm2 hS1 hr1 hr hA hown2 h1
     go_wp2_with (at_builtin;refine wpList_append_own _ rfl _ _ 47 rfl (w.heap.size+1) 83 i0 _ 4 56 Tryz.underlying47 hi hz0 hz1 hz2 rfl (by decide) _ _ _ rfl (hL2.1.alloc _) ⟨w2.heap.size,0,none⟩ 1 1 (secells ⟨x,.slice ao2 x.args.length cap2,0⟩) rfl rfl ?c1 ?c2 ?c3 ?c4 ?c5 ?_)
     case c1=>exact cell_new4 _ _ _ _ _ _
     case c2=>intro u hu;simp [secells] at hu;rcases hu with rfl | rfl | rfl | rfl <;> rfl
     case c3=>unfold maxLen;omega
     case c4=>omega
     case c5=>have:=hr2.lt;simp;omega
     intro v' w4 hown4 hgrow _
     have hgm:Mod (fun i=>w.heap.size+1≤i) w2 w4:=((Mod.refl _ w2).alloc _).grown hgrow (fun i hi _=>(hL2.1.lt i hi).1)
     have hr4:=hr2.keep hgm (by omega)
     have hm4:Mod (fun _=>False) w w4:=⟨hgm.os.trans hmF.os,hgm.tape.trans hmF.tape,hgm.output.trans hmF.output,Nat.le_trans hmF.size hgm.size,fun i hi _=>(hgm.block i (by omega) (by omega)).trans (hmF.block i hi (fun f=>f))⟩
     have hal:Mod (fun _=>False) w2 (w2.alloc (.cells #[.int .u8 x.name,S x.word,.slice ao2 x.args.length cap2,.int .i64 0] 83)):=(Mod.refl _ w2).alloc _
     have hAr:ArgsOk w4 (w.heap.size+1) (q++[⟨x,.slice ao2 x.args.length cap2,0⟩]):=by
      intro t ht
      rcases List.mem_append.1 ht with ht | ht
      ·exact (hL2.2.mod hal (fun _ _ _ f=>f)).grown (hL2.1.alloc _) hgrow t ht
      ·exact (hA2'.mod hal (fun _ _ _ f=>f)).grown (hL2.1.alloc _) hgrow t ht
     have hL4:Lst w4 (w.heap.size+1) v' (q++[⟨x,.slice ao2 x.args.length cap2,0⟩]):=⟨by rw [← cellsOf_snoc,List.length_append];exact hown4,hAr⟩
     obtain ⟨ao4,cap4,rfl,-⟩:=owns_form hown4
     clear hown4 hgrow hgm hL2 hA2' hmF hr2 hmW hS2 c0 c1 c2 c3 hal hAr
     go_wp2
     go_roundw
     case rel=>exact ⟨k2,q++[⟨x,.slice ao2 x.args.length cap2,0⟩],le2,ar2,by simp;omega,hL4,hr4,by simpa using hA2,hm4,hk2⟩
     case measure=>simp [sliceLen];omega
    ·have h2:=hr2.c1
     have hmW:Mod (fun i=>i=w.heap.size) wr w2:=((hm1.mono (fun _ _ f=>f.elim)).trans hm2).mono (fun i hi h=>h.resolve_right (by omega))
     have hmF:Mod (fun _=>False) w w2:=⟨hmW.os.trans hm.os,hmW.tape.trans hm.tape,hmW.output.trans hm.output,Nat.le_trans hm.size hmW.size,fun i hi _=>(hmW.block i (by omega) (by omega)).trans (hm.block i hi (fun f=>f))⟩
     go_wp2
     go_quiet (fail)
     go_wp2
     go_ret3
     exact ⟨hmF.drewN _,.inr ⟨k2,rfl,hst⟩⟩
  ·have hks:k=s.size:=by omega
   subst hks
   go_wp2
   go_ret3
   exact ⟨hm,.inl ⟨_,q,rfl,hL.low (by omega),⟨_,hA.1,rfl⟩,by rw [hA.2],hq⟩⟩
end Go.Proofs.YtmnfndpbblpjiaaGreatDoor

/- The tables of words, on both sides. -/
namespace Go.Proofs.YtmnfndpbblpjiaaGreatDoor
open Go.RowKit Pu
set_option maxHeartbeats 1000000 in
theorem sortGiven_any (s:ByteArray) (w:World):Calls Tryz.prog 145 #[.string s] w fun e w'=>e=.returned (.int .u8 (sG s.toList))∧w=w':=by
 go_enter Tryz.func145,Tryz.ntmps145
 go_wp2
 all_goals go_ret
 all_goals refine ⟨?_,rfl⟩
 all_goals simp_all [sG]
set_option maxHeartbeats 1000000 in
theorem weightGiven_any (s:ByteArray) (sum last:Nat) (w:World) (h1:sum≤1000) (h2:last≤1000):Calls Tryz.prog 146 #[.string s,.int .i64 sum,.int .i64 last] w fun e w'=>e=.returned (.int .i64 (wG s.toList sum last))∧w=w':=by
 go_enter Tryz.func146,Tryz.ntmps146
 go_wp2
 all_goals go_ret
 all_goals refine ⟨?_,rfl⟩
 all_goals simp_all [wG]
set_option maxHeartbeats 2000000 in
theorem questionTakes_any (s:ByteArray) (w:World):Calls Tryz.prog 143 #[.string s] w fun e w'=>e=.returned (.tuple #[S (qT s.toList).1,.bool (qT s.toList).2])∧w=w':=by
 go_enter Tryz.func143,Tryz.ntmps143
 go_wp2
 all_goals go_ret2
 all_goals refine ⟨?_,rfl⟩
 all_goals simp_all [qT]
set_option maxHeartbeats 2000000 in
theorem constructionTakes_any (s:ByteArray) (w:World):Calls Tryz.prog 144 #[.string s] w fun e w'=>e=.returned (.tuple #[S (cT s.toList).1,.bool (cT s.toList).2])∧w=w':=by
 go_enter Tryz.func144,Tryz.ntmps144
 go_wp2
 all_goals go_ret2
 all_goals refine ⟨?_,rfl⟩
 all_goals simp_all [cT]
set_option maxHeartbeats 4000000 in
set_option maxRecDepth 100000 in
theorem form_any (s:ByteArray) (w:World):Calls Tryz.prog 113 #[.string s] w fun e w'=>e=.returned (.tuple #[S (fm s.toList).1,.int .u8 (fm s.toList).2])∧w=w':=by
 go_enter Tryz.func113,Tryz.ntmps113
 go_wp2
 all_goals go_ret2
 all_goals refine ⟨?_,rfl⟩
 all_goals simp_all [fm]
end Go.Proofs.YtmnfndpbblpjiaaGreatDoor

/- The document's Run, and a step that asks for it. -/
import Derived.Test.YtmnfndpbblpjiabGreatDoorZx11
import Derived.Test.YtmnfndpbblpjiabGreatDoorZx27
import Derived.Test.YtmnfndpbblpjiabGreatDoorZx49
set_option maxHeartbeats 1600000
set_option maxRecDepth 100000
namespace Go.Proofs.YtmnfndpbblpjiabGreatDoor
open Go.RowKit Pu
theorem VL {l:List St} {C:List eY} {V:List Nat} (h:XB l C V) {k:Nat} {x:St} (hx:l[k]?=some x):iZ (aT l x)=IE x:=by
 have hq:=h.q k x hx
 rcases bW (h.k k x hx) with e | e | e | e | e | e | e | e | e | e | e | e | e | e | e | e | e | e<;>rw[e]at hq<;>simp[aT,e,iZ,IE]
 exact fun e0=>by have:=hq.2 e0;simp[fm]at this
theorem Lb {p:List (St × Nat)} (h:Ok p) (hl:p.length<=16):JY (aL p)=aY (cmds (aL p)):=by
 have hS:=XB.of h hl
 unfold JY aY cmds
 rw[List.map_map]
 refine congrArg List.sum (List.map_congr_left fun x hx=>?_)
 obtain⟨k,hk,e⟩:=List.getElem_of_mem hx
 exact (VL hS (k:=k) (by rw[List.getElem?_eq_getElem hk,e])).symm
theorem Pt {p:List (St × Nat)} (hl:p.length<=16):aY (cmds (aL p))<=32:=by
 have:∀ C:List eY,aY C<=2*C.length:=fun C=>by
  induction C with
  | nil=>simp[aY]
  | cons c C ih =>
   have:iZ c<=2:=by cases c using eY.el<;>simp[iZ]
   simp only[aY,List.map_cons,List.sum_cons,List.length_cons]at *
   omega
 have:=this (cmds (aL p))
 rw[iE]at this
 omega
theorem Oh (s inp:ByteArray) (w:World) (hs:300 < s.size\/140 < inp.size) (hm:s.size<=maxLen) (hm2:inp.size<=maxLen):Calls Tryz.prog 42 #[.string s,.string inp] w fun e w'=>e=.returned (.tuple #[.string ⟨#[]⟩,.int .i64 1])/\w=w':=by
 unfold maxLen at hm hm2
 by_cases h1:300 < s.size
 ·have i1:(300:Int) < (s.size:Int):=by omega
  clear hs
  go_in
  go_wp2
  go_ret2
  exact⟨rfl,rfl⟩
 ·have i1:¬ (300:Int) < (s.size:Int):=by omega
  have i2:(140:Int) < (inp.size:Int):=by omega
  clear hs
  go_in
  go_wp2
  go_ret2
  exact⟨rfl,rfl⟩
theorem Sq (s inp:ByteArray) (w:World) (hs:s.size<=300) (hi:inp.size<=140):Calls Tryz.prog 42 #[.string s,.string inp] w fun e w'=>Mod (fun _=>False) w w'/\∃ r,xH s inp r/\e=.returned (.tuple #[.string r.1,.int .i64 (r.2:Nat)]):=by
 have i1:¬ (300:Int) < (s.size:Int):=by omega
 have i2:¬ (140:Int) < (inp.size:Int):=by omega
 go_in
 go_wp2_with fail
 refine (og s w hs).mono ?_
 rintro e w2 ⟨⟨a,b,hA,rfl⟩,hm⟩
 by_cases h0:a=0
 ·subst h0
  obtain⟨hw,-,p,hok,hp⟩:=hA.zero
  have h16:p.length<=16:=by have:=(zk hw).1;rw[<- hp,qY]at this;exact this
  have HZ:Hid _:=XB.of hok h16
  have HN:Hid _:=Lb hok h16
  have HQ:Hid _:=fun ins=>za ins _ (xw hok)
  have Zp:Hid _:=Pt h16
  have HA:Hid (∀ r,r=VQ (bF s s.size).l inp->xH s inp r):=show _ from fun r e=>⟨0,b,hA,.inr ⟨rfl,e⟩⟩
  rw[hp]at HZ HN HQ Zp
  have hst:=fun W=>qC s W hs (ou hw)
  have hll:=HZ.out.n
  clear hA hok hw h16 hp
  generalize (bF s s.size).l=l at *
  go_wp2_with fail
  refine (hst _).mono ?_
  rintro e w3 ⟨aC,v,rfl,hL⟩
  go_wp2_with fail
  refine (nP inp w3 (Nat.le_trans hi (by decide))).mono ?_
  replace hm:=hm.trans aC
  clear aC hst
  cases hin:iG inp with
  | none =>
   have HA1:Hid (xH s inp (⟨#[]⟩,9)):=show _ from HA.out _ (by rw[VQ,hin])
   clear hin
   rintro e w4 ⟨aO,rfl⟩
   have gy:=hm.trans aO
   clear hm aO hL
   go_wp2
   go_ret2
   exact⟨gy,_,HA1.out,rfl⟩
  | some ins =>
   rintro e w4 ⟨aO,vi,rfl,hI⟩
   have gy:=hm.trans aO
   have hL4:=hL.mod aO
   clear hm aO hL
   have ZH:Hid _:=nO hin
   obtain⟨ai,XL,rfl,-⟩:=aj hI
   have rA:=yE v l _ w4 (by omega) hL4
   rw[HN.out]at rA
   by_cases hc:ins.length=aY (cmds l)
   ·have HA1:Hid (xH s inp (rG ins (cmds l) 0 0 [] ⟨#[]⟩,0)):=show _ from HA.out _ (by rw[VQ,hin];simp only;rw[if_neg (fun e=>e hc)])
    have YB:=BF v _ l (cmds l) _ ins _ _ w4 HZ.out hL4 hI ZH.out hc.symm (by rw[hc];exact Zp.out)
    rw[HQ.out]at YB
    generalize rG ins (cmds l) 0 0 [] ⟨#[]⟩=rr at *
    rw[<- hc]at rA
    clear hin hI hL4 hc
    go_wp2_with fail
    refine rA.mono ?_
    rintro e w5 ⟨rfl,rfl⟩
    go_wp2_with fail
    refine YB.mono ?_
    rintro e w6 ⟨rfl,uN⟩
    have fT:=gy.trans uN
    clear uN gy YB rA
    go_wp2
    go_ret2
    exact⟨fT,_,HA1.out,rfl⟩
   ·have HA1:Hid (xH s inp (⟨#[]⟩,9)):=show _ from HA.out _ (by rw[VQ,hin];simp only;rw[if_pos hc])
    have hb:((ins.length:Int) != (aY (cmds l):Int))=true:=by rw[bne_iff_ne];omega
    clear hin hI hL4 hc
    go_wp2_with fail
    refine rA.mono ?_
    rintro e w5 ⟨rfl,rfl⟩
    clear rA
    go_wp2
    go_ret2
    exact⟨gy,_,HA1.out,rfl⟩
 ·have HA:Hid (xH s inp (⟨#[]⟩,a)):=show _ from ⟨a,b,hA,.inl ⟨h0,rfl⟩⟩
  have hb:((a:Int) != 0)=true:=by rw[bne_iff_ne];omega
  clear hA
  go_wp2
  go_ret2
  exact⟨hm,_,HA.out,rfl⟩
theorem Dh:uK 6 6:=by
 intro kd n a b w h1 h2 ha hb hn
 obtain rfl:kd=6:=by omega
 have hm0:Mod (fun _=>False) w (w.alloc (.cells #[.int .i64 6,.int .i64 n,.string a,.string b] 56)):=(Mod.refl _ w).alloc _
 have hO:=qQ w 6 n a b
 clear h1 h2 hn
 by_cases hs:a.size<=300/\b.size<=140
 ·have hex:=fun w=>VU a b w hs.1 hs.2
  have hrx:=fun w=>Sq a b w hs.1 hs.2
  clear hs
  go_in
  go_wp2_with fail
  refine (hex _).mono ?_
  rintro e w1 ⟨hm1,r,hr,rfl⟩
  have mZ:=hO.keep hm1 (fun f=>f)
  have c2:=mZ.c2
  have c3:=mZ.c3
  go_wp2_with fail
  refine (hrx _).mono ?_
  rintro e w2 ⟨hm2,r',hr',rfl⟩
  cases hr.unique hr'
  have hm:=hm0.trans (hm1.trans hm2)
  clear hm0 hm1 hm2 c2 c3 mZ hO hex hrx hr hr'
  go_wp2_with (go_at_call 39;refine (fV _ _).mono ?_;rintro e w' ⟨rfl,rfl⟩)
  go_ret
  exact⟨rfl,hm⟩
 ·have hs':300 < a.size\/140 < b.size:=by omega
  clear hs
  have hex:=fun w=>Sr a b w hs' ha hb
  have hrx:=fun w=>Oh a b w hs' ha hb
  clear hs'
  go_in
  go_wp2_with fail
  refine (hex _).mono ?_
  rintro e w1 ⟨rfl,rfl⟩
  have c2:=hO.c2
  have c3:=hO.c3
  go_wp2_with fail
  refine (hrx _).mono ?_
  rintro e w2 ⟨rfl,rfl⟩
  clear c2 c3 hO hex hrx
  go_wp2_with (go_at_call 39;refine (fV _ _).mono ?_;rintro e w' ⟨rfl,rfl⟩)
  go_ret
  exact⟨rfl,hm0⟩
end Go.Proofs.YtmnfndpbblpjiabGreatDoor

/- The document's report. -/
import Derived.Test.YtmnfndpbblpjiabGreatDoorZx48
set_option maxHeartbeats 20000000
set_option maxRecDepth 100000
namespace Go.Proofs.YtmnfndpbblpjiabGreatDoor
open Go.RowKit Pu
theorem NI.grow {w w':World} {x:NV} {i:Int} {m base n:Nat} {v:Value} {xs:List Value} (h:NI w x i m) (hO:w.ownsRow base 169 16 v n xs) (hm:Mod (fun i=>v.ownBlock=some i) w w'):NI w' x i m:=by
 obtain⟨l,h1,h2,h3⟩:=h
 refine⟨l,h1,⟨h2.1,dW h2.2 hm (fun g hg hp=>?_)⟩,h3⟩
 obtain⟨_,⟨he,_⟩ | ⟨g1,c,cur,he,_,hg1,_⟩⟩:=h2.2
 ·rw[he]at hg;simp[Value.ownBlock]at hg
 ·rw[he]at hg;simp[Value.ownBlock]at hg
  subst hg
  obtain⟨_,⟨he2,_⟩ | ⟨g2,c2,abJ,he2,_,hg2,_⟩⟩:=hO
  ·rw[he2]at hp;simp[Value.ownBlock]at hp
  ·rw[he2]at hp;simp[Value.ownBlock]at hp
   subst hp
   rw[hg1]at hg2;simp at hg2
theorem PI.grow {w w':World} {x:PV} {i:T3} {m base n:Nat} {v:Value} {xs:List Value} (h:PI w x i m) (hO:w.ownsRow base 169 16 v n xs) (hm:Mod (fun i=>v.ownBlock=some i) w w'):PI w' x i m:=⟨h.x.grow hO hm,h.y.grow hO hm,h.w.grow hO hm⟩
theorem LI.grow {w w':World} {x:LV} {i:RL} {m d base n:Nat} {v:Value} {xs:List Value} (h:LI w x i m d) (hO:w.ownsRow base 169 16 v n xs) (hm:Mod (fun i=>v.ownBlock=some i) w w'):LI w' x i m d:=⟨h.p.grow hO hm,h.x.grow hO hm,h.y.grow hO hm⟩
theorem Made.grow {w w':World} {C:List eY} {W:List Nat} {A:List rM} {Z:List TV} {base n:Nat} {v:Value} {xs:List Value} (h:Made w C W A Z) (hO:w.ownsRow base 169 16 v n xs) (hm:Mod (fun i=>v.ownBlock=some i) w w'):Made w' C W A Z:=⟨h.c,h.z,h.n,h.b,fun j hj=>(h.p j hj).grow hO hm,fun j hj=>by obtain⟨m,h1,h2⟩:=h.l j hj;exact⟨m,h1,h2.grow hO hm⟩⟩
theorem Made.aL {w:World} {C:List eY} {W:List Nat} {A:List rM} {Z:List TV} {k:Nat} {cs:Array Value} {t:TypeId} (h:Made w C W A Z) (hb:Bk w k cs t) (ht:t≠3) (i:Nat) (vs:List Value):Made (Go.Proofs.YtmnfndpbblpjiabGreatDoor.sets w k i vs) C W A Z:=⟨h.c,h.z,h.n,h.b,fun j hj=>(h.p j hj).aL hb ht i vs,fun j hj=>by obtain⟨m,h1,h2⟩:=h.l j hj;exact⟨m,h1,h2.aL hb ht i vs⟩⟩
structure New (w:World) (c:eY) (v k:Nat) (t:rM) (z:TV):Prop where
 p:eT c=80->PI w z.p t.P (v*(13*2 ^ k))
 l:eT c=76->∃ m,2*m<=v*(13*2 ^ k)/\LI w z.l t.L m m
theorem New.grow {w w':World} {c:eY} {v k base n:Nat} {t:rM} {z:TV} {va:Value} {xs:List Value} (h:New w c v k t z) (hO:w.ownsRow base 169 16 va n xs) (hm:Mod (fun i=>va.ownBlock=some i) w w'):New w' c v k t z:=⟨fun e=>(h.p e).grow hO hm,fun e=>by obtain⟨m,h1,h2⟩:=h.l e;exact⟨m,h1,h2.grow hO hm⟩⟩
theorem New.aL {w:World} {c:eY} {v k b:Nat} {t:rM} {z:TV} {cs:Array Value} {ty:TypeId} (h:New w c v k t z) (hb:Bk w b cs ty) (ht:ty≠3) (i:Nat) (vs:List Value):New (Go.Proofs.YtmnfndpbblpjiabGreatDoor.sets w b i vs) c v k t z:=⟨fun e=>(h.p e).aL hb ht i vs,fun e=>by obtain⟨m,h1,h2⟩:=h.l e;exact⟨m,h1,h2.aL hb ht i vs⟩⟩
def WC (ins:List Int) (C:List eY) (V:List Nat) (w:World) (va vs vn vi:Value) (wr:World):Prop:=∃ (k:Nat) (A:List rM) (Z:List TV) (s:ByteArray),k<=C.length/\vi=.int .i64 k/\vn=.int .i64 (aY (C.take k):Nat)/\vs=.string s/\s.size<=k/\jq wr w.heap.size va Z/\Made wr (C.take k) (V.take k) A Z/\kI ins C 0 0 [] ⟨#[]⟩=kI ins (C.drop k) k (aY (C.take k)) A s/\Mod (fun _=>False) w wr
theorem Fw (C:List eY) (c:eY):aY (C++[c])=aY C+iZ c:=by simp[aY]
theorem KT {w:World} {g j:Nat} {v:Value} (h:w.cell? ⟨g,j,none⟩=some v):g < w.heap.size:=by
 by_cases hg:g < w.heap.size
 ·exact hg
 ·exfalso
  simp[World.cell?,Array.getElem?_eq_none (Nat.le_of_not_lt hg)]at h
theorem DN {w:World} {g k j:Nat} {v:Value} (h:w.cell? ⟨g,j,none⟩=some v) (hg:g≠k) (i:Nat) (vs:List Value):(Go.Proofs.YtmnfndpbblpjiabGreatDoor.sets w k i vs).cell? ⟨g,j,none⟩=some v:=by
 have:Cl w g j #[v]:=fun i' c e=>by
  cases i' with
  | zero=>cases e;exact h
  | succ n=>simp at e
 exact this.os hg i vs 0 v rfl
theorem XP {C:List eY} {k:Nat} {c:eY} (h:C[k]?=some c):aY (C.take k)+iZ c<=aY C:=by
 obtain⟨hk,e⟩:=List.getElem?_eq_some_iff.1 h
 have:C=C.take k++c :: C.drop (k+1):=by rw[<- e,List.getElem_cons_drop,List.take_append_drop]
 conv=>rhs;rw[this]
 simp only[aY,List.map_append,List.map_cons,List.sum_append,List.sum_cons]
 omega
theorem Eb {c:eY} (h:eT c=63):iZ c=0:=by cases c using eY.el<;>simp_all[eT,iZ]
theorem YE {l:List St} {x:St} (h0:(fm x.word).2≠0) (h:x.word≠[112,116]):iZ (aT l x)=0:=by
 rcases bW h0 with e | e | e | e | e | e | e | e | e | e | e | e | e | e | e | e | e | e
 ·exact absurd e h
 all_goals (rw[aT,e];rfl)
theorem qW {ins:List Int} {C:List eY} {V:List Nat} {w w4:World} {va:Value} {k v:Nat} {c:eY} {A:List rM} {Z:List TV} {s s':ByteArray} {t:rM} {z:TV} {vn vk:Int} (hc:C[k]?=some c) (hv:V[k]?=some v) (h64:v<=64) (hO:jq w4 w.heap.size va (Z++[z])) (qb:Made w4 (C.take k) (V.take k) A Z) (hN:New w4 c v k t z)
  (hrep:kI ins C 0 0 [] ⟨#[]⟩=kI ins (C.drop k) k (aY (C.take k)) A s) (hst:∀ r,kI ins (c :: r) k (aY (C.take k)) A s=kI ins r (k+1) (aY (C.take k)+iZ c) (A++[t]) s') (hs:s'.size<=k+1) (hm:Mod (fun _=>False) w w4) (hvn:vn=((aY (C.take k)+iZ c:Nat):Int)) (hvk:vk=((k+1:Nat):Int)):WC ins C V w va (.string s') (.int .i64 vn) (.int .i64 vk) w4:=by
 obtain⟨hk,rfl⟩:=List.getElem?_eq_some_iff.1 hc
 obtain⟨hV,rfl⟩:=List.getElem?_eq_some_iff.1 hv
 have e1:C.take (k+1)=C.take k++[C[k]]:=List.take_succ_eq_append_getElem hk
 have e2:V.take (k+1)=V.take k++[V[k]]:=List.take_succ_eq_append_getElem hV
 have hl:(C.take k).length=k:=by simp;omega
 refine⟨k+1,A++[t],Z++[z],s',hk,by rw[hvk],?_,rfl,hs,hO,?_,?_,hm⟩
 ·rw[e1,Fw,hvn]
 ·rw[e1,e2];exact qb.snoc h64 (by rw[hl];exact hN.p) (by rw[hl];exact hN.l)
 ·rw[hrep,List.drop_eq_getElem_cons hk,hst,e1,Fw]
theorem BF (v vi:Value) (l:List St) (C:List eY) (V:List Nat) (ins:List Int) (b1 b2:Nat) (w:World) (hZ:XB l C V) (hL:mE w b1 v l) (hI:w.ownsRow b2 3 1 vi ins.length (mo ins)) (hin:∀ x∈ins,-100 < x/\x < 100) (hc:aY C=ins.length) (h32:ins.length<=32) :
  Calls Tryz.prog 71 #[v,vi] w fun e w'=>e=.returned (.string (kI ins C 0 0 [] ⟨#[]⟩))/\Mod (fun _=>False) w w':=by
 obtain⟨i0,hi,hz0,hz1,hz2⟩:=info_parts Tryz.infoThg
 obtain⟨ao,cap,rfl,-⟩:=aj hL
 obtain⟨ai,XL,rfl,-⟩:=aj hI
 have h16:=hZ.n
 have hCl:=hZ.c
 go_in
 go_wp2_with fail
 go_loopw [5,6,7,8] (WC ins C V w) (fun _ _ _ i _=>l.length - (intOf i).toNat)
 case atStart=>exact⟨0,[],[],⟨#[]⟩,by omega,rfl,rfl,rfl,by decide,World.ownsRow_nil _ _ _ _,⟨rfl,rfl,rfl,fun j=>by simp[wt],fun j hj=>absurd hj.1 (by simp),fun j hj=>absurd hj.1 (by simp)⟩,rfl,Mod.refl _ w⟩
 case round =>
  obtain⟨k,A,Z,s,hk,rfl,rfl,rfl,hss,hO,qb,hrep,hm⟩:=hrel
  have HR:Hid _:=hrep
  clear hrep
  by_cases hlt:k < l.length
  ·obtain⟨x,hx⟩:∃ x,l[k]?=some x:=⟨_,List.getElem?_eq_getElem hlt⟩
   have hxe:l[k]=x:=by rw[List.getElem?_eq_getElem hlt]at hx;exact Option.some.inj hx
   have HC:Hid _:=zI (hZ.e k x hx) (zI (hZ.w k x hx) (hZ.b k x hx))
   have hok:=hZ.ok k x hx
   have hga:=hZ.g k x hx
   have hal:=hZ.a k x hx
   have hkn:=hZ.k k x hx
   have hqn:=hZ.q k x hx
   have HSR:Hid (eT (aT l x)=(fm x.word).2):=EG hkn
   have hcl:=XP HC.out.1
   have hTl:(C.take k).length=k:=by simp;omega
   have OO:Z.length=k:=by rw[qb.z];exact hTl
   have ha4:x.args.length<=4:=by rw[hal];exact (uV hkn).1
   have HA2:Hid (x.word≠[112,116]->2<=x.args.length):=show _ from fun e=>by rw[hal];exact (uV hkn).2 e
   have TJ:Hid _:=zI hal (zI hkn hqn)
   clear hal hkn hqn
   obtain⟨av,aK,rfl,-⟩:=aj hO
   unfold jq at hO
   rw[OO]at hO ⊢
   obtain⟨gb,rfl,cc0,-⟩:=hL.cell hlt
   have hgb:=KT cc0
   clear cc0
   have hma:Mod (fun _=>False) wr (wr.alloc (.cells pO 169)):=(Mod.refl _ wr).alloc _
   have bT:=aQ wr pO 169
   have hsz:=hm.size
   have hOT:∀ i,(Value.slice av k aK).ownBlock=some i->i≠wr.heap.size:=fun i h=>by have:=(hO.lt i h).2;omega
   replace hm:=hm.trans hma
   replace hO:=au hO hma (fun _ _ f=>f)
   replace qb:=qb.k hma
   clear hma
   obtain⟨_,e,c0,c1,-⟩:=(hL.mod hm).cell hlt
   cases e
   rw[hxe]at c0 c1
   have i1:(k:Int) < (l.length:Int):=by omega
   by_cases hn:x.name=0
   ·have hb:((x.name:Int) == 0)=true:=by rw[hn];rfl
    have h63:eT (aT l x)=63:=by rw[HSR.out];exact TJ.out.2.2.2 hn
    have ha2:2<=x.args.length:=HA2.out (fun e=>by have:=TJ.out.2.2.2 hn;rw[e]at this;cases this)
    go_upto_region 11 with fail
    generalize wr.alloc (.cells pO 169)=W at *
    have hT:=c1
    have hdw:Mod (fun _=>False) W W.drew:=(Mod.refl _ W).drew
    replace hm:=hm.trans hdw;replace hO:=au hO hdw (fun _ _ f=>f);replace qb:=qb.k hdw;replace bT:=bT.k hdw;replace c1:=hdw.cell c1;have hS:=c1
    clear hdw c0
    go_region_held3 (fun w'=>w'.cell? ⟨gb,k*3+1,none⟩=some (S x.word))
     (first | with_reducible exact hS | with_reducible exact hT)
     (first
      | (go_at_call 113;have _d:=n1;refine (ML qb hP hok TJ.out.1 TJ.out.2.1 (TJ.out.2.2.2 hn) (by omega)).mono ?_;rintro e w2 ⟨hm2,rfl⟩;replace hm:=hm.trans hm2;replace hO:=au hO hm2 (fun _ _ f=>f);replace qb:=qb.k hm2;replace bT:=bT.k hm2;replace c1:=hm2.cell c1;clear hm2 hS hP;have hS:=c1)
      | (go_at_call 114;(fail_if_success have _e:=n1);refine (Lj (by omega) OO (hL.mod hm) hO hx ha2 ha4 hga).mono ?_;rintro e w1 ⟨hm1,g2,agc,rfl,hP⟩;have n1:=True.intro;replace hm:=hm.trans hm1;replace hO:=au hO hm1 (fun _ _ f=>f);replace qb:=qb.k hm1;replace bT:=bT.k hm1;replace c1:=hm1.cell c1;clear hm1 hS;have hS:=c1))
    clear hS hT c1
    have hN:New w2 (aT l x) (mX (V.take k) (aT l x)) k g0 Wt:=⟨fun e=>by omega,fun e=>by omega⟩
    have HV:Hid ((aY (C.take k):Int)=((aY (C.take k)+iZ (aT l x):Nat):Int)):=show _=_ by rw[Eb h63];rfl
    cases hq:xL A (aT l x) with
    | true =>
     have HS:Hid (∀ r,kI ins (aT l x :: r) k (aY (C.take k)) A s=kI ins r (k+1) (aY (C.take k)+iZ (aT l x)) (A++[g0]) (s++⟨#[49]⟩)):=show _ from fun r=>by rw[kJ h63,hq,Eb h63];rfl
     have hs2:(s++⟨#[49]⟩:ByteArray).size<=k+1:=by rw[ByteArray.size_append];show s.size+1<=k+1;omega
     have hsz2:=hm.size
     obtain⟨y0,y1,y2,y3,y4,y5,y6,y7,y8,y9,gG,gH,iP,y13,iQ,iR⟩:=vT bT
     go_wp2_with (at_builtin;refine wpList_append_own _ rfl _ _ 163 rfl w.heap.size 169 i0 _ 16 256 Tryz.underlying163 hi hz0 hz1 hz2 rfl (by decide) _ _ _ rfl (hO.alloc _) ⟨w2.heap.size,0,none⟩ 1 1 (KG Wt) rfl rfl ?c1 ?c2 ?c3 ?c4 ?c5 ?_)
     case c1=>first | exact nG _ _ _ | exact fun _ _ h=>h
     case c2=>intro u hu;simp[KG]at hu;rcases hu with rfl | rfl | rfl | rfl | rfl | rfl | rfl | rfl | rfl | rfl | rfl | rfl | rfl | rfl | rfl | rfl<;>rfl
     case c3=>unfold maxLen;omega
     case c4=>omega
     case c5=>(try simp);omega
     intro va w4 aG hgrow _
     have hgm:Mod (fun i=>(Value.slice av k aK).ownBlock=some i) w2 w4:=((Mod.refl _ w2).alloc _).grown hgrow (fun i hi _=>hi)
     have aO:Mod (fun _=>False) w w4:=⟨hgm.os.trans hm.os,hgm.tape.trans hm.tape,hgm.output.trans hm.output,Nat.le_trans hm.size hgm.size,fun i hi _=>(hgm.block i (Nat.lt_of_lt_of_le hi hm.size) (fun h=>by have:=(hO.lt i h).1;omega)).trans (hm.block i hi (fun f=>f))⟩
     have hO4:jq w4 w.heap.size va (Z++[Wt]):=by unfold jq;rw[<- oq,List.length_append,OO];exact aG
     have HF:Hid _:=zI hO4 (zI (qb.grow hO hgm) (zI (hN.grow hO hgm) aO))
     clear aG hgrow hgm aO hO4 hO qb hN hm bT y0 y1 y2 y3 y4 y5 y6 y7 y8 y9 gG gH iP y13 iQ iR
     go_wp2
     go_roundw
     case rel=>obtain⟨f1,f2,f3,f4⟩:=HF.out;exact qW HC.out.1 HC.out.2.1 HC.out.2.2 f1 f2 f3 HR.out HS.out hs2 f4 HV.out (by go_num)
     case measure=>simp[intOf];omega
    | false =>
     have HS:Hid (∀ r,kI ins (aT l x :: r) k (aY (C.take k)) A s=kI ins r (k+1) (aY (C.take k)+iZ (aT l x)) (A++[g0]) (s++⟨#[48]⟩)):=show _ from fun r=>by rw[kJ h63,hq,Eb h63];rfl
     have hs2:(s++⟨#[48]⟩:ByteArray).size<=k+1:=by rw[ByteArray.size_append];show s.size+1<=k+1;omega
     have hsz2:=hm.size
     obtain⟨y0,y1,y2,y3,y4,y5,y6,y7,y8,y9,gG,gH,iP,y13,iQ,iR⟩:=vT bT
     go_wp2_with (at_builtin;refine wpList_append_own _ rfl _ _ 163 rfl w.heap.size 169 i0 _ 16 256 Tryz.underlying163 hi hz0 hz1 hz2 rfl (by decide) _ _ _ rfl (hO.alloc _) ⟨w2.heap.size,0,none⟩ 1 1 (KG Wt) rfl rfl ?c1 ?c2 ?c3 ?c4 ?c5 ?_)
     case c1=>first | exact nG _ _ _ | exact fun _ _ h=>h
     case c2=>intro u hu;simp[KG]at hu;rcases hu with rfl | rfl | rfl | rfl | rfl | rfl | rfl | rfl | rfl | rfl | rfl | rfl | rfl | rfl | rfl | rfl<;>rfl
     case c3=>unfold maxLen;omega
     case c4=>omega
     case c5=>(try simp);omega
     intro va w4 aG hgrow _
     have hgm:Mod (fun i=>(Value.slice av k aK).ownBlock=some i) w2 w4:=((Mod.refl _ w2).alloc _).grown hgrow (fun i hi _=>hi)
     have aO:Mod (fun _=>False) w w4:=⟨hgm.os.trans hm.os,hgm.tape.trans hm.tape,hgm.output.trans hm.output,Nat.le_trans hm.size hgm.size,fun i hi _=>(hgm.block i (Nat.lt_of_lt_of_le hi hm.size) (fun h=>by have:=(hO.lt i h).1;omega)).trans (hm.block i hi (fun f=>f))⟩
     have hO4:jq w4 w.heap.size va (Z++[Wt]):=by unfold jq;rw[<- oq,List.length_append,OO];exact aG
     have HF:Hid _:=zI hO4 (zI (qb.grow hO hgm) (zI (hN.grow hO hgm) aO))
     clear aG hgrow hgm aO hO4 hO qb hN hm bT y0 y1 y2 y3 y4 y5 y6 y7 y8 y9 gG gH iP y13 iQ iR
     go_wp2
     go_roundw
     case rel=>obtain⟨f1,f2,f3,f4⟩:=HF.out;exact qW HC.out.1 HC.out.2.1 HC.out.2.2 f1 f2 f3 HR.out HS.out hs2 f4 HV.out (by go_num)
     case measure=>simp[intOf];omega
   ·have hb:((x.name:Int) == 0)=false:=by rw[beq_eq_false_iff_ne];omega
    cases hpt:(x.word == [112,116]) with
    | true =>
     have HCM:Hid (aT l x=.pt):=show _=_ by unfold aT;rw[if_pos hpt]
     have hi2:iZ (aT l x)=2:=by rw[HCM.out];rfl
     have hc1:aY (C.take k) < ins.length:=by omega
     have hc2:aY (C.take k)+1 < ins.length:=by omega
     obtain⟨gi,rfl,p0⟩:=qF hI rfl hc1
     obtain⟨_,e,p1⟩:=qF hI rfl hc2
     cases e
     have hgi:=KT p0
     have ra:=hin _ (List.getElem_mem hc1)
     have rb:=hin _ (List.getElem_mem hc2)
     have TM:Hid (inp ins (aY (C.take k))=ins[aY (C.take k)]/\inp ins (aY (C.take k)+1)=ins[aY (C.take k)+1]):=show _ from ⟨by simp[inp,hc1],by simp[inp,hc2]⟩
     have hwr:IntKind.i64.wrap ((aY (C.take k):Int)+1)=(aY (C.take k):Int)+1:=by simp[IntKind.wrap,IntKind.signed,IntKind.bits];omega
     have j1:((aY (C.take k):Int)+1) < (ins.length:Int):=by omega
     have j0:(0:Int)<=(aY (C.take k):Int)+1:=by omega
     have jt:((aY (C.take k):Int)+1).toNat=aY (C.take k)+1:=by omega
     replace p0:=hm.cell p0;replace p1:=hm.cell p1
     generalize ins[aY (C.take k)]=a at *
     generalize ins[aY (C.take k)+1]=b at *
     go_upto_region 16 with fail
     generalize wr.alloc (.cells pO 169)=W at *
     have hT:=zI p0 p1
     have hdw:Mod (fun _=>False) W W.drew:=(Mod.refl _ W).drew
     replace hm:=hm.trans hdw;replace hO:=au hO hdw (fun _ _ f=>f);replace qb:=qb.k hdw;replace bT:=bT.k hdw;replace p0:=hdw.cell p0;replace p1:=hdw.cell p1;have hS:=zI p0 p1
     clear hdw c0 c1
     go_region_held3 (fun w'=>w'.cell? ⟨gi,aY (C.take k),none⟩=some (.int .i64 a)/\w'.cell? ⟨gi,aY (C.take k)+1,none⟩=some (.int .i64 b))
      (first | with_reducible exact hS | with_reducible exact hC | with_reducible exact hT)
      (first
       | (go_at_call 115;(fail_if_success have _e:=n3);have _d:=n2;refine (RD 1 _ (by decide) (by decide)).mono ?_;rintro e w3 ⟨yU,z3,rfl,n3⟩;replace hm:=hm.trans yU;replace hO:=au hO yU (fun _ _ f=>f);replace qb:=qb.k yU;replace bT:=bT.k yU;replace p0:=yU.cell p0;replace p1:=yU.cell p1;replace n1:=n1.k yU;replace n2:=n2.k yU;clear yU hS;have hS:=zI p0 p1;have r0:=bT.c 0;have f0:=bT.fz 0;have r1:=bT.c 1;have f1:=bT.fz 1;have r2:=bT.c 2;have f2:=bT.fz 2;have r3:=bT.c 3;have f3:=bT.fz 3;have r4:=bT.c 4;have f4:=bT.fz 4;have r5:=bT.c 5;have f5:=bT.fz 5;have hC:((((((w3.setCell ⟨wr.heap.size,0,none⟩ (.bool z1.b)).setCell ⟨wr.heap.size,1,none⟩ (.slice z1.a z1.n z1.c)).setCell ⟨wr.heap.size,2,none⟩ (.bool z2.b)).setCell ⟨wr.heap.size,3,none⟩ (.slice z2.a z2.n z2.c)).setCell ⟨wr.heap.size,4,none⟩ (.bool z3.b)).setCell ⟨wr.heap.size,5,none⟩ (.slice z3.a z3.n z3.c)).cell? ⟨gi,aY (C.take k),none⟩=some (.int .i64 a)/\((((((w3.setCell ⟨wr.heap.size,0,none⟩ (.bool z1.b)).setCell ⟨wr.heap.size,1,none⟩ (.slice z1.a z1.n z1.c)).setCell ⟨wr.heap.size,2,none⟩ (.bool z2.b)).setCell ⟨wr.heap.size,3,none⟩ (.slice z2.a z2.n z2.c)).setCell ⟨wr.heap.size,4,none⟩ (.bool z3.b)).setCell ⟨wr.heap.size,5,none⟩ (.slice z3.a z3.n z3.c)).cell? ⟨gi,aY (C.take k)+1,none⟩=some (.int .i64 b):=⟨DN p0 (by omega) 0 (PV.l ⟨z1,z2,z3⟩),DN p1 (by omega) 0 (PV.l ⟨z1,z2,z3⟩)⟩)
       | (go_at_call 115;(fail_if_success have _e:=n2);have _d:=n1;refine (RD b _ (by omega) (by omega)).mono ?_;rintro e w2 ⟨yU,z2,rfl,n2⟩;replace hm:=hm.trans yU;replace hO:=au hO yU (fun _ _ f=>f);replace qb:=qb.k yU;replace bT:=bT.k yU;replace p0:=yU.cell p0;replace p1:=yU.cell p1;replace n1:=n1.k yU;clear yU hS;have hS:=zI p0 p1)
       | (go_at_call 115;(fail_if_success have _e:=n1);refine (RD a _ (by omega) (by omega)).mono ?_;rintro e w1 ⟨yU,z1,rfl,n1⟩;replace hm:=hm.trans yU;replace hO:=au hO yU (fun _ _ f=>f);replace qb:=qb.k yU;replace bT:=bT.k yU;replace p0:=yU.cell p0;replace p1:=yU.cell p1;clear yU hS;have hS:=zI p0 p1))
     clear hS hT hC p0 p1 r0 f0 r1 f1 r2 f2 r3 f3 r4 f4 r5 f5
     rw[<- stP w3 wr.heap.size ⟨z1,z2,z3⟩]
     have hN:New (Go.Proofs.YtmnfndpbblpjiabGreatDoor.sets w3 wr.heap.size 0 (PV.l ⟨z1,z2,z3⟩)) (aT l x) (mX (V.take k) (aT l x)) k (EP A ins (aY (C.take k)) (aT l x)) ⟨⟨z1,z2,z3⟩,Wt.l⟩:=by
      rw[HCM.out]
      have Jv:13<=mX (V.take k) .pt*(13*2 ^ k):=by show 13<=1*(13*2 ^ k);have:=Nat.two_pow_pos k;omega
      exact⟨fun _=>by show PI _ _ ⟨inp ins (aY (C.take k)),inp ins (aY (C.take k)+1),1⟩ _;rw[TM.out.1,TM.out.2];exact⟨(n1.up Jv).aL bT (by decide) 0 (PV.l ⟨z1,z2,z3⟩),(n2.up Jv).aL bT (by decide) 0 (PV.l ⟨z1,z2,z3⟩),(n3.up Jv).aL bT (by decide) 0 (PV.l ⟨z1,z2,z3⟩)⟩,fun e=>by cases e⟩
     have hms:Mod (fun i=>i=wr.heap.size) w3 (Go.Proofs.YtmnfndpbblpjiabGreatDoor.sets w3 wr.heap.size 0 (PV.l ⟨z1,z2,z3⟩)):=Mod.sets (Mod.refl _ _) (fun _=>rfl)
     replace hO:=dW hO hms (fun g hg hp=>hOT g hg hp)
     replace qb:=qb.aL bT (by decide) 0 (PV.l ⟨z1,z2,z3⟩)
     replace hm:Mod (fun _=>False) w (Go.Proofs.YtmnfndpbblpjiabGreatDoor.sets w3 wr.heap.size 0 (PV.l ⟨z1,z2,z3⟩)):=((hm.mono (q:=fun i=>i=wr.heap.size) (fun _ _ f=>f.elim)).trans hms).mono (fun i hi h=>by omega)
     replace bT:=bT.tP ⟨z1,z2,z3⟩
     clear hms
     generalize Go.Proofs.YtmnfndpbblpjiabGreatDoor.sets w3 wr.heap.size 0 (PV.l ⟨z1,z2,z3⟩)=W3 at *
     have HV:Hid ((aY (C.take k):Int)+2=((aY (C.take k)+iZ (aT l x):Nat):Int)):=show _=_ by rw[hi2];omega
     have HS:Hid (∀ r,kI ins (aT l x :: r) k (aY (C.take k)) A s=kI ins r (k+1) (aY (C.take k)+iZ (aT l x)) (A++[EP A ins (aY (C.take k)) (aT l x)]) s):=show _ from fun r=>by rw[HCM.out];exact jg (by decide) rfl
     have hsz2:=hm.size
     obtain⟨y0,y1,y2,y3,y4,y5,y6,y7,y8,y9,gG,gH,iP,y13,iQ,iR⟩:=vT bT
     go_wp2_with (at_builtin;refine wpList_append_own _ rfl _ _ 163 rfl w.heap.size 169 i0 _ 16 256 Tryz.underlying163 hi hz0 hz1 hz2 rfl (by decide) _ _ _ rfl (hO.alloc _) ⟨W3.heap.size,0,none⟩ 1 1 (KG ⟨⟨z1,z2,z3⟩,Wt.l⟩) rfl rfl ?c1 ?c2 ?c3 ?c4 ?c5 ?_)
     case c1=>first | exact nG _ _ _ | exact fun _ _ h=>h
     case c2=>intro u hu;simp[KG]at hu;rcases hu with rfl | rfl | rfl | rfl | rfl | rfl | rfl | rfl | rfl | rfl | rfl | rfl | rfl | rfl | rfl | rfl<;>rfl
     case c3=>unfold maxLen;omega
     case c4=>omega
     case c5=>(try simp);omega
     intro va w4 aG hgrow _
     have hgm:Mod (fun i=>(Value.slice av k aK).ownBlock=some i) W3 w4:=((Mod.refl _ W3).alloc _).grown hgrow (fun i hi _=>hi)
     have aO:Mod (fun _=>False) w w4:=⟨hgm.os.trans hm.os,hgm.tape.trans hm.tape,hgm.output.trans hm.output,Nat.le_trans hm.size hgm.size,fun i hi _=>(hgm.block i (Nat.lt_of_lt_of_le hi hm.size) (fun h=>by have:=(hO.lt i h).1;omega)).trans (hm.block i hi (fun f=>f))⟩
     have hO4:jq w4 w.heap.size va (Z++[⟨⟨z1,z2,z3⟩,Wt.l⟩]):=by unfold jq;rw[<- oq,List.length_append,OO];exact aG
     have HF:Hid _:=zI hO4 (zI (qb.grow hO hgm) (zI (hN.grow hO hgm) aO))
     clear aG hgrow hgm aO hO4 hO qb hN hm bT y0 y1 y2 y3 y4 y5 y6 y7 y8 y9 gG gH iP y13 iQ iR
     go_wp2
     go_roundw
     case rel=>obtain⟨f1,f2,f3,f4⟩:=HF.out;exact qW HC.out.1 HC.out.2.1 HC.out.2.2 f1 f2 f3 HR.out HS.out (by omega) f4 HV.out (by go_num)
     case measure=>simp[intOf];omega
    | false =>
     have ha2:2<=x.args.length:=HA2.out (fun e=>by rw[e]at hpt;cases hpt)
     have h63:(fm x.word).2≠63:=fun e=>hn (TJ.out.2.2.1 e)
     have Tp:Hid (eT (aT l x)≠63):=show _ from fun e=>h63 (by rw[<- HSR.out];exact e)
     have HNP:Hid (x.word≠[112,116]/\(fm x.word).2≠63):=⟨fun e=>(by rw[e]at hpt;cases hpt),h63⟩
     clear h63
     go_upto_region 9 with fail
     generalize wr.alloc (.cells pO 169)=W at *
     have hT:=c1
     have hdw:Mod (fun _=>False) W W.drew:=(Mod.refl _ W).drew
     replace hm:=hm.trans hdw;replace hO:=au hO hdw (fun _ _ f=>f);replace qb:=qb.k hdw;replace bT:=bT.k hdw;replace c1:=hdw.cell c1;have hS:=c1
     clear hdw c0
     go_region_held3 (fun w'=>w'.cell? ⟨gb,k*3+1,none⟩=some (S x.word))
      (first | with_reducible exact hS | with_reducible exact hC | with_reducible exact hT)
      (first
       | (go_at_call 116;have _d:=n1;refine (Me ins (aY (C.take k)) qb hP hok HC.out.2.2 TJ.out.1 TJ.out.2.1 HNP.out.2 HNP.out.1 (by omega)).mono ?_;rintro e w2 ⟨m,d,h80,h76,hm2,z,rfl,hTI⟩;replace hm:=hm.trans hm2;replace hO:=au hO hm2 (fun _ _ f=>f);replace qb:=qb.k hm2;replace bT:=bT.k hm2;replace c1:=hm2.cell c1;clear hm2 hS hP;have hS:=c1;have r0:=bT.c 0;have f0:=bT.fz 0;have r1:=bT.c 1;have f1:=bT.fz 1;have r2:=bT.c 2;have f2:=bT.fz 2;have r3:=bT.c 3;have f3:=bT.fz 3;have r4:=bT.c 4;have f4:=bT.fz 4;have r5:=bT.c 5;have f5:=bT.fz 5;have r6:=bT.c 6;have f6:=bT.fz 6;have r7:=bT.c 7;have f7:=bT.fz 7;have r8:=bT.c 8;have f8:=bT.fz 8;have r9:=bT.c 9;have f9:=bT.fz 9;have Bo:=bT.c 10;have f10:=bT.fz 10;have Bp:=bT.c 11;have f11:=bT.fz 11;have Bq:=bT.c 12;have f12:=bT.fz 12;have Br:=bT.c 13;have f13:=bT.fz 13;have Bt:=bT.c 14;have f14:=bT.fz 14;have Bu:=bT.c 15;have f15:=bT.fz 15;have hC:((((((((((((((((w2.setCell ⟨wr.heap.size,0,none⟩ (.bool z.p.x.b)).setCell ⟨wr.heap.size,1,none⟩ (.slice z.p.x.a z.p.x.n z.p.x.c)).setCell ⟨wr.heap.size,2,none⟩ (.bool z.p.y.b)).setCell ⟨wr.heap.size,3,none⟩ (.slice z.p.y.a z.p.y.n z.p.y.c)).setCell ⟨wr.heap.size,4,none⟩ (.bool z.p.w.b)).setCell ⟨wr.heap.size,5,none⟩ (.slice z.p.w.a z.p.w.n z.p.w.c)).setCell ⟨wr.heap.size,6,none⟩ (.bool z.l.p.x.b)).setCell ⟨wr.heap.size,7,none⟩ (.slice z.l.p.x.a z.l.p.x.n z.l.p.x.c)).setCell ⟨wr.heap.size,8,none⟩ (.bool z.l.p.y.b)).setCell ⟨wr.heap.size,9,none⟩ (.slice z.l.p.y.a z.l.p.y.n z.l.p.y.c)).setCell ⟨wr.heap.size,10,none⟩ (.bool z.l.p.w.b)).setCell ⟨wr.heap.size,11,none⟩ (.slice z.l.p.w.a z.l.p.w.n z.l.p.w.c)).setCell ⟨wr.heap.size,12,none⟩ (.bool z.l.x.b)).setCell ⟨wr.heap.size,13,none⟩ (.slice z.l.x.a z.l.x.n z.l.x.c)).setCell ⟨wr.heap.size,14,none⟩ (.bool z.l.y.b)).setCell ⟨wr.heap.size,15,none⟩ (.slice z.l.y.a z.l.y.n z.l.y.c)).cell? ⟨gb,k*3+1,none⟩=some (S x.word):=DN c1 (by omega) 0 (TV.s z.p z.l))
       | (go_at_call 114;(fail_if_success have _e:=n1);refine (Lj (by omega) OO (hL.mod hm) hO hx ha2 ha4 hga).mono ?_;rintro e w1 ⟨hm1,g2,agc,rfl,hP⟩;have n1:=True.intro;replace hm:=hm.trans hm1;replace hO:=au hO hm1 (fun _ _ f=>f);replace qb:=qb.k hm1;replace bT:=bT.k hm1;replace c1:=hm1.cell c1;clear hm1 hS;have hS:=c1))
     clear hS hT hC c1 r0 f0 r1 f1 r2 f2 r3 f3 r4 f4 r5 f5 r6 f6 r7 f7 r8 f8 r9 f9 Bo f10 Bp f11 Bq f12 Br f13 Bt f14 Bu f15
     rw[<- OT w2 wr.heap.size z.p z.l]
     have hN:Dm A (aT l x)=false->New (Go.Proofs.YtmnfndpbblpjiabGreatDoor.sets w2 wr.heap.size 0 (TV.s z.p z.l)) (aT l x) (mX (V.take k) (aT l x)) k (EP A ins (aY (C.take k)) (aT l x)) z:=fun e=>by
      have hT:=hTI e
      rw[hTl]at h80 h76
      exact⟨fun e8=>(hT.p.up (h80 e8)).aL bT (by decide) 0 (TV.s z.p z.l),fun e7=>⟨d,h76 e7,hT.l.aL bT (by decide) 0 (TV.s z.p z.l)⟩⟩
     clear hTI h80 h76
     have hms:Mod (fun i=>i=wr.heap.size) w2 (Go.Proofs.YtmnfndpbblpjiabGreatDoor.sets w2 wr.heap.size 0 (TV.s z.p z.l)):=Mod.sets (Mod.refl _ _) (fun _=>rfl)
     replace hO:=dW hO hms (fun g hg hp=>hOT g hg hp)
     replace qb:=qb.aL bT (by decide) 0 (TV.s z.p z.l)
     replace hm:Mod (fun _=>False) w (Go.Proofs.YtmnfndpbblpjiabGreatDoor.sets w2 wr.heap.size 0 (TV.s z.p z.l)):=((hm.mono (q:=fun i=>i=wr.heap.size) (fun _ _ f=>f.elim)).trans hms).mono (fun i hi h=>by omega)
     replace bT:=bT.tT z.p z.l
     clear hms
     generalize Go.Proofs.YtmnfndpbblpjiabGreatDoor.sets w2 wr.heap.size 0 (TV.s z.p z.l)=W3 at *
     cases hq:Dm A (aT l x) with
     | true =>
      have HS:Hid (kI ins C 0 0 [] ⟨#[]⟩=s++⟨#[uO (aT l x)]⟩++dec (k:Int)):=show _=_ by
       obtain⟨hk1,e1⟩:=List.getElem?_eq_some_iff.1 HC.out.1
       rw[HR.out,List.drop_eq_getElem_cons hk1,e1,wQ Tp.out hq]
      rw[show stS true (uO (aT l x))=⟨#[uO (aT l x)]⟩ from rfl]
      generalize uO (aT l x)=lc at *
      have HF:Hid _:=hm
      clear hm hO qb hN bT
      go_wp2_with fail
      refine (yS k W3 (by omega)).mono ?_
      rintro e w4 ⟨rfl,aO⟩
      have Fa:Hid _:=HF.out.trans aO
      clear aO HF
      have hds:=zY (k:Int)
      generalize dec (k:Int)=dk at *
      go_wp2
      go_ret
      exact⟨by rw[HS.out];rfl,Fa.out⟩
     | false =>
      replace hN:=hN hq
      rw[show stS false (uO (aT l x))=⟨#[]⟩ from rfl]
      have hi0:iZ (aT l x)=0:=YE TJ.out.2.1 HNP.out.1
      have HV:Hid ((aY (C.take k):Int)=((aY (C.take k)+iZ (aT l x):Nat):Int)):=show _=_ by rw[hi0];rfl
      have HS:Hid (∀ r,kI ins (aT l x :: r) k (aY (C.take k)) A s=kI ins r (k+1) (aY (C.take k)+iZ (aT l x)) (A++[EP A ins (aY (C.take k)) (aT l x)]) s):=show _ from fun r=>jg Tp.out hq
      have hsz2:=hm.size
      obtain⟨y0,y1,y2,y3,y4,y5,y6,y7,y8,y9,gG,gH,iP,y13,iQ,iR⟩:=vT bT
      go_wp2_with (at_builtin;refine wpList_append_own _ rfl _ _ 163 rfl w.heap.size 169 i0 _ 16 256 Tryz.underlying163 hi hz0 hz1 hz2 rfl (by decide) _ _ _ rfl (hO.alloc _) ⟨W3.heap.size,0,none⟩ 1 1 (KG z) rfl rfl ?c1 ?c2 ?c3 ?c4 ?c5 ?_)
      case c1=>first | exact nG _ _ _ | exact fun _ _ h=>h
      case c2=>intro u hu;simp[KG]at hu;rcases hu with rfl | rfl | rfl | rfl | rfl | rfl | rfl | rfl | rfl | rfl | rfl | rfl | rfl | rfl | rfl | rfl<;>rfl
      case c3=>unfold maxLen;omega
      case c4=>omega
      case c5=>(try simp);omega
      intro va w4 aG hgrow _
      have hgm:Mod (fun i=>(Value.slice av k aK).ownBlock=some i) W3 w4:=((Mod.refl _ W3).alloc _).grown hgrow (fun i hi _=>hi)
      have aO:Mod (fun _=>False) w w4:=⟨hgm.os.trans hm.os,hgm.tape.trans hm.tape,hgm.output.trans hm.output,Nat.le_trans hm.size hgm.size,fun i hi _=>(hgm.block i (Nat.lt_of_lt_of_le hi hm.size) (fun h=>by have:=(hO.lt i h).1;omega)).trans (hm.block i hi (fun f=>f))⟩
      have hO4:jq w4 w.heap.size va (Z++[z]):=by unfold jq;rw[<- oq,List.length_append,OO];exact aG
      have HF:Hid _:=zI hO4 (zI (qb.grow hO hgm) (zI (hN.grow hO hgm) aO))
      clear aG hgrow hgm aO hO4 hO qb hN hm bT y0 y1 y2 y3 y4 y5 y6 y7 y8 y9 gG gH iP y13 iQ iR
      go_wp2
      go_roundw
      case rel=>obtain⟨f1,f2,f3,f4⟩:=HF.out;exact qW HC.out.1 HC.out.2.1 HC.out.2.2 f1 f2 f3 HR.out HS.out (by omega) f4 HV.out (by go_num)
      case measure=>simp[intOf];omega
  ·have hke:k=C.length:=by omega
   have HS:Hid (kI ins C 0 0 [] ⟨#[]⟩=s):=show _=_ by rw[HR.out,List.drop_eq_nil_of_le (by omega)];rfl
   have i1:¬ (k:Int) < (l.length:Int):=by omega
   clear hO qb hL hI
   go_wp2
   go_ret
   exact⟨by rw[HS.out];rfl,hm⟩
end Go.Proofs.YtmnfndpbblpjiabGreatDoor

/- The program's machine does a step. -/
import Derived.Test.YtmnfndpbblpjiabGreatDoorZx18
import Derived.Test.YtmnfndpbblpjiabGreatDoorZx26
set_option maxHeartbeats 1600000
set_option maxRecDepth 4000
namespace Go.Proofs.YtmnfndpbblpjiabGreatDoor
open Go.RowKit Pu
theorem NT {w:World} {b1 b2 n1 n2 s1 s2:Nat} {e1 e2:TypeId} {u v:Value} {xs ys:List Value} (h1:w.ownsRow b1 e1 s1 u n1 xs) (h2:w.ownsRow b2 e2 s2 v n2 ys) (he:e1≠e2) {g:Nat} (hu:u.ownBlock=some g) (hv:v.ownBlock=some g):False:=by
 obtain⟨_,⟨rfl,_⟩ | ⟨g1,c1,r1,rfl,_,k1,_⟩⟩:=h1
 ·simp[Value.ownBlock]at hu
 ·obtain⟨_,⟨rfl,_⟩ | ⟨g2,c2,r2,rfl,_,k2,_⟩⟩:=h2
  ·simp[Value.ownBlock]at hv
  ·simp[Value.ownBlock]at hu hv
   subst hu;subst hv
   rw[k1]at k2
   simp at k2
   exact he k2.2
theorem Mc.answer {w w':World} {mb:Nat} {iv rv v':Value} {R:List Int} {bs bs':List UInt8} (h:Mc w mb iv R bs false) (hrv:w.cell? ⟨mb,513,none⟩=some rv) (hm:Mod (fun q=>rv.ownBlock=some q) w w') (hO:w'.ownsRow (mb+1) 5 1 v' bs'.length (bvs bs')):Mc (w'.setCell ⟨mb,513,none⟩ v') mb iv R bs' false:=by
 obtain⟨C,h1,h2,h3,h4,⟨rv',h5,h6⟩,h7⟩:=h
 have hrr:rv'=rv:=by rw[Mc.cell h1,h5]at hrv;exact Option.some.inj hrv
 subst hrr
 have hb1:w'.heap[mb]?=some (.cells C 144 (0,0)):=hm.keep h1 (fun hh=>by have:=(h6.lt mb hh).1;omega)
 have hset:(w'.setCell ⟨mb,513,none⟩ v').heap[mb]?=some (.cells (C.setIfInBounds 513 v') 144 (0,0)):=by simp[World.setCell,Array.getElem?_modify,hb1]
 have hms:Mod (fun q=>q=mb) w' (w'.setCell ⟨mb,513,none⟩ v'):=(Mod.refl _ w').setCell ⟨mb,513,none⟩ v' (fun _=>rfl)
 refine⟨_,hset,by simpa using h2,?_,?_,⟨v',?_,au hO hms (fun g a b=>by omega)⟩,fun r hr=>?_⟩
 ·rw[Array.getElem?_setIfInBounds,if_neg (by omega)];exact h3
 ·rw[Array.getElem?_setIfInBounds,if_neg (by omega)];exact h4
 ·rw[Array.getElem?_setIfInBounds,if_pos rfl,if_pos (by omega)]
 ·obtain⟨nx,u,a,c0,c1,hN,hx,hl⟩:=h7 r hr
  refine⟨nx,u,a,?_,?_,⟨hN.1,tY (dW hN.2 hm (fun g p q=>NT hN.2 h6 (by decide) p q)) hms hb1 (by decide)⟩,hx,hl⟩
  ·rw[Array.getElem?_setIfInBounds,if_neg (by omega)];exact c0
  ·rw[Array.getElem?_setIfInBounds,if_neg (by omega)];exact c1
def L8 (x:Int):UInt8:=if 0 < x then 49 else 48
theorem U3 (t:Stp) (mb:Nat) (iv:Value) (R:List Int) (bs:List UInt8) (w:World) (hM:Mc w mb iv R bs false) (hs:Small t) (hop:t.op=6) (hbs:bs.length<=10000) :
  Calls Tryz.prog 97 #[.pointer (some ⟨mb,0,none⟩),E8 t] w fun e w'=>e=.returned (.bool true)/\Mod (fun q=>mb<=q) w w'/\Mc w' mb iv R (bs++[L8 (reg R t.x)]) false:=by
 obtain⟨nx,ao,an,aK,a,uL,uM,hU,hxa,la⟩:=hM.regs hs.2.1
 have eu:Mod (fun _=>False) w (w.alloc (.cells #[.int .u8 t.op,.int .u8 t.x,.int .u8 t.y,.int .u8 t.z] 94)):=(Mod.refl _ w).alloc _
 have hSt:=EH w t
 have hlt:=hM.lt
 have pE:=hU.mod eu
 have d0:=eu.cell uL
 have d1:=eu.cell uM
 obtain⟨e0,e1,e2,e3⟩:=jD hSt
 have ix:(t.x:Int) < 256:=by have:=hs.2.1;omega
 have uz:=hM.mod eu
 have HH:Hid _:=zI pE (zI eu (zI d0 (zI d1 (zI e1 uz))))
 have o6:((t.op:Int) == 6)=true:=bN (m:=6) hop
 have HSG:Hid (L8 (reg R t.x)=if decide (0 < kL (bB nx a)) then 49 else 48):=show _=_ by
  rw[hxa];unfold kL L8
  by_cases hq:reg R t.x < 0
  ·rw[if_pos hq,if_neg (by omega)];rfl
  ·by_cases hz:reg R t.x=0
   ·rw[if_neg hq,if_pos hz,if_neg (by omega)];rfl
   ·rw[if_neg hq,if_neg hz,if_pos (by omega)];rfl
 clear hU eu hSt pE d0 d1 e0 e1 e2 e3 hM uL uM hxa uz hop
 go_in
 go_wp2_with fail
 generalize w.alloc (.cells #[.int .u8 t.op,.int .u8 t.x,.int .u8 t.y,.int .u8 t.z] 94)=W at *
 obtain⟨pE,eu,d0,d1,e1,uz⟩:=HH.out
 clear HH
 have hcall:=ug nx (.slice ao an aK) a W.drew (pE.mod (Mod.refl _ W).drew) (by omega)
 generalize kL (bB nx a)=sg at *
 have Wz:Hid _:=zI eu uz
 clear eu uz pE
 go_region_held3 (fun w'=>w'.cell? ⟨mb,1+t.x*2,none⟩=some (.bool nx)/\w'.cell? ⟨mb,1+t.x*2+1,none⟩=some (.slice ao an aK)/\w'.cell? ⟨w.heap.size,1,none⟩=some (.int .u8 t.x))
  (first | go_keep | (exact hkeep))
  ((go_at_call 139;refine hcall.mono ?_;rintro e w2 ⟨rfl,hm2⟩;have hkeep:=zI (hm2.cell (a:=W.drew) d0) (zI (hm2.cell (a:=W.drew) d1) (hm2.cell (a:=W.drew) e1))))
 obtain⟨eu,uz⟩:=Wz.out
 have hM2:=(uz.mod (Mod.refl _ W).drew).mod hm2
 have hmw:=eu.drew.trans hm2
 obtain⟨ro,rn,lN,Mk,hrow,hrn⟩:=hM2.rep
 subst hrn
 have hml:=hM2.lt
 have hst:=I5 (.slice ro bs.length lN) bs (decide (0 < sg)) (mb+1) w2 hrow hbs hml
 have HC:Hid _:=zI hM2 (zI hmw hrow)
 clear hkeep d0 d1 e1 hcall Wz eu uz hM2 hmw hm2
 generalize hbq:decide ((0:Int) < sg)=bq at *
 go_wp2_with fail
 refine hst.mono ?_
 rintro e w3 ⟨aC,v3,rfl,hO3⟩
 obtain⟨hM2,hmw,hrow'⟩:=HC.out
 obtain⟨kS,bK,rfl,-⟩:=aj hO3
 have Zy:=hM2.answer Mk aC hO3
 have hb3:Mod (fun q=>mb<=q) w (w3.setCell ⟨mb,513,none⟩ (.slice kS (bs++[if bq then 49 else 48]).length bK)) :=
  ((hmw.mono (q:=fun q=>mb<=q) (fun _ _ f=>f.elim)).trans (aC.mono (fun q _ h=>by have:=(hrow'.lt q h).1;omega))).setCell ⟨mb,513,none⟩ _ (fun _=>Nat.le_refl _)
 obtain⟨C,hC,-⟩:=hM2
 have Tw:=aC.keep hC (fun hh=>by have:=(hrow'.lt mb hh).1;omega)
 have acj:=(Mc.cell Tw 513).trans ((Mc.cell hC 513).symm.trans Mk)
 have abW:=dN Tw 513
 have HE:Hid (Mod (fun q=>mb<=q) w (w3.setCell ⟨mb,513,none⟩ (.slice kS (bs++[if bq then 49 else 48]).length bK))/\Mc (w3.setCell ⟨mb,513,none⟩ (.slice kS (bs++[if bq then 49 else 48]).length bK)) mb iv R (bs++[L8 (reg R t.x)]) false):=⟨hb3,by rw[HSG.out];exact Zy⟩
 generalize (bs++[if bq then (49:UInt8) else 48]).length=nn at *
 clear hb3 Zy hC Tw hrow' hmw hO3 hst HC hrow aC
 go_wp2
 go_ret
 exact⟨rfl,HE.out.1,HE.out.2⟩
theorem YG (t:Stp) (mb:Nat) (iv:Value) (R:List Int) (bs:List UInt8) (w:World) (hM:Mc w mb iv R bs false) (hs:Small t) (hop:t.op=7) (hz:reg R t.x≠0) :
  Calls Tryz.prog 97 #[.pointer (some ⟨mb,0,none⟩),E8 t] w fun e w'=>e=.returned (.bool true)/\Mod (fun _=>False) w w':=by
 have eu:Mod (fun _=>False) w (w.alloc (.cells #[.int .u8 t.op,.int .u8 t.x,.int .u8 t.y,.int .u8 t.z] 94)):=(Mod.refl _ w).alloc _
 have hst:=Rk t mb iv R bs _ (hM.mod eu) hs hz
 have o6:((t.op:Int) == 6)=false:=aF (m:=6) (by omega)
 have o7:((t.op:Int) == 7)=true:=bN (m:=7) hop
 have HM:Hid _:=eu
 clear hM eu hop hz
 go_in
 go_wp2_with fail
 refine hst.mono ?_
 rintro e w2 ⟨rfl,hm2⟩
 have gy:=HM.out.trans hm2
 clear hst HM hm2
 go_wp2
 go_ret
 exact⟨rfl,gy⟩
theorem U2 (t:Stp) (mb:Nat) (iv:Value) (R:List Int) (bs:List UInt8) (w:World) (hM:Mc w mb iv R bs false) (hs:Small t) (hop:t.op=7) (hz:reg R t.x=0) (hy3:t.y < 3) (MV:t.z < 16) (hbs:bs.length<=10000) :
  Calls Tryz.prog 97 #[.pointer (some ⟨mb,0,none⟩),E8 t] w fun e w'=>e=.returned (.bool true)/\Mod (fun q=>mb<=q) w w'/\DC w' mb (bs++[Lr t.y]++(dec (t.z:Int)).data.toList):=by
 have eu:Mod (fun _=>False) w (w.alloc (.cells #[.int .u8 t.op,.int .u8 t.x,.int .u8 t.y,.int .u8 t.z] 94)):=(Mod.refl _ w).alloc _
 have hst:=NK t mb iv R bs _ (hM.mod eu) hs hz hy3 MV hbs
 have o6:((t.op:Int) == 6)=false:=aF (m:=6) (by omega)
 have o7:((t.op:Int) == 7)=true:=bN (m:=7) hop
 have HM:Hid _:=eu
 clear hM eu hop hz
 go_in
 go_wp2_with fail
 refine hst.mono ?_
 rintro e w2 ⟨rfl,hm2,hS⟩
 have gy:=(HM.out.mono (q:=fun q=>mb<=q) (fun _ _ f=>f.elim)).trans hm2
 have HS:Hid _:=hS
 clear hst HM hm2 hS
 go_wp2
 go_ret
 exact⟨rfl,gy,HS.out⟩
theorem U4 (B nn:Nat) (hB:B=10 ^ nn) (hnn:nn=8000) (t:Stp) (mb:Nat) (iv:Value) (R ins:List Int) (base:Nat) (bs:List UInt8) (w:World) (hM:Mc w mb iv R bs false) (hR:R.length=128) (hg:Good ins.length t) (hop:t.op < 6) (hI:w.ownsRow base 3 1 iv ins.length (mo ins)) (hn:ins.length<=1000) (hi:∀ x∈ins,-100 < x/\x < 100) :
  Calls Tryz.prog 97 #[.pointer (some ⟨mb,0,none⟩),E8 t] w (xI w B mb iv R bs t.x (Pu.valOf t R ins)):=by
 have eu:Mod (fun _=>False) w (w.alloc (.cells #[.int .u8 t.op,.int .u8 t.x,.int .u8 t.y,.int .u8 t.z] 94)):=(Mod.refl _ w).alloc _
 have hst:=Rj B nn hB hnn t mb iv R ins base bs _ (hM.mod eu) hR hg hop (au hI eu (fun _ _ f=>f)) hn hi
 have o6:((t.op:Int) == 6)=false:=aF (m:=6) (by omega)
 have o7:((t.op:Int) == 7)=false:=aF (m:=7) (by omega)
 have HM:Hid _:=eu
 have s0:=hg.1.1
 generalize Pu.valOf t R ins=val at *
 clear hM eu hI hi hg hB hnn
 go_in
 go_wp2_with fail
 refine hst.mono ?_
 rintro e w2 ⟨hm2,hc⟩
 have gy:=(HM.out.mono (q:=fun q=>q=mb) (fun _ _ f=>f.elim)).trans hm2
 clear hst HM hm2
 rcases hc with ⟨hb,rfl⟩ | ⟨hb,rfl,hM2⟩
 ·have HE:Hid (xI w B mb iv R bs t.x val (.returned (.bool false)) w2):=⟨gy,.inl ⟨hb,rfl⟩⟩
  go_wp2
  go_ret
  exact HE.out
 ·have HE:Hid (xI w B mb iv R bs t.x val (.returned (.bool true)) w2):=⟨gy,.inr ⟨hb,rfl,hM2⟩⟩
  clear hM2
  go_wp2
  go_ret
  exact HE.out
def zc (i:Nat):Value:=if i=0 then .slice none 0 0 else if i=513 then .slice none 0 0 else if i=514 then .bool false else if i % 2=1 then .bool false else .slice none 0 0
theorem Tryz.machine0:Tryz.zeroCells144=(Array.range 515).map zc:=by kernel_rfl
theorem Tryz.infoMc:(Tryz.prog.info? 144).map (·.size)=some 515:=by kernel_rfl
theorem aaT {i:Nat} (h:i < 515):Tryz.zeroCells144[i]?=some (zc i):=by rw[Tryz.machine0];simp[h]
theorem Zn (i:Nat):(zc i).oneCell'=true:=by
 unfold zc;repeat' split
 all_goals rfl
theorem YF (iv:Value) (h:iv.oneCell'=true):(Tryz.zeroCells144.setIfInBounds 0 iv).all (·.oneCell')=true:=by
 rw[Array.all_eq_true_iff_forall_mem]
 intro v hv
 rcases Array.mem_or_eq_of_mem_setIfInBounds hv with h1 | h1
 ·rw[Tryz.machine0]at h1
  simp at h1
  obtain⟨k,-,rfl⟩:=h1
  exact Zn k
 ·rw[h1];exact h
theorem Mc.start {w:World} {mb:Nat} {iv:Value} (h:w.heap[mb]?=some (.cells (Tryz.zeroCells144.setIfInBounds 0 iv) 144 (0,0))):Mc w mb iv (List.replicate 128 0) [] false:=by
 have hs:Tryz.zeroCells144.size=515:=Tryz.zeroCells144_size
 have hf:∀ i,0 < i->i < 515->(Tryz.zeroCells144.setIfInBounds 0 iv)[i]?=some (zc i):=fun i h0 hi=>by rw[Array.getElem?_setIfInBounds,if_neg (by omega)];exact aaT hi
 refine⟨_,h,by simp,by rw[Array.getElem?_setIfInBounds,if_pos rfl,if_pos (by omega)],by rw[hf 514 (by omega) (by omega)];rfl,⟨.slice none 0 0,by rw[hf 513 (by omega) (by omega)];rfl,World.ownsRow_nil _ _ _ _⟩,fun r hr=>⟨false,.slice none 0 0,[],?_,?_,⟨C9.nil,World.ownsRow_nil _ _ _ _⟩,?_,by simp⟩⟩
 ·rw[hf _ (by omega) (by omega)]
  unfold zc
  rw[if_neg (by omega),if_neg (by omega),if_neg (by omega),if_pos (by omega)]
 ·rw[hf _ (by omega) (by omega)]
  unfold zc
  rw[if_neg (by omega)]
  by_cases e:1+r*2+1=513
  ·rw[if_pos e]
  ·rw[if_neg e,if_neg (by omega),if_neg (by omega)]
 ·show (bB false [])=reg (List.replicate 128 0) r
  rw[reg,List.getElem?_replicate]
  split<;>rfl
theorem FL (B nn:Nat) (hB:B=10 ^ nn) (hnn:nn=8000) (r i:Nat) (v iv:Value) (l:List Stp) (ins:List Int) (base F7:Nat) (w:World) (hl:l.length<=3000) (hL:gM w base v l) (hI:w.ownsRow F7 3 1 iv ins.length (mo ins)) (hn:ins.length<=1000) (hi:∀ x∈ins,-100 < x/\x < 100) (hg:∀ t∈l,Good ins.length t) :
  Calls Tryz.prog 57 #[.agg #[.int .u8 r,.int .u8 i,v],iv] w fun e w'=>e=.returned (.tuple #[.string (play B ins l (List.replicate 128 0) ⟨#[]⟩).1,.int .i64 (play B ins l (List.replicate 128 0) ⟨#[]⟩).2])/\Mod (fun _=>False) w w':=by
 obtain⟨ao,cap,rfl,-⟩:=aj hL
 obtain⟨io,nN,rfl,-⟩:=aj hI
 have HG:Hid (∀ t∈l,Good ins.length t):=hg
 have HI:Hid (∀ x∈ins,-100 < x/\x < 100):=hi
 have HB:Hid (B=10 ^ nn):=hB
 have KP:Hid (nn=8000):=hnn
 have HP:Hid (play B ins (l.drop 0) (List.replicate 128 0) ⟨([]:List UInt8).toArray⟩=play B ins l (List.replicate 128 0) ⟨#[]⟩):=rfl
 generalize play B ins l (List.replicate 128 0) ⟨#[]⟩=pr at *
 clear hg hi hB hnn
 obtain⟨a1,a2⟩:=dJ w (.cells #[.int .u8 r,.int .u8 i,.slice ao l.length cap] 63) (.cells Tryz.zeroCells144 144)
 have hm0:Mod (fun _=>False) w ((w.alloc (.cells #[.int .u8 r,.int .u8 i,.slice ao l.length cap] 63)).alloc (.cells Tryz.zeroCells144 144)):=((Mod.refl _ w).alloc _).alloc _
 have HA:Hid _:=a2
 have hms:=oh (C:=Tryz.zeroCells144.setIfInBounds 0 (.slice io ins.length nN)) hm0 (b:=w.heap.size+1) (by omega)
 have hst:=qB (C':=Tryz.zeroCells144.setIfInBounds 0 (.slice io ins.length nN)) a2
 have hpp:=(qX ((w.alloc (.cells #[.int .u8 r,.int .u8 i,.slice ao l.length cap] 63)).alloc (.cells Tryz.zeroCells144 144)) (w.heap.size+1) (Tryz.zeroCells144.setIfInBounds 0 (.slice io ins.length nN))).keep a1 (by omega)
 obtain⟨-,-,p2⟩:=cells3 hpp
 have HH:Hid _:=zI hms (Mc.start hst)
 clear a1 a2 hm0 hms hst hpp
 go_in
 go_wp2_with (refine wpList_store_row rfl 144 _ _ rfl _ Tryz.zeroCells144 (Tryz.zeroCells144.setIfInBounds 0 (.slice io ins.length nN)) 144 rfl rfl ?hb1 (by rw[Array.size_setIfInBounds,Tryz.zeroCells144_size];exact Tryz.infoMc) (by simp) (YF _ rfl) ?_;case hb1=>exact HA.out)
 generalize ((w.alloc (.cells #[.int .u8 r,.int .u8 i,.slice ao l.length cap] 63)).alloc (.cells Tryz.zeroCells144 144)).setRow (w.heap.size+1) (Tryz.zeroCells144.setIfInBounds 0 (.slice io ins.length nN))=W1 at *
 obtain⟨hm1,hM1⟩:=HH.out
 clear HH HA p2
 go_loopw [14] (fun kv wr=>∃ (k:Nat) (R:List Int) (bs:List UInt8),k<=l.length/\kv=.int .i64 k/\Hid (R.length=128)/\bs.length<=k/\Mc wr (w.heap.size+1) (.slice io ins.length nN) R bs false/\Hid (play B ins (l.drop k) R ⟨bs.toArray⟩=pr)/\Mod (fun _=>False) w wr) (fun kv _=>l.length - (intOf kv).toNat)
 case atStart=>exact⟨0,_,[],by omega,rfl,show _=_ by simp,by simp,hM1,HP,hm1⟩
 case round =>
  clear hM1 hm1 HP
  obtain⟨k,R,bs,hk,rfl,HR,hbs,hM,HP,hm⟩:=hrel
  by_cases hlt:k < l.length
  ·have qH:=hL.mod hm
   obtain⟨gb,rfl,c0,c1,c2,c3⟩:=qH.cell hlt
   have HD:Hid (l.drop k=l[k] :: l.drop (k+1)):=List.drop_eq_getElem_cons hlt
   have Xn:Hid (Good ins.length l[k]):=HG.out _ (List.getElem_mem hlt)
   have Tx:=au hI hm (fun _ _ f=>f)
   obtain⟨hsm,h7,hx,-,-,-,hst⟩:=Xn.out
   have HST:Hid _:=hst
   clear hst qH
   generalize l[k]=t at *
   have hrl:=hM.lt
   have eu:Mod (fun _=>False) wr (wr.alloc (.cells #[.int .u8 t.op,.int .u8 t.x,.int .u8 t.y,.int .u8 t.z] 94)):=(Mod.refl _ wr).alloc _
   have uz:=hM.mod eu
   by_cases h6:t.op < 6
   ·have hd:=U4 B nn HB.out KP.out t (w.heap.size+1) (.slice io ins.length nN) R ins F7 bs _ uz HR.out Xn.out h6 (au Tx eu (fun _ _ f=>f)) hn HI.out
    have LQ:Hid (B<=(Pu.valOf t R ins).natAbs->pr=(⟨#[]⟩,10)):=fun h=>by rw[<- HP.out,HD.out];exact GZ h6 h
    have LW:Hid (¬ B<=(Pu.valOf t R ins).natAbs->play B ins (l.drop (k+1)) (R.set t.x (Pu.valOf t R ins)) ⟨bs.toArray⟩=pr):=fun h=>by rw[<- HP.out,HD.out];exact (wJ h6 h).symm
    have MK:=hm.trans eu
    clear hM uz HP HD HST Tx eu
    generalize Pu.valOf t R ins=val at *
    go_wp2_with fail
    refine hd.mono ?_
    rintro e w2 ⟨hm2,hc⟩
    have aC:Mod (fun _=>False) w w2:=((MK.mono (q:=fun q=>q=w.heap.size+1) (fun _ _ f=>f.elim)).trans hm2).mono (fun q hq h=>by omega)
    rcases hc with ⟨hb,rfl⟩ | ⟨hb,rfl,hM2⟩
    ·have HE:Hid (pr=(⟨#[]⟩,10)):=LQ.out hb
     clear LQ LW hd hm2
     go_wp2
     go_ret2
     exact⟨by rw[HE.out];rfl,aC⟩
    ·have BZ:=LW.out hb
     have BZ:Hid _:=BZ
     have Pk:=hM2.ended
     have HR2:Hid ((R.set t.x val).length=128):=show _=_ by simpa using HR.out
     have Fe:Hid _:=hM2
     clear LQ LW hd hm2 hM2
     go_wp2
     go_roundw
     case rel=>exact⟨k+1,_,bs,by omega,by go_num,HR2,by omega,Fe.out,BZ.out,aC⟩
     case measure=>simp[intOf];omega
   ·by_cases K3:t.op=6
    ·have hd:=U3 t (w.heap.size+1) (.slice io ins.length nN) R bs _ uz hsm K3 (by omega)
     have BZ:Hid (play B ins (l.drop (k+1)) R ⟨(bs++[L8 (reg R t.x)]).toArray⟩=pr):=show _=_ by
      rw[<- HP.out,HD.out,iH K3]
      congr 1
     have MK:=hm.trans eu
     clear hM uz HP HD HST Tx eu K3 h6
     go_wp2_with fail
     refine hd.mono ?_
     rintro e w2 ⟨rfl,hm2,hM2⟩
     have aC:Mod (fun _=>False) w w2:=((MK.mono (q:=fun q=>w.heap.size+1<=q) (fun _ _ f=>f.elim)).trans hm2).mono (fun q hq h=>by omega)
     have Pk:=hM2.ended
     have Fe:Hid _:=hM2
     have hbl:(bs++[L8 (reg R t.x)]).length<=k+1:=by simp;omega
     clear hd hm2 hM2
     go_wp2
     go_roundw
     case rel=>exact⟨k+1,R,_,by omega,by go_num,HR,hbl,Fe.out,BZ,aC⟩
     case measure=>simp[intOf];omega
    ·have h77:t.op=7:=by omega
     by_cases hz:reg R t.x=0
     ·obtain⟨hy3,MV⟩:=HST.out h77
      have hd:=U2 t (w.heap.size+1) (.slice io ins.length nN) R bs _ uz hsm h77 hz hy3 MV (by omega)
      have HE:Hid (pr=(⟨(bs++[Lr t.y]++(dec (t.z:Int)).data.toList).toArray⟩,0)):=show _=_ by
       rw[<- HP.out,HD.out,sM (by omega) hz]
       congr 1
      have MK:=hm.trans eu
      clear hM uz HP HD HST Tx eu K3 h6 hz h77
      generalize bs++[Lr t.y]++(dec (t.z:Int)).data.toList=bs2 at *
      go_wp2_with fail
      refine hd.mono ?_
      rintro e w2 ⟨rfl,hm2,Pk,ro,rn,lN,Mk,hrow,hrn⟩
      subst hrn
      have aC:Mod (fun _=>False) w w2:=((MK.mono (q:=fun q=>w.heap.size+1<=q) (fun _ _ f=>f.elim)).trans hm2).mono (fun q hq h=>by omega)
      have hcv:=jG (P:=Tryz.prog) hrow rfl Tryz.underlying70 Tryz.underlying5 Tryz.underlying9
      clear hd hm2 MK
      go_wp2
      go_ret2
      exact⟨by rw[HE.out];rfl,aC⟩
     ·have hd:=YG t (w.heap.size+1) (.slice io ins.length nN) R bs _ uz hsm h77 hz
      have BZ:Hid (play B ins (l.drop (k+1)) R ⟨bs.toArray⟩=pr):=show _=_ by
       rw[<- HP.out,HD.out,wI (by omega) hz]
      clear hM HP HD HST Tx K3 h6 hz h77
      have Fg:Hid _:=zI uz (hm.trans eu)
      clear uz eu hm
      go_wp2_with fail
      refine hd.mono ?_
      rintro e w2 ⟨rfl,hm2⟩
      have hM2:=Fg.out.1.mod hm2
      have aC:=Fg.out.2.trans hm2
      have Pk:=hM2.ended
      have Fe:Hid _:=hM2
      clear hd hm2 hM2 Fg
      go_wp2
      go_roundw
      case rel=>exact⟨k+1,R,bs,by omega,by go_num,HR,by omega,Fe.out,BZ,aC⟩
      case measure=>simp[intOf];omega
  ·have hks:l.drop k=[]:=List.drop_eq_nil_of_le (by omega)
   have HE:Hid (pr=(⟨bs.toArray⟩,0)):=show pr=_ by rw[<- HP.out,hks];rfl
   obtain⟨ro,rn,lN,Mk,hrow,hrn⟩:=hM.rep
   subst hrn
   have hcv:=jG (P:=Tryz.prog) hrow rfl Tryz.underlying70 Tryz.underlying5 Tryz.underlying9
   clear hks hM
   go_wp2
   go_ret2
   exact⟨by rw[HE.out];rfl,hm⟩
def ZW (w:World) (rb:Nat) (s:ByteArray) (k:Nat) (e:Ending) (w':World):Prop:=Mod (fun q=>q=rb) w w' /\
 ((∃ n p,Cy s k=some (n,p)/\e=.returned (.tuple #[.int .i64 n,.bool true])/\Rd w' rb s p)\/(Cy s k=none/\e=.returned (.tuple #[.int .i64 0,.bool false])))
def lC (s:ByteArray) (k:Nat) (neg:Bool):Option (Int × Nat) :=
 if 49<=g s k/\g s k<=57 then
  (if 48<=g s (k+1)/\g s (k+1)<=57 then some ((if neg then -((10*(g s k - 48)+(g s (k+1) - 48):Nat):Int) else ((10*(g s k - 48)+(g s (k+1) - 48):Nat):Int)),k+2) else some ((if neg then -((g s k - 48:Nat):Int) else ((g s k - 48:Nat):Int)),k+1))
 else none
theorem Sg {s:ByteArray} {k:Nat} (h:g s k=48):Cy s k=some (0,k+1):=by unfold Cy;rw[if_pos h]
theorem VN {s:ByteArray} {k:Nat} (h:g s k=45):Cy s k=lC s (k+1) true:=by unfold Cy lC;rw[if_neg (by omega),if_pos h];simp
theorem VO {s:ByteArray} {k:Nat} (h:g s k≠48) (h2:g s k≠45):Cy s k=lC s k false:=by unfold Cy lC;rw[if_neg h,if_neg h2];simp
theorem Hf (rb:Nat) (s:ByteArray) (k:Nat) (w:World) (hs:s.size<=300) (hk:k<=s.size) (hr:Rd w rb s k) :
  Calls Tryz.prog 95 #[.pointer (some ⟨rb,0,none⟩)] w (ZW w rb s k):=by
 by_cases h48:g s k=48
 ·have HR:Hid _:=Sg h48
  go_in
  go_wp2_with fail
  refine (ji rb s k 48 w hs hk hr (by omega) h48).mono ?_
  rintro e w1 ⟨rfl,hr1,hk1,hm1⟩
  go_wp2
  go_ret2
  exact⟨hm1,.inl ⟨0,k+1,HR.out,rfl,hr1⟩⟩
 ·by_cases h45:g s k=45
  ·have HR:Hid (Cy s k=lC s (k+1) true):=VN h45
   go_in
   go_wp2_with fail
   refine (jB rb s k 48 w hs hk hr h48).mono ?_
   rintro e w1 ⟨rfl,hr1,hm1⟩
   go_wp2_with fail
   refine (ji rb s k 45 w1 hs hk hr1 (by omega) h45).mono ?_
   rintro e w2 ⟨rfl,hr2,hkk,uE⟩
   have hm2:=hm1.trans uE
   clear hm1 uE hr1 h48 h45
   generalize k+1=kk at *
   have hpk:=fun (w:World) (j:Nat) (hj:j<=s.size) (h:Rd w rb s j)=>nT rb s j w hs hj h
   go_wp2_with fail
   refine (hpk w2 kk hkk hr2).mono ?_
   rintro e w3 ⟨rfl,n3,rfl⟩
   have aC:Mod (fun q=>q=rb) w (w2.drewN n3):=hm2.drewN n3
   have hr3:=hr2.drewN n3
   have gl:=rW s kk
   have gl2:=rW s (kk+1)
   clear hm2 hr2
   generalize w2.drewN n3=w3 at *
   by_cases ha:49<=g s kk/\g s kk<=57
   ·have hkl:kk < s.size:=wz (by omega)
    have q1:¬ (g s kk:Int) < 49:=by omega
    have q2:¬ (57:Int) < (g s kk:Int):=by omega
    have t1:=hr3.c1
    have f1:=hr3.f1
    have hr4:=hr3.set (kk+1)
    have aO:Mod (fun q=>q=rb) w (w3.setCell ⟨rb,1,none⟩ (.int .i64 ((kk+1:Nat):Int))):=aC.setCell ⟨rb,1,none⟩ _ (fun _=>rfl)
    have e4:((kk+1:Nat):Int)=(kk:Int)+1:=by omega
    rw[e4]at hr4 aO
    have HX:Hid _:=zI hr4 aO
    have w5:IntKind.u8.wrap ((g s kk:Int) - 48)=(g s kk:Int) - 48:=by simp[IntKind.wrap,IntKind.signed,IntKind.bits];omega
    have w6:IntKind.i64.wrap ((g s kk:Int) - 48)=(g s kk:Int) - 48:=by simp[IntKind.wrap,IntKind.signed,IntKind.bits];omega
    clear hr4 aO e4
    go_wp2_with fail
    obtain⟨hr4,aO⟩:=HX.out
    refine (hpk _ (kk+1) (by omega) hr4).mono ?_
    rintro e w5' ⟨rfl,n5,rfl⟩
    have jH:=aO.drewN n5
    have F6:=hr4.drewN n5
    clear hr4 aO HX t1 f1 hr3 aC
    generalize (w3.setCell ⟨rb,1,none⟩ (.int .i64 ((kk:Int)+1))).drewN n5=w6' at *
    by_cases hb:48<=g s (kk+1)/\g s (kk+1)<=57
    ·have q3:(48:Int)<=(g s (kk+1):Int):=by omega
     have q4:(g s (kk+1):Int)<=57:=by omega
     have acf:kk+1 < s.size:=wz (by omega)
     have t1:=F6.c1
     have f1:=F6.f1
     have JD:=F6.set (kk+2)
     have xS:Mod (fun q=>q=rb) w (w6'.setCell ⟨rb,1,none⟩ (.int .i64 ((kk+2:Nat):Int))):=jH.setCell ⟨rb,1,none⟩ _ (fun _=>rfl)
     have e4:((kk+2:Nat):Int)=(kk:Int)+1+1:=by omega
     rw[e4]at JD xS
     have HX:Hid _:=zI JD xS
     have w7:IntKind.u8.wrap ((g s (kk+1):Int) - 48)=(g s (kk+1):Int) - 48:=by simp[IntKind.wrap,IntKind.signed,IntKind.bits];omega
     have w8:IntKind.i64.wrap ((g s (kk+1):Int) - 48)=(g s (kk+1):Int) - 48:=by simp[IntKind.wrap,IntKind.signed,IntKind.bits];omega
     have HT:Hid (lC s kk true=some (-((10:Int)*((g s kk:Int) - 48)+((g s (kk+1):Int) - 48)),kk+2)):=show _=_ by
      unfold lC;rw[if_pos ha,if_pos hb];simp;omega
     clear JD xS jH F6 e4
     go_wp2
     go_ret2
     exact⟨HX.out.2,.inl ⟨_,kk+2,HR.out.trans HT.out,rfl,HX.out.1⟩⟩
    ·have HT:Hid (lC s kk true=some (-((g s kk:Int) - 48),kk+1)):=show _=_ by
      unfold lC;rw[if_pos ha,if_neg hb];simp;omega
     by_cases hb1:48<=g s (kk+1)
     ·have q3:(48:Int)<=(g s (kk+1):Int):=by omega
      have q4:¬ (g s (kk+1):Int)<=57:=by omega
      go_wp2
      go_ret2
      exact⟨jH,.inl ⟨_,kk+1,HR.out.trans HT.out,rfl,F6⟩⟩
     ·have q3:¬ (48:Int)<=(g s (kk+1):Int):=by omega
      go_wp2
      go_ret2
      exact⟨jH,.inl ⟨_,kk+1,HR.out.trans HT.out,rfl,F6⟩⟩
   ·have HT:Hid (lC s kk true=none):=show _=_ by unfold lC;rw[if_neg ha]
    by_cases ha1:g s kk < 49
    ·have q1:(g s kk:Int) < 49:=by omega
     go_wp2
     go_ret2
     exact⟨aC,.inr ⟨HR.out.trans HT.out,rfl⟩⟩
    ·have q1:¬ (g s kk:Int) < 49:=by omega
     have q2:(57:Int) < (g s kk:Int):=by omega
     go_wp2
     go_ret2
     exact⟨aC,.inr ⟨HR.out.trans HT.out,rfl⟩⟩
  ·have HR:Hid (Cy s k=lC s k false):=VO h48 h45
   go_in
   go_wp2_with fail
   refine (jB rb s k 48 w hs hk hr h48).mono ?_
   rintro e w1 ⟨rfl,hr1,hm1⟩
   go_wp2_with fail
   refine (jB rb s k 45 w1 hs hk hr1 h45).mono ?_
   rintro e w2 ⟨rfl,hr2,uE⟩
   have hm2:=hm1.trans uE
   clear hm1 uE hr1 h48 h45
   have hpk:=fun (w:World) (j:Nat) (hj:j<=s.size) (h:Rd w rb s j)=>nT rb s j w hs hj h
   go_wp2_with fail
   refine (hpk w2 k hk hr2).mono ?_
   rintro e w3 ⟨rfl,n3,rfl⟩
   have aC:Mod (fun q=>q=rb) w (w2.drewN n3):=hm2.drewN n3
   have hr3:=hr2.drewN n3
   have gl:=rW s k
   have gl2:=rW s (k+1)
   clear hm2 hr2
   generalize w2.drewN n3=w3 at *
   by_cases ha:49<=g s k/\g s k<=57
   ·have hkl:k < s.size:=wz (by omega)
    have q1:¬ (g s k:Int) < 49:=by omega
    have q2:¬ (57:Int) < (g s k:Int):=by omega
    have t1:=hr3.c1
    have f1:=hr3.f1
    have hr4:=hr3.set (k+1)
    have aO:Mod (fun q=>q=rb) w (w3.setCell ⟨rb,1,none⟩ (.int .i64 ((k+1:Nat):Int))):=aC.setCell ⟨rb,1,none⟩ _ (fun _=>rfl)
    have e4:((k+1:Nat):Int)=(k:Int)+1:=by omega
    rw[e4]at hr4 aO
    have HX:Hid _:=zI hr4 aO
    have w5:IntKind.u8.wrap ((g s k:Int) - 48)=(g s k:Int) - 48:=by simp[IntKind.wrap,IntKind.signed,IntKind.bits];omega
    have w6:IntKind.i64.wrap ((g s k:Int) - 48)=(g s k:Int) - 48:=by simp[IntKind.wrap,IntKind.signed,IntKind.bits];omega
    clear hr4 aO e4
    go_wp2_with fail
    obtain⟨hr4,aO⟩:=HX.out
    refine (hpk _ (k+1) (by omega) hr4).mono ?_
    rintro e w5' ⟨rfl,n5,rfl⟩
    have jH:=aO.drewN n5
    have F6:=hr4.drewN n5
    clear hr4 aO HX t1 f1 hr3 aC
    generalize (w3.setCell ⟨rb,1,none⟩ (.int .i64 ((k:Int)+1))).drewN n5=w6' at *
    by_cases hb:48<=g s (k+1)/\g s (k+1)<=57
    ·have q3:(48:Int)<=(g s (k+1):Int):=by omega
     have q4:(g s (k+1):Int)<=57:=by omega
     have acf:k+1 < s.size:=wz (by omega)
     have t1:=F6.c1
     have f1:=F6.f1
     have JD:=F6.set (k+2)
     have xS:Mod (fun q=>q=rb) w (w6'.setCell ⟨rb,1,none⟩ (.int .i64 ((k+2:Nat):Int))):=jH.setCell ⟨rb,1,none⟩ _ (fun _=>rfl)
     have e4:((k+2:Nat):Int)=(k:Int)+1+1:=by omega
     rw[e4]at JD xS
     have HX:Hid _:=zI JD xS
     have w7:IntKind.u8.wrap ((g s (k+1):Int) - 48)=(g s (k+1):Int) - 48:=by simp[IntKind.wrap,IntKind.signed,IntKind.bits];omega
     have w8:IntKind.i64.wrap ((g s (k+1):Int) - 48)=(g s (k+1):Int) - 48:=by simp[IntKind.wrap,IntKind.signed,IntKind.bits];omega
     have HT:Hid (lC s k false=some ((10:Int)*((g s k:Int) - 48)+((g s (k+1):Int) - 48),k+2)):=show _=_ by
      unfold lC;rw[if_pos ha,if_pos hb];simp;omega
     clear JD xS jH F6 e4
     go_wp2
     go_ret2
     exact⟨HX.out.2,.inl ⟨_,k+2,HR.out.trans HT.out,rfl,HX.out.1⟩⟩
    ·have HT:Hid (lC s k false=some ((g s k:Int) - 48,k+1)):=show _=_ by
      unfold lC;rw[if_pos ha,if_neg hb];simp;omega
     by_cases hb1:48<=g s (k+1)
     ·have q3:(48:Int)<=(g s (k+1):Int):=by omega
      have q4:¬ (g s (k+1):Int)<=57:=by omega
      go_wp2
      go_ret2
      exact⟨jH,.inl ⟨_,k+1,HR.out.trans HT.out,rfl,F6⟩⟩
     ·have q3:¬ (48:Int)<=(g s (k+1):Int):=by omega
      go_wp2
      go_ret2
      exact⟨jH,.inl ⟨_,k+1,HR.out.trans HT.out,rfl,F6⟩⟩
   ·have HT:Hid (lC s k false=none):=show _=_ by unfold lC;rw[if_neg ha]
    by_cases ha1:g s k < 49
    ·have q1:(g s k:Int) < 49:=by omega
     go_wp2
     go_ret2
     exact⟨aC,.inr ⟨HR.out.trans HT.out,rfl⟩⟩
    ·have q1:¬ (g s k:Int) < 49:=by omega
     have q2:(57:Int) < (g s k:Int):=by omega
     go_wp2
     go_ret2
     exact⟨aC,.inr ⟨HR.out.trans HT.out,rfl⟩⟩
def PIx (s:ByteArray) (more:Bool) (f:Nat) (l:List Int):Prop :=
 (more=true->fq s f=some (f,l)/\s.size≠0)/\(more=false->(f=s.size->iG s=some l)/\(f≠s.size->iG s=none))
def JX:Value->Nat
 | .bool true=>1
 | _=>0
theorem GY (s:ByteArray) (w:World) (hs:s.size<=140):Calls Tryz.prog 56 #[.string s] w (Dy w (iG s)):=by
 obtain⟨i0,hii,hz0,hz1,hz2⟩:=info_parts Tryz.info3
 have hR0:Rd (w.alloc (.cells #[.string s,.int .i64 0] 118)) w.heap.size s 0:=by unfold Rd;show (w.heap.push _)[w.heap.size]?=_;simp
 have hm0:Mod (fun _=>False) w (w.alloc (.cells #[.string s,.int .i64 0] 118)):=(Mod.refl _ w).alloc _
 have HH:Hid _:=zI hR0 hm0
 clear hR0 hm0
 obtain⟨mb,hmb,HPI⟩:∃ mb:Bool,(!s.toList.isEmpty)=mb/\Hid (PIx s mb 0 []):=by
  refine⟨_,rfl,?_⟩
  by_cases h0:s.size=0
  ·have:s.toList=[]:=by
    have e:s=⟨#[]⟩:=by apply ByteArray.ext;exact Array.eq_empty_of_size_eq_zero h0
    rw[e,show (⟨#[]⟩:ByteArray)=⟨([]:List UInt8).toArray⟩ from rfl,ByteArray.toList_mk]
   rw[this]
   exact⟨fun h=>by simp at h,fun _=>⟨fun _=>by simp[iG,h0],fun h=>absurd h0.symm h⟩⟩
  ·have:(!s.toList.isEmpty)=true:=by
    simp
    intro h
    obtain⟨l,rfl⟩:∃ l:List UInt8,s=⟨l.toArray⟩:=⟨s.data.toList,by simp⟩
    rw[ByteArray.toList_mk]at h
    exact h0 (by rw[h];rfl)
   rw[this]
   exact⟨fun _=>⟨rfl,h0⟩,fun h=>by cases h⟩
 go_in
 go_wp2_with fail
 generalize w.alloc (.cells #[.string s,.int .i64 0] 118)=W at *
 obtain⟨hR0,hm0⟩:=HH.out
 clear HH
 have hW:=hm0.size
 have hWl:=hR0.lt
 go_loopw [5,6] (fun lv mv wr=>∃ (f:Nat) (l:List Int) (more:Bool),mv=.bool more/\f<=s.size/\l.length<=f/\Rd wr w.heap.size s f/\wr.ownsRow (w.heap.size+1) 3 1 lv l.length (mo l)/\Hid (PIx s more f l)/\Mod (fun _=>False) w wr) (fun lv mv _=>JX mv*(1000 - sliceLen lv))
 case atStart=>exact⟨0,[],mb,rfl,by omega,by simp,hR0,World.ownsRow_nil _ _ _ _,HPI,hm0⟩
 case round =>
  clear hR0 hm0 HPI hmb
  obtain⟨f,l,more,rfl,hf,hlf,hr,hO,HP,hm⟩:=hrel
  obtain⟨lo,acn,rfl,-⟩:=aj hO
  have hrl:=hr.lt
  cases more with
  | false =>
   obtain⟨p1,p2⟩:=HP.out.2 rfl
   have c1:=hr.c1
   by_cases he:f=s.size
   ·have HI:Hid _:=p1 he
    have q1:((f:Int) != (s.size:Int))=false:=by rw[he];simp
    have hE:=bI (base':=w.heap.size) hO (by omega)
    clear he p1 p2
    go_wp2
    go_ret2
    rw[HI.out]
    exact rZ hm hE
   ·have HI:Hid _:=p2 he
    have q1:((f:Int) != (s.size:Int))=true:=by simp;omega
    clear he p1 p2
    go_wp2
    go_ret2
    rw[HI.out]
    exact oO hm
  | true =>
   obtain⟨hst,hs0⟩:=HP.out.1 rfl
   have HST:Hid _:=hst
   clear hst
   go_wp2_with fail
   refine (Hf w.heap.size s f wr (by omega) hf hr).mono ?_
   rintro e w2 ⟨hm2,⟨n,p,hrd,rfl,hr2⟩ | ⟨hrd,rfl⟩⟩
   ·obtain⟨g1,g2,-,g4,g5,-⟩:=zN hrd
    have wu:Mod (fun _=>False) w w2:=((hm.mono (q:=fun q=>q=w.heap.size) (fun _ _ f=>f.elim)).trans hm2).mono (fun q hq h=>by omega)
    have hO2:=au hO hm2 (fun g h1 h2=>by omega)
    have hrl2:=hr2.lt
    have HRD:Hid _:=hrd
    clear hrd hm hO hm2 hr
    go_wp2_with (at_builtin;refine wpList_append_own _ rfl _ _ 29 rfl (w.heap.size+1) 3 i0 _ 1 8 Tryz.underlying29 hii hz0 hz1 hz2 rfl (by decide) _ _ _ rfl (hO2.alloc _) ⟨w2.heap.size,0,none⟩ 1 1 [.int .i64 n] rfl rfl ?c1 ?c2 ?c3 ?c4 ?c5 ?_)
    case c1=>exact World.news_of_block (cs:=#[.int .i64 n]) (t:=3) (fr:=(0,0)) (heap_alloc_new w2 _)
    case c2=>simp[Value.oneCell']
    case c3=>unfold maxLen;omega
    case c4=>omega
    case c5=>simp;omega
    intro v' w4 aG hgrow _
    have hgm:Mod (fun i=>w.heap.size+1<=i) w2 w4:=((Mod.refl _ w2).alloc _).grown hgrow (fun i hi _=>(hO2.lt i hi).1)
    have hr4:Rd w4 w.heap.size s p:=hr2.keep hgm (by omega)
    have aO:Mod (fun _=>False) w w4:=⟨hgm.os.trans wu.os,hgm.tape.trans wu.tape,hgm.output.trans wu.output,Nat.le_trans wu.size hgm.size,fun i hi _=>(hgm.block i (by omega) (by omega)).trans (wu.block i hi (fun f=>f))⟩
    have hO4:w4.ownsRow (w.heap.size+1) 3 1 v' (l++[n]).length (mo (l++[n])):=by
     have:mo (l++[n])=mo l++[.int .i64 n]:=by simp[mo]
     rw[this];simpa using aG
    obtain⟨lo4,acB,rfl,-⟩:=aj hO4
    have hln:(l++[n]).length=l.length+1:=by simp
    have LU:Hid _:=hln
    have hl4:(l++[n]).length<=p:=by omega
    clear aG hgrow hgm hO2 wu hr2 hln
    generalize hnl:(l++[n]).length=nl at *
    have OU:Hid ((l++[n]).length=nl):=hnl
    clear hnl
    by_cases hc:g s p=44
    ·have Xo:Hid (PIx s true (p+1) (l++[n])):=⟨fun _=>⟨MX HST.out HRD.out hc,hs0⟩,fun h=>by cases h⟩
     go_wp2_with fail
     refine (ji w.heap.size s p 44 w4 (by omega) g2 hr4 (by omega) hc).mono ?_
     rintro e w5 ⟨rfl,F6,hk5,jH⟩
     have Yu:Mod (fun _=>False) w w5:=((aO.mono (q:=fun q=>q=w.heap.size) (fun _ _ f=>f.elim)).trans jH).mono (fun q hq h=>by omega)
     have hO5:=au hO4 jH (fun g h1 h2=>by omega)
     clear aO jH hO4 hr4 hc
     go_wp2
     go_roundw
     case rel=>exact⟨p+1,l++[n],true,rfl,hk5,by rw[OU.out];omega,F6,by rw[OU.out];exact hO5,Xo,Yu⟩
     case measure=>have:=LU.out;have:=OU.out;simp[JX,sliceLen];omega
    ·have Xo:Hid (PIx s false p (l++[n])):=⟨fun h=>(by cases h),fun _=>⟨fun he=>Qw hs0 HST.out (by rw[<- he];exact HRD.out),fun hne=>K6 hs0 hf HST.out (fun n' p' h=>by
      have:=HRD.out
      rw[h]at this
      simp at this
      rw[this.2];exact⟨hne,hc⟩)⟩⟩
     go_wp2_with fail
     refine (jB w.heap.size s p 44 w4 (by omega) g2 hr4 hc).mono ?_
     rintro e w5 ⟨rfl,F6,jH⟩
     have Yu:Mod (fun _=>False) w w5:=((aO.mono (q:=fun q=>q=w.heap.size) (fun _ _ f=>f.elim)).trans jH).mono (fun q hq h=>by omega)
     have hO5:=au hO4 jH (fun g h1 h2=>by omega)
     clear aO jH hO4 hr4 hc
     go_wp2
     go_roundw
     case rel=>exact⟨p,l++[n],false,rfl,g2,by rw[OU.out];omega,F6,by rw[OU.out];exact hO5,Xo,Yu⟩
     case measure=>simp[JX,sliceLen];omega
   ·have HI:Hid (iG s=none):=K6 hs0 hf HST.out (fun n p h=>by rw[hrd]at h;cases h)
    have wu:Mod (fun _=>False) w w2:=((hm.mono (q:=fun q=>q=w.heap.size) (fun _ _ f=>f.elim)).trans hm2).mono (fun q hq h=>by omega)
    clear hrd hm2 hm hO hr
    go_wp2
    go_ret2
    rw[HI.out]
    exact oO wu
def stt (B n:Nat) (l:List Stp) (inp:ByteArray):ByteArray × Nat :=
 match iG inp with
 | none=>(⟨#[]⟩,9)
 | some ins=>if ins.length≠n then (⟨#[]⟩,9) else play B ins l (List.replicate 128 0) ⟨#[]⟩
theorem SH {B n:Nat} {l:List Stp} {inp:ByteArray} (h:iG inp=none):stt B n l inp=(⟨#[]⟩,9):=by unfold stt;rw[h]
theorem Oq {B n:Nat} {l:List Stp} {inp:ByteArray} {ins:List Int} (h:iG inp=some ins) (k:¬ ins.length=n):stt B n l inp=(⟨#[]⟩,9):=by unfold stt;rw[h];simp[k]
theorem SI {B n:Nat} {l:List Stp} {inp:ByteArray} {ins:List Int} (h:iG inp=some ins) (k:ins.length=n):stt B n l inp=play B ins l (List.replicate 128 0) ⟨#[]⟩:=by unfold stt;rw[h];simp[k]
theorem Uw {B:Nat} {s inp:ByteArray} (h:lU s=(0,0)):exe B s inp=stt B (g s 3) (steps s) inp:=by unfold exe;rw[h];rfl
theorem Dl (B nn:Nat) (hB:B=10 ^ nn) (hnn:nn=8000) (r i:Nat) (v:Value) (l:List Stp) (base:Nat) (inp:ByteArray) (w:World) (hl:l.length<=3000) (hL:gM w base v l) (hi:inp.size<=140) (MI:i < 256) (hg:∀ t∈l,Good i t) :
  Calls Tryz.prog 35 #[.agg #[.int .u8 r,.int .u8 i,v],.string inp] w fun e w'=>e=.returned (.tuple #[.string (stt B i l inp).1,.int .i64 (stt B i l inp).2])/\Mod (fun _=>False) w w':=by
 obtain⟨ao,cap,rfl,-⟩:=aj hL
 have HB:Hid (B=10 ^ nn):=hB
 have KP:Hid (nn=8000):=hnn
 have HG:Hid (∀ t∈l,Good i t):=hg
 have HLen:Hid (l.length<=3000):=hl
 clear hB hnn hg
 have w3:IntKind.i64.wrap (i:Int)=(i:Int):=by simp[IntKind.wrap,IntKind.signed,IntKind.bits];omega
 have hpa:=heap_alloc_new w (.cells #[.int .u8 r,.int .u8 i,.slice ao l.length cap] 63)
 have hma:=(Mod.refl (fun _=>False) w).alloc (.cells #[.int .u8 r,.int .u8 i,.slice ao l.length cap] 63)
 have FU:=gM.mod hL ((Mod.refl (fun _=>False) w).alloc (.cells #[.int .u8 r,.int .u8 i,.slice ao l.length cap] 63))
 have HH:Hid _:=zI hpa (zI hma FU)
 clear hpa hma FU hL hl
 go_in
 go_wp2_with fail
 generalize w.alloc (.cells #[.int .u8 r,.int .u8 i,.slice ao l.length cap] 63)=w2 at *
 obtain⟨hpa,hma,FU⟩:=HH.out
 clear HH
 refine (GY inp w2 hi).mono ?_
 rintro e w3 ⟨aC,he⟩
 have hp3:=aC.keep hpa (fun f=>f)
 have uX:=hma.trans aC
 have hL3:=FU.mod aC
 obtain⟨c0,c1,c2⟩:=cells3 hp3
 clear hpa hma FU hp3
 cases hin:iG inp with
 | none =>
  rw[hin]at he
  simp only at he
  subst he
  have HE:Hid (stt B i l inp=(⟨#[]⟩,9)):=SH hin
  clear aC hL3 hin
  go_wp2
  go_ret2
  exact⟨by rw[HE.out];rfl,uX⟩
 | some ins =>
  rw[hin]at he
  simp only at he
  obtain⟨v,rfl,hown⟩:=he
  obtain⟨vo,dO,rfl,-⟩:=aj hown
  have HR:Hid (∀ x∈ins,-100 < x/\x < 100):=nO hin
  by_cases hl:ins.length=i
  ·have HE:Hid (stt B i l inp=play B ins l (List.replicate 128 0) ⟨#[]⟩):=SI hin hl
   have hbq:((ins.length:Int) != (i:Int))=false:=rP hl
   have hx:=FL B nn HB.out KP.out r i (.slice ao l.length cap) (.slice vo ins.length dO) l ins _ _ w3 HLen.out hL3 hown (by omega) HR.out (fun t ht=>by rw[hl];exact HG.out t ht)
   clear hl hin aC hL3 hown
   go_wp2_with fail
   refine hx.mono ?_
   rintro e w4 ⟨rfl,aO⟩
   have gy:=uX.trans aO
   clear hx aO uX
   go_wp2
   go_ret2
   exact⟨by rw[HE.out];rfl,gy⟩
  ·have HE:Hid (stt B i l inp=(⟨#[]⟩,9)):=Oq hin hl
   have hbq:((ins.length:Int) != (i:Int))=true:=CO hl
   clear hl hin aC hL3 hown
   go_wp2
   go_ret2
   exact⟨by rw[HE.out];rfl,uX⟩
def VQ (l:List St) (inp:ByteArray):ByteArray × Nat :=
 match iG inp with
 | none=>(⟨#[]⟩,9)
 | some ins=>if ins.length≠aY (cmds l) then (⟨#[]⟩,9) else (rG ins (cmds l) 0 0 [] ⟨#[]⟩,0)
theorem GU {p:List (St × Nat)} (h:Ok p) (hl:p.length<=16):∀ t∈bZ (cmds (aL p)) 0 0,Good (aY (cmds (aL p))) t:=by
 have hm:=Pu.jc h hl
 have hr:=(Le _ _ _).2 (Es _ _ hm.ok)
 intro t ht
 obtain⟨j,hj,rfl⟩:=List.getElem_of_mem ht
 exact vG (qo _ _ hm.ok _ (List.getElem_mem hj)) (Nat.le_refl _) (hr j hj)
theorem Zf {B nn:Nat} (hB:B=10 ^ nn) (hn:nn=8000) {p:List (St × Nat)} (h:Ok p) (hl:p.length<=16) (inp:ByteArray):stt B (aY (cmds (aL p))) (bZ (cmds (aL p)) 0 0) inp=VQ (aL p) inp:=by
 unfold stt VQ
 cases hin:iG inp with
 | none=>rfl
 | some ins =>
  simp only
  by_cases hc:ins.length=aY (cmds (aL p))
  ·have hr:=nO hin
   rw[if_neg (fun e=>e hc),if_neg (fun e=>e hc)]
   exact yX hB hn ins (fun x hx=>by have:=hr x hx;omega) _ (xw h) (by rw[iE];exact hl) hc.symm
  ·rw[if_pos hc,if_pos hc]
def xH (s inp:ByteArray) (r:ByteArray × Nat):Prop:=∃ a b,EW s a b/\((a≠0/\r=(⟨#[]⟩,a))\/(a=0/\r=VQ (bF s s.size).l inp))
theorem xH.unique {s inp:ByteArray} {r t:ByteArray × Nat} (h:xH s inp r) (k:xH s inp t):r=t:=by
 obtain⟨a,b,hA,h⟩:=h
 obtain⟨c,d,kA,k⟩:=k
 obtain⟨rfl,rfl⟩:=hA.unique kA
 rcases h with ⟨h0,rfl⟩ | ⟨h0,rfl⟩<;>rcases k with ⟨k0,rfl⟩ | ⟨k0,rfl⟩
 ·rfl
 ·exact absurd k0 h0
 ·exact absurd h0 k0
 ·rfl
theorem Sr (s inp:ByteArray) (w:World) (hs:300 < s.size\/140 < inp.size) (hm:s.size<=maxLen) (hm2:inp.size<=maxLen):Calls Tryz.prog 25 #[.string s,.string inp] w fun e w'=>e=.returned (.tuple #[.string ⟨#[]⟩,.int .i64 1])/\w=w':=by
 unfold maxLen at hm hm2
 by_cases h1:300 < s.size
 ·have i1:(300:Int) < (s.size:Int):=by omega
  clear hs
  go_in
  go_wp2
  go_ret2
  exact⟨rfl,rfl⟩
 ·have i1:¬ (300:Int) < (s.size:Int):=by omega
  have i2:(140:Int) < (inp.size:Int):=by omega
  clear hs
  go_in
  go_wp2
  go_ret2
  exact⟨rfl,rfl⟩
theorem VU (s inp:ByteArray) (w:World) (hs:s.size<=300) (hi:inp.size<=140):Calls Tryz.prog 25 #[.string s,.string inp] w fun e w'=>Mod (fun _=>False) w w'/\∃ r,xH s inp r/\e=.returned (.tuple #[.string r.1,.int .i64 (r.2:Nat)]):=by
 have i1:¬ (300:Int) < (s.size:Int):=by omega
 have i2:¬ (140:Int) < (inp.size:Int):=by omega
 obtain⟨nn,hnn⟩:∃ nn:Nat,nn=8000:=⟨8000,rfl⟩
 obtain⟨B,hB⟩:∃ B:Nat,B=10 ^ nn:=⟨_,rfl⟩
 have HB:Hid (B=10 ^ nn):=hB
 have KP:Hid (nn=8000):=hnn
 clear hB hnn
 go_in
 go_wp2_with fail
 refine (xg s w hs).mono ?_
 rintro e w1 ⟨hm1,hu⟩
 rcases hu with ⟨k,hst,rfl⟩ | ⟨hW,p,k,hk,hok,hp,he,rfl⟩ | ⟨hW,v,q,hok,YA,hL,uY,rfl⟩
 ·have HA:Hid (xH s inp (⟨#[]⟩,2)):=⟨2,k,.inl ⟨hst,rfl⟩,.inl ⟨by decide,rfl⟩⟩
  clear hst
  go_wp2
  go_ret2
  exact⟨hm1,_,HA.out,rfl⟩
 ·have HA:Hid (xH s inp (⟨#[]⟩,err p (bF s s.size).l[k])):=⟨_,k,.inr (.inl ⟨hW,p,hk,hok,hp,he,rfl⟩),.inl ⟨he,rfl⟩⟩
  have hb:((err p (bF s s.size).l[k]:Int) != 0)=true:=by rw[bne_iff_ne];omega
  generalize err p (bF s s.size).l[k]=er at *
  clear he hok hp hW
  go_wp2
  go_ret2
  exact⟨hm1,_,HA.out,rfl⟩
 ·have Yz:(pq q).length<=16:=by simpa [pq] using uY
  have HG:Hid _:=GU hok Yz
  have HR:Hid _:=Zf HB.out KP.out hok Yz inp
  have hM:=Pu.jc hok Yz
  have MI:aY (cmds (aL (pq q))) < 256:=by have:=hM.n32;omega
  have hln:(bZ (cmds (aL (pq q))) 0 0).length<=3000:=by have:=hM.len;omega
  have HA:Hid (xH s inp (VQ (aL (pq q)) inp)):=⟨0,0,.inr (.inr ⟨hW,rfl,rfl,pq q,hok,by rw[fH];exact YA⟩),.inr ⟨rfl,by rw[fH,YA]⟩⟩
  have ht:=Dt v q _ w1 uY hL hok
  rw[fH]at HG HR MI hln HA
  clear hM YA hok hW uY Yz hL
  go_wp2_with fail
  refine ht.mono ?_
  clear ht
  rintro e w2 ⟨hm2,ao,n,cap,rfl,hP⟩
  generalize aY (cmds (q.map It.x))=NN at *
  generalize bZ (cmds (q.map It.x)) 0 0=SS at *
  have uF:=(hm1.trans hm2).alloc (.cells #[.int .u8 128,.int .u8 (NN:Nat),.slice ao n cap] 63)
  have Qf:=gM.mod hP ((Mod.refl (fun _=>False) w2).alloc (.cells #[.int .u8 128,.int .u8 (NN:Nat),.slice ao n cap] 63))
  have eO:=heap_alloc_new w2 (.cells #[.int .u8 128,.int .u8 (NN:Nat),.slice ao n cap] 63)
  obtain⟨c0,c1,c2⟩:=cells3 eO
  have HH:Hid _:=zI uF Qf
  clear uF Qf eO hm2 hP hm1
  go_wp2_with fail
  generalize w2.alloc (.cells #[.int .u8 128,.int .u8 (NN:Nat),.slice ao n cap] 63)=w3 at *
  clear c0 c1 c2
  obtain⟨uF,Qf⟩:=HH.out
  clear HH
  refine (Dl B nn HB.out KP.out 128 NN (.slice ao n cap) SS _ inp w3 hln Qf hi MI HG.out).mono ?_
  rintro e w4 ⟨rfl,aO⟩
  rw[HR.out]
  have gy:=uF.trans aO
  generalize VQ (q.map It.x) inp=rr at *
  clear uF Qf aO
  go_wp2
  go_ret2
  exact⟨gy,_,HA.out,rfl⟩
def LM (s:ByteArray) (r:ByteArray × Nat):Prop:=∃ a b,EW s a b/\((a≠0/\r=(⟨#[]⟩,a))\/(a=0/\r=(⟨(joined 128 (aY (cmds (bF s s.size).l)) (bZ (cmds (bF s s.size).l) 0 0)).toArray⟩,0)))
theorem Pn (s:ByteArray) (w:World) (hs:300 < s.size) (hm:s.size<=maxLen):Calls Tryz.prog 23 #[.string s] w fun e w'=>e=.returned (.tuple #[.string ⟨#[]⟩,.int .i64 1])/\w=w':=by
 have hu:=xk s w hs hm
 go_in
 go_wp2_with fail
 refine hu.mono ?_
 rintro e w1 ⟨rfl,rfl⟩
 clear hu
 go_wp2
 go_ret2
 exact⟨rfl,rfl⟩
theorem Un (s:ByteArray) (w:World) (hs:s.size<=300):Calls Tryz.prog 23 #[.string s] w fun e w'=>Mod (fun _=>False) w w'/\∃ r,LM s r/\e=.returned (.tuple #[.string r.1,.int .i64 (r.2:Nat)]):=by
 go_in
 go_wp2_with fail
 refine (xg s w hs).mono ?_
 rintro e w1 ⟨hm1,hu⟩
 rcases hu with ⟨k,hst,rfl⟩ | ⟨hW,p,k,hk,hok,hp,he,rfl⟩ | ⟨hW,v,q,hok,YA,hL,uY,rfl⟩
 ·have HA:Hid (LM s (⟨#[]⟩,2)):=⟨2,k,.inl ⟨hst,rfl⟩,.inl ⟨by decide,rfl⟩⟩
  clear hst
  go_wp2
  go_ret2
  exact⟨hm1,_,HA.out,rfl⟩
 ·have HA:Hid (LM s (⟨#[]⟩,err p (bF s s.size).l[k])):=⟨_,k,.inr (.inl ⟨hW,p,hk,hok,hp,he,rfl⟩),.inl ⟨he,rfl⟩⟩
  have hb:((err p (bF s s.size).l[k]:Int) != 0)=true:=by rw[bne_iff_ne];omega
  generalize err p (bF s s.size).l[k]=er at *
  clear he hok hp hW
  go_wp2
  go_ret2
  exact⟨hm1,_,HA.out,rfl⟩
 ·have Yz:(pq q).length<=16:=by simpa [pq] using uY
  have hM:=Pu.jc hok Yz
  have IV:Hid _:=qo _ _ hM.ok
  have MI:aY (cmds (aL (pq q))) < 256:=by have:=hM.n32;omega
  have hln:(bZ (cmds (aL (pq q))) 0 0).length<=3000:=by have:=hM.len;omega
  have HA:Hid (LM s (⟨(joined 128 (aY (cmds (aL (pq q)))) (bZ (cmds (aL (pq q))) 0 0)).toArray⟩,0)):=⟨0,0,.inr (.inr ⟨hW,rfl,rfl,pq q,hok,by rw[fH];exact YA⟩),.inr ⟨rfl,by rw[fH,YA]⟩⟩
  have ht:=Dt v q _ w1 uY hL hok
  rw[fH]at IV MI hln HA
  clear hM YA hok hW uY Yz hL
  go_wp2_with fail
  refine ht.mono ?_
  clear ht
  rintro e w2 ⟨hm2,ao,n,cap,rfl,hP⟩
  generalize aY (cmds (q.map It.x))=NN at *
  generalize bZ (cmds (q.map It.x)) 0 0=SS at *
  have uF:=(hm1.trans hm2).alloc (.cells #[.int .u8 128,.int .u8 (NN:Nat),.slice ao n cap] 63)
  have Qf:=gM.mod hP ((Mod.refl (fun _=>False) w2).alloc (.cells #[.int .u8 128,.int .u8 (NN:Nat),.slice ao n cap] 63))
  have eO:=heap_alloc_new w2 (.cells #[.int .u8 128,.int .u8 (NN:Nat),.slice ao n cap] 63)
  obtain⟨c0,c1,c2⟩:=cells3 eO
  have HH:Hid _:=zI uF Qf
  clear uF Qf eO hm2 hP hm1
  go_wp2_with fail
  generalize w2.alloc (.cells #[.int .u8 128,.int .u8 (NN:Nat),.slice ao n cap] 63)=w3 at *
  clear c0 c1 c2
  obtain⟨uF,Qf⟩:=HH.out
  clear HH
  refine (Gl (.slice ao n cap) SS 128 NN _ w3 hln Qf IV.out (by omega) MI).mono ?_
  rintro e w4 ⟨rfl,aO⟩
  have gy:=uF.trans aO
  clear uF Qf aO
  go_wp2
  go_ret2
  exact⟨gy,_,HA.out,rfl⟩
end Go.Proofs.YtmnfndpbblpjiabGreatDoor

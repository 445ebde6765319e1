/- The document's numbers: Plus, Minus. -/
import Derived.Deep.RegionHeld3
import Derived.BigRegion
import Derived.Test.YtmnfndpbblpjiabGreatDoorZx06
set_option maxHeartbeats 3200000
set_option maxRecDepth 100000
namespace Go.Proofs.YtmnfndpbblpjiabGreatDoor
open Go.RowKit Pu
def Pu.cu (way:Int):List Nat->List Nat->List Int
 | [],[]=>[]
 | a :: l,[]=>(a:Int) :: cu way l []
 | [],b :: m=>(way*(b:Int)) :: cu way [] m
 | a :: l,b :: m=>((a:Int)+way*(b:Int)) :: cu way l m
theorem Pu.lM (way:Int):∀ a b:List Nat,gQ (cu way a b)=(val a:Int)+way*(val b:Int)
 | [],[]=>by simp[cu,gQ,val]
 | a :: l,[]=>by
  have:=lM way l []
  simp only[cu,gQ,val,this];simp
 | [],b :: m=>by
  have:=lM way [] m
  simp only[cu,gQ,val,this]
  simp only[Int.natCast_add,Int.natCast_mul,Int.mul_add]
  have e:way*(10000*(val m:Int))=10000*(way*(val m:Int)):=by rw[<- Int.mul_assoc,Int.mul_comm way 10000,Int.mul_assoc]
  simp[e]
 | a :: l,b :: m=>by
  have:=lM way l m
  simp only[cu,gQ,val,this]
  simp only[Int.natCast_add,Int.natCast_mul,Int.mul_add]
  have e:way*(10000*(val m:Int))=10000*(way*(val m:Int)):=by rw[<- Int.mul_assoc,Int.mul_comm way 10000,Int.mul_assoc]
  simp only[show ((10000:Nat):Int)=10000 from rfl,e]
  omega
theorem Pu.lK (way:Int):∀ a b:List Nat,(cu way a b).length=max a.length b.length
 | [],[]=>by simp[cu]
 | a :: l,[]=>by have:=lK way l [];simp only[cu,List.length_cons,List.length_nil]at *;omega
 | [],b :: m=>by have:=lK way [] m;simp only[cu,List.length_cons,List.length_nil]at *;omega
 | a :: l,b :: m=>by have:=lK way l m;simp only[cu,List.length_cons]at *;omega
theorem Pu.nU (way:Int):∀ (a b:List Nat) (k:Nat),k < max a.length b.length->(cu way a b)[k]?=some ((a[k]?.getD 0:Nat)+way*((b[k]?.getD 0:Nat):Int))
 | [],[],k,h=>by simp at h
 | a :: l,[],0,_=>by simp[cu]
 | a :: l,[],k+1,h=>by have:=nU way l [] k (by simp only[List.length_cons,List.length_nil]at *;omega);simpa [cu] using this
 | [],b :: m,0,_=>by simp[cu]
 | [],b :: m,k+1,h=>by have:=nU way [] m k (by simp only[List.length_cons,List.length_nil]at *;omega);simpa [cu] using this
 | a :: l,b :: m,0,_=>by simp[cu]
 | a :: l,b :: m,k+1,h=>by have:=nU way l m k (by simp only[List.length_cons]at *;omega);simpa [cu] using this
theorem Pu.vU {l:List Nat} (h:CJ l) (k:Nat):l[k]?.getD 0 < 10000:=by
 by_cases hk:k < l.length
 ·simp[hk];exact h _ (List.getElem_mem hk)
 ·simp[show l.length<=k by omega]
theorem Mod.cell {a b:World} {k i:Nat} {v:Value} (hm:Mod (fun _=>False) a b) (h:a.cell? ⟨k,i,none⟩=some v):b.cell? ⟨k,i,none⟩=some v:=by
 have hk:k < a.heap.size:=by
  cases ho:a.heap[k]? with
  | none=>simp[World.cell?,ho]at h
  | some o=>exact lt_of_block ho
 exact (World.cell?_of_block (a:=⟨k,i,none⟩) (hm.block k hk (fun f=>f))).trans h
theorem abv (l:List Int) (d:Int):mo l++[.int .i64 d]=mo (l++[d]):=by simp[mo]
theorem qx {w:World} {B k:Nat} {v:Value} {pl:List Int} {x dk:Int} (h:w.ownsRow B 3 1 v (k+1) (mo (pl.take k)++[.int .i64 x])) (hp:pl[k]?=some dk) (hx:x=dk):w.ownsRow B 3 1 v (k+1) (mo (pl.take (k+1))):=by
 rw[List.take_add_one,hp,<- hx]
 simpa [mo] using h
theorem ay (b:Nat) (w:World) (x u:Value) (k:Nat) (i:Nat) (h:k≠b):((w.setCell ⟨b,0,none⟩ x).setCell ⟨b,1,none⟩ u).cell? ⟨k,i,none⟩=w.cell? ⟨k,i,none⟩:=by
 apply World.cell?_of_block
 rw[Below.heap_setCell _ _ _ _ h,Below.heap_setCell _ _ _ _ h]
theorem dL {w:World} {b:Nat} {nb:Bool} {v u:Value} {n:Nat} {xs:List Value} (h:w.ownsRow 0 3 1 u n xs) (hR:pV w b nb v) (x:Bool) (y:Value):((w.setCell ⟨b,0,none⟩ (.bool x)).setCell ⟨b,1,none⟩ y).ownsRow 0 3 1 u n xs:=by
 refine dW h (dK b w x y) (fun q hq he=>?_)
 subst he
 obtain⟨_,⟨he,_⟩ | ⟨g,c,cur,he,_,hg,_⟩⟩:=h
 ·rw[he]at hq;simp[Value.ownBlock]at hq
 ·rw[he]at hq;simp[Value.ownBlock]at hq
  subst hq
  unfold pV at hR;rw[hg]at hR;simp at hR
theorem Di (nx:Bool) (u v:Value) (a b:List Nat) (w:World) (hU:Nm w nx u a) (hV:Nm w nx v b) (la:a.length<=1000000000) (lb:b.length<=1000000000) :
  Calls Tryz.prog 151 #[oz nx u,oz nx v] w (NumEnd w (num nx a+num nx b) (max a.length b.length+4)):=by
 obtain⟨i0,hi,hz0,hz1,hz2⟩:=info_parts Tryz.info3
 have ha:=hU.1.1
 have hb:=hV.1.1
 have Xa:=hU.1.2.1
 have htb:=hV.1.2.1
 obtain⟨ao,aK,rfl,-⟩:=aj hU.2
 obtain⟨bo,cK,rfl,-⟩:=aj hV.2
 have Fh:Hid (∀ os,(val os:Int)=gQ (cu (1) a b)->num nx os=num nx a+num nx b):=fun os h=>by
  rw[lM]at h
  unfold num
  cases nx<;>simp<;>omega
 have H0:Hid (0<=gQ (cu (1) a b)):=show 0<=gQ (cu (1) a b) by rw[lM];omega
 have EY:Hid (∀ k,k < max a.length b.length->(cu (1) a b)[k]?=some ((a[k]?.getD 0:Nat)+(1)*((b[k]?.getD 0:Nat):Int))):=nU (1) a b
 have LU:Hid ((cu (1) a b).length=max a.length b.length):=lK (1) a b
 have Wx:Hid (∀ x∈cu (1) a b,-200000000000000000<=x/\x<=200000000000000000):=fun x hx=>by
  obtain⟨j,hj,rfl⟩:=List.getElem_of_mem hx
  have h1:=nU (1) a b j (by rw[lK]at hj;exact hj)
  rw[List.getElem?_eq_getElem hj]at h1
  injection h1 with h1
  have h2:=vU ha j
  have h3:=vU hb j
  omega
 have hU2:=hU.2
 have hV2:=hV.2
 clear hU hV
 have hX:=bO w nx (.slice ao a.length aK)
 have hY:=bO (w.alloc (.cells #[.bool nx,.slice ao a.length aK] 154)) nx (.slice bo b.length cK)
 have hR:=bO ((w.alloc (.cells #[.bool nx,.slice ao a.length aK] 154)).alloc (.cells #[.bool nx,.slice bo b.length cK] 154)) false (.slice none 0 0)
 have m1:Mod (fun _=>False) w (w.alloc (.cells #[.bool nx,.slice ao a.length aK] 154)):=(Mod.refl _ w).alloc _
 have m2:Mod (fun _=>False) (w.alloc (.cells #[.bool nx,.slice ao a.length aK] 154)) ((w.alloc (.cells #[.bool nx,.slice ao a.length aK] 154)).alloc (.cells #[.bool nx,.slice bo b.length cK] 154)):=(Mod.refl _ _).alloc _
 have m3:Mod (fun _=>False) ((w.alloc (.cells #[.bool nx,.slice ao a.length aK] 154)).alloc (.cells #[.bool nx,.slice bo b.length cK] 154)) (((w.alloc (.cells #[.bool nx,.slice ao a.length aK] 154)).alloc (.cells #[.bool nx,.slice bo b.length cK] 154)).alloc (.cells #[.bool false,.slice none 0 0] 154)):=(Mod.refl _ _).alloc _
 have wh:=(hX.keep m2 (fun f=>f)).keep m3 (fun f=>f)
 have zo:=hY.keep m3 (fun f=>f)
 have fK:=m1.trans (m2.trans m3)
 have Yl:=au hU2 fK (fun _ _ f=>f)
 have UM:=au hV2 fK (fun _ _ f=>f)
 simp only[World.size_alloc]at zo hR
 clear hX hY m1 m2 m3 hU2 hV2
 go_in
 go_wp2_with fail
 generalize ((w.alloc (.cells #[.bool nx,.slice ao a.length aK] 154)).alloc (.cells #[.bool nx,.slice bo b.length cK] 154)).alloc (.cells #[.bool false,.slice none 0 0] 154)=W at *
 have hWz:=fK.size
 have hRl:=hR.lt
 go_loopw [6,7] (fun dv i wr=>∃ k:Nat,k<=max a.length b.length/\i=.int .i64 k/\wr.ownsRow W.heap.size 3 1 dv k (mo ((cu (1) a b).take k))/\Mod (fun _=>False) W wr) (fun _ i _=>max a.length b.length - (intOf i).toNat)
 case atStart=>exact⟨0,by omega,rfl,by simpa [mo] using World.ownsRow_nil _ _ _ _,Mod.refl _ _⟩
 case round =>
  obtain⟨k,hk,rfl,hown,hm⟩:=hrel
  have hsz:=hm.size
  obtain⟨oo,qj,rfl,-⟩:=aj hown
  have x1:=(wh.keep hm (fun f=>f)).c1
  have y1:=(zo.keep hm (fun f=>f)).c1
  by_cases hka:k < a.length
  ·have hlt:k < max a.length b.length:=by omega
   obtain⟨ga,rfl,ca⟩:=fA (au Yl hm (fun _ _ f=>f)) rfl hka
   have hda:=ha _ (List.getElem_mem hka)
   by_cases hkb:k < b.length
   ·obtain⟨gb,rfl,cb⟩:=fA (au UM hm (fun _ _ f=>f)) rfl hkb
    have hdb:=hb _ (List.getElem_mem hkb)
    go_wp2_with (at_builtin;refine wpList_append_own _ rfl _ _ 29 rfl W.heap.size 3 i0 (.int .i64 0) 1 8 Tryz.underlying29 hi hz0 hz1 hz2 rfl (by decide) _ _ _ rfl (hown.alloc _) ⟨wr.heap.size,0,none⟩ 1 1 [_] rfl rfl (cell_one_new _ _ _) ?p2 ?p3 ?p4 ?p5 ?_)
    case p2=>first | rfl | (intro u hu;simp at hu;subst hu;rfl)
    case p3=>unfold maxLen;omega
    case p4=>omega
    case p5=>first | omega | (simp;omega)
    intro v4 w4 aG hgrow _
    have aO:Mod (fun _=>False) W w4:=(hm.alloc _).grown hgrow (fun q hq hlt=>by have:=(hown.lt q hq).1;omega)
    have hown5:=qx aG (EY.out k hlt) (by simp[hka,hkb];try omega)
    obtain⟨Kc,nR,rfl,-⟩:=aj aG
    clear aG hgrow hown hm x1 y1
    go_wp2
    go_roundw
    case rel=>exact⟨k+1,by omega,by go_num,hown5,aO⟩
    case measure=>simp[intOf];omega
   ·have hkb':b.length<=k:=by omega
    go_wp2_with (at_builtin;refine wpList_append_own _ rfl _ _ 29 rfl W.heap.size 3 i0 (.int .i64 0) 1 8 Tryz.underlying29 hi hz0 hz1 hz2 rfl (by decide) _ _ _ rfl (hown.alloc _) ⟨wr.heap.size,0,none⟩ 1 1 [_] rfl rfl (cell_one_new _ _ _) ?q2 ?q3 ?q4 ?q5 ?_)
    case q2=>first | rfl | (intro u hu;simp at hu;subst hu;rfl)
    case q3=>unfold maxLen;omega
    case q4=>omega
    case q5=>first | omega | (simp;omega)
    intro v4 w4 aG hgrow _
    have aO:Mod (fun _=>False) W w4:=(hm.alloc _).grown hgrow (fun q hq hlt=>by have:=(hown.lt q hq).1;omega)
    have hown5:=qx aG (EY.out k hlt) (by simp[hka,hkb'];try omega)
    obtain⟨Kc,nR,rfl,-⟩:=aj aG
    clear aG hgrow hown hm x1 y1
    go_wp2
    go_roundw
    case rel=>exact⟨k+1,by omega,by go_num,hown5,aO⟩
    case measure=>simp[intOf];omega
  ·have Yt:a.length<=k:=by omega
   by_cases hkb:k < b.length
   ·have hlt:k < max a.length b.length:=by omega
    obtain⟨gb,rfl,cb⟩:=fA (au UM hm (fun _ _ f=>f)) rfl hkb
    have hdb:=hb _ (List.getElem_mem hkb)
    go_wp2_with (at_builtin;refine wpList_append_own _ rfl _ _ 29 rfl W.heap.size 3 i0 (.int .i64 0) 1 8 Tryz.underlying29 hi hz0 hz1 hz2 rfl (by decide) _ _ _ rfl (hown.alloc _) ⟨wr.heap.size,0,none⟩ 1 1 [_] rfl rfl (cell_one_new _ _ _) ?r2 ?r3 ?r4 ?r5 ?_)
    case r2=>first | rfl | (intro u hu;simp at hu;subst hu;rfl)
    case r3=>unfold maxLen;omega
    case r4=>omega
    case r5=>first | omega | (simp;omega)
    intro v4 w4 aG hgrow _
    have aO:Mod (fun _=>False) W w4:=(hm.alloc _).grown hgrow (fun q hq hlt=>by have:=(hown.lt q hq).1;omega)
    have hown5:=qx aG (EY.out k hlt) (by simp[Yt,hkb];try omega)
    obtain⟨Kc,nR,rfl,-⟩:=aj aG
    clear aG hgrow hown hm x1 y1
    go_wp2
    go_roundw
    case rel=>exact⟨k+1,by omega,by go_num,hown5,aO⟩
    case measure=>simp[intOf];omega
   ·have hkN:k=max a.length b.length:=by omega
    have hown6:wr.ownsRow 0 3 1 (.slice oo k qj) (cu (1) a b).length (mo (cu (1) a b)):=by
     rw[hkN,List.take_of_length_le (by rw[LU.out];omega)]at hown
     rw[LU.out]
     rw[hkN]
     exact bI hown (Nat.zero_le _)
    have hx0:=(wh.keep hm (fun f=>f)).c0
    have hRw:=hR.keep hm (fun f=>f)
    have Iz:pV wr.drew (w.heap.size+1+1) false (.slice none 0 0):=hRw
    have hmw:=fK.trans hm
    have Qp:(cu (1) a b).length<=2000000000:=by rw[LU.out];omega
    have WB:Hid (wr.ownsRow 0 3 1 (.slice oo k qj) (cu (1) a b).length (mo (cu (1) a b))):=hown6
    have EX:Hid ((cu (1) a b).length<=2000000000):=Qp
    clear hown6 hown hkN Qp
    go_wp2_with fail
    go_region_held3 (fun w'=>w'.cell? ⟨w.heap.size,0,none⟩=some (.bool nx))
     (first | go_keep | (exact hkeep) | (rw[ay _ _ _ _ _ _ (by omega)];exact hkeep))
     (first
      | (go_at_call 186;refine (jT (.slice oo k qj) (cu (1) a b) wr.drew WB.out Wx.out H0.out EX.out).mono ?_;rintro e w3 ⟨aC,v3,os,rfl,hown3,hdig,hval,hlen3⟩;have hkeep:=aC.cell (a:=wr.drew) hx0)
      | (go_at_call 185;refine (jc nx v3 os w3 (bI hown3 (Nat.zero_le _)) hdig (by have:=LU.out;omega)).mono ?_;rintro e w4 ⟨aO,nb,v4,l4,rfl,iV,hx4,hl4⟩;have hkeep:=aO.cell (aC.cell (a:=wr.drew) hx0);have eB:=(Iz.keep aC (fun f=>f)).keep aO (fun f=>f);have r0:=eB.c0;have r1:=eB.c1;have f0:=eB.fz 0;have f1:=eB.fz 1;obtain⟨eG,aJ,rfl,-⟩:=aj iV.2))
    have kR:=eB.set nb (.slice eG l4.length aJ)
    have q0:=kR.c0
    have q1:=kR.c1
    have gy:=(hmw.drew.trans aC).trans aO
    have fT:Mod (fun _=>False) w ((w4.setCell ⟨w.heap.size+1+1,0,none⟩ (.bool nb)).setCell ⟨w.heap.size+1+1,1,none⟩ (.slice eG l4.length aJ)):=((gy.mono (q:=fun i=>i=w.heap.size+1+1) (fun _ _ f=>f.elim)).trans (dK _ _ _ _)).mono (fun i hi h=>by omega)
    have fP:Hid (NumEnd w (num nx a+num nx b) (max a.length b.length+4) (.returned (oz nb (.slice eG l4.length aJ))) ((w4.setCell ⟨w.heap.size+1+1,0,none⟩ (.bool nb)).setCell ⟨w.heap.size+1+1,1,none⟩ (.slice eG l4.length aJ))) :=
     iq (l:=l4) fT ⟨iV.1,dL iV.2 eB _ _⟩ (by rw[hx4];exact Fh.out os hval) (by have:=LU.out;omega)
    clear iV hown3 hval hx4 gy aC aO hmw
    go_wp2
    exact bodyPost_ret (by simp[results,Tryz.results151,go_sem,q0,q1]) rfl fP.out
theorem G5 (p q:Bool) (hpq:(p == q)=false) (u v:Value) (a b:List Nat) (w:World) (hU:Nm w p u a) (hV:Nm w q v b) (la:a.length<=1000000000) (lb:b.length<=1000000000) (hle:val b<=val a) :
  Calls Tryz.prog 151 #[oz p u,oz q v] w (NumEnd w (num p a+num q b) (max a.length b.length+4)):=by
 obtain⟨i0,hi,hz0,hz1,hz2⟩:=info_parts Tryz.info3
 have ha:=hU.1.1
 have hb:=hV.1.1
 have Xa:=hU.1.2.1
 have htb:=hV.1.2.1
 obtain⟨ao,aK,rfl,-⟩:=aj hU.2
 obtain⟨bo,cK,rfl,-⟩:=aj hV.2
 have Fh:Hid (∀ os,(val os:Int)=gQ (cu (-1) a b)->num p os=num p a+num q b):=fun os h=>by
  rw[lM]at h
  unfold num
  cases p<;>cases q<;>first | (exfalso;simp at hpq;done) | (simp<;>omega)
 have H0:Hid (0<=gQ (cu (-1) a b)):=show 0<=gQ (cu (-1) a b) by rw[lM];omega
 have EY:Hid (∀ k,k < max a.length b.length->(cu (-1) a b)[k]?=some ((a[k]?.getD 0:Nat)+(-1)*((b[k]?.getD 0:Nat):Int))):=nU (-1) a b
 have LU:Hid ((cu (-1) a b).length=max a.length b.length):=lK (-1) a b
 have Wx:Hid (∀ x∈cu (-1) a b,-200000000000000000<=x/\x<=200000000000000000):=fun x hx=>by
  obtain⟨j,hj,rfl⟩:=List.getElem_of_mem hx
  have h1:=nU (-1) a b j (by rw[lK]at hj;exact hj)
  rw[List.getElem?_eq_getElem hj]at h1
  injection h1 with h1
  have h2:=vU ha j
  have h3:=vU hb j
  omega
 have hU2:=hU.2
 have hV2:=hV.2
 clear hU hV
 have hX:=bO w p (.slice ao a.length aK)
 have hY:=bO (w.alloc (.cells #[.bool p,.slice ao a.length aK] 154)) q (.slice bo b.length cK)
 have hR:=bO ((w.alloc (.cells #[.bool p,.slice ao a.length aK] 154)).alloc (.cells #[.bool q,.slice bo b.length cK] 154)) false (.slice none 0 0)
 have m1:Mod (fun _=>False) w (w.alloc (.cells #[.bool p,.slice ao a.length aK] 154)):=(Mod.refl _ w).alloc _
 have m2:Mod (fun _=>False) (w.alloc (.cells #[.bool p,.slice ao a.length aK] 154)) ((w.alloc (.cells #[.bool p,.slice ao a.length aK] 154)).alloc (.cells #[.bool q,.slice bo b.length cK] 154)):=(Mod.refl _ _).alloc _
 have m3:Mod (fun _=>False) ((w.alloc (.cells #[.bool p,.slice ao a.length aK] 154)).alloc (.cells #[.bool q,.slice bo b.length cK] 154)) (((w.alloc (.cells #[.bool p,.slice ao a.length aK] 154)).alloc (.cells #[.bool q,.slice bo b.length cK] 154)).alloc (.cells #[.bool false,.slice none 0 0] 154)):=(Mod.refl _ _).alloc _
 have wh:=(hX.keep m2 (fun f=>f)).keep m3 (fun f=>f)
 have zo:=hY.keep m3 (fun f=>f)
 have fK:=m1.trans (m2.trans m3)
 have Yl:=au hU2 fK (fun _ _ f=>f)
 have UM:=au hV2 fK (fun _ _ f=>f)
 simp only[World.size_alloc]at zo hR
 clear hX hY m1 m2 m3 hU2 hV2
 go_in
 go_wp2_with fail
 refine (yu _ _ a b _ Yl UM ha hb Xa htb (by omega) (by omega)).mono ?_
 rintro e W ⟨rfl,hm2⟩
 have uW:=wh.keep hm2 (fun f=>f)
 have MJ:=zo.keep hm2 (fun f=>f)
 have aaD:=hR.keep hm2 (fun f=>f)
 have Ck:=fK.trans hm2
 have aaE:=au Yl hm2 (fun _ _ f=>f)
 have aaF:=au UM hm2 (fun _ _ f=>f)
 clear wh zo hR fK Yl UM hm2
 have wh:=uW
 have zo:=MJ
 have hR:=aaD
 have fK:=Ck
 have Yl:=aaE
 have UM:=aaF
 clear uW MJ aaD Ck aaE aaF
 have MU:decide (jF ((val a:Int) - (val b:Int)) < 0)=false:=by
  unfold jF;rw[if_neg (by omega)];split<;>simp
 have x0':=wh.c0
 have y0':=zo.c0
 go_wp2_with fail
 clear MU x0' y0'
 have hWz:=fK.size
 have hRl:=hR.lt
 go_loopw [6,7] (fun dv i wr=>∃ k:Nat,k<=max a.length b.length/\i=.int .i64 k/\wr.ownsRow W.heap.size 3 1 dv k (mo ((cu (-1) a b).take k))/\Mod (fun _=>False) W wr) (fun _ i _=>max a.length b.length - (intOf i).toNat)
 case atStart=>exact⟨0,by omega,rfl,by simpa [mo] using World.ownsRow_nil _ _ _ _,Mod.refl _ _⟩
 case round =>
  obtain⟨k,hk,rfl,hown,hm⟩:=hrel
  have hsz:=hm.size
  obtain⟨oo,qj,rfl,-⟩:=aj hown
  have x1:=(wh.keep hm (fun f=>f)).c1
  have y1:=(zo.keep hm (fun f=>f)).c1
  by_cases hka:k < a.length
  ·have hlt:k < max a.length b.length:=by omega
   obtain⟨ga,rfl,ca⟩:=fA (au Yl hm (fun _ _ f=>f)) rfl hka
   have hda:=ha _ (List.getElem_mem hka)
   by_cases hkb:k < b.length
   ·obtain⟨gb,rfl,cb⟩:=fA (au UM hm (fun _ _ f=>f)) rfl hkb
    have hdb:=hb _ (List.getElem_mem hkb)
    go_wp2_with (at_builtin;refine wpList_append_own _ rfl _ _ 29 rfl W.heap.size 3 i0 (.int .i64 0) 1 8 Tryz.underlying29 hi hz0 hz1 hz2 rfl (by decide) _ _ _ rfl (hown.alloc _) ⟨wr.heap.size,0,none⟩ 1 1 [_] rfl rfl (cell_one_new _ _ _) ?p2 ?p3 ?p4 ?p5 ?_)
    case p2=>first | rfl | (intro u hu;simp at hu;subst hu;rfl)
    case p3=>unfold maxLen;omega
    case p4=>omega
    case p5=>first | omega | (simp;omega)
    intro v4 w4 aG hgrow _
    have aO:Mod (fun _=>False) W w4:=(hm.alloc _).grown hgrow (fun q hq hlt=>by have:=(hown.lt q hq).1;omega)
    have hown5:=qx aG (EY.out k hlt) (by simp[hka,hkb];try omega)
    obtain⟨Kc,nR,rfl,-⟩:=aj aG
    clear aG hgrow hown hm x1 y1
    go_wp2
    go_roundw
    case rel=>exact⟨k+1,by omega,by go_num,hown5,aO⟩
    case measure=>simp[intOf];omega
   ·have hkb':b.length<=k:=by omega
    go_wp2_with (at_builtin;refine wpList_append_own _ rfl _ _ 29 rfl W.heap.size 3 i0 (.int .i64 0) 1 8 Tryz.underlying29 hi hz0 hz1 hz2 rfl (by decide) _ _ _ rfl (hown.alloc _) ⟨wr.heap.size,0,none⟩ 1 1 [_] rfl rfl (cell_one_new _ _ _) ?q2 ?q3 ?q4 ?q5 ?_)
    case q2=>first | rfl | (intro u hu;simp at hu;subst hu;rfl)
    case q3=>unfold maxLen;omega
    case q4=>omega
    case q5=>first | omega | (simp;omega)
    intro v4 w4 aG hgrow _
    have aO:Mod (fun _=>False) W w4:=(hm.alloc _).grown hgrow (fun q hq hlt=>by have:=(hown.lt q hq).1;omega)
    have hown5:=qx aG (EY.out k hlt) (by simp[hka,hkb'];try omega)
    obtain⟨Kc,nR,rfl,-⟩:=aj aG
    clear aG hgrow hown hm x1 y1
    go_wp2
    go_roundw
    case rel=>exact⟨k+1,by omega,by go_num,hown5,aO⟩
    case measure=>simp[intOf];omega
  ·have Yt:a.length<=k:=by omega
   by_cases hkb:k < b.length
   ·have hlt:k < max a.length b.length:=by omega
    obtain⟨gb,rfl,cb⟩:=fA (au UM hm (fun _ _ f=>f)) rfl hkb
    have hdb:=hb _ (List.getElem_mem hkb)
    go_wp2_with (at_builtin;refine wpList_append_own _ rfl _ _ 29 rfl W.heap.size 3 i0 (.int .i64 0) 1 8 Tryz.underlying29 hi hz0 hz1 hz2 rfl (by decide) _ _ _ rfl (hown.alloc _) ⟨wr.heap.size,0,none⟩ 1 1 [_] rfl rfl (cell_one_new _ _ _) ?r2 ?r3 ?r4 ?r5 ?_)
    case r2=>first | rfl | (intro u hu;simp at hu;subst hu;rfl)
    case r3=>unfold maxLen;omega
    case r4=>omega
    case r5=>first | omega | (simp;omega)
    intro v4 w4 aG hgrow _
    have aO:Mod (fun _=>False) W w4:=(hm.alloc _).grown hgrow (fun q hq hlt=>by have:=(hown.lt q hq).1;omega)
    have hown5:=qx aG (EY.out k hlt) (by simp[Yt,hkb];try omega)
    obtain⟨Kc,nR,rfl,-⟩:=aj aG
    clear aG hgrow hown hm x1 y1
    go_wp2
    go_roundw
    case rel=>exact⟨k+1,by omega,by go_num,hown5,aO⟩
    case measure=>simp[intOf];omega
   ·have hkN:k=max a.length b.length:=by omega
    have hown6:wr.ownsRow 0 3 1 (.slice oo k qj) (cu (-1) a b).length (mo (cu (-1) a b)):=by
     rw[hkN,List.take_of_length_le (by rw[LU.out];omega)]at hown
     rw[LU.out]
     rw[hkN]
     exact bI hown (Nat.zero_le _)
    have hx0:=(wh.keep hm (fun f=>f)).c0
    have hRw:=hR.keep hm (fun f=>f)
    have Iz:pV wr.drew (w.heap.size+1+1) false (.slice none 0 0):=hRw
    have hmw:=fK.trans hm
    have Qp:(cu (-1) a b).length<=2000000000:=by rw[LU.out];omega
    have WB:Hid (wr.ownsRow 0 3 1 (.slice oo k qj) (cu (-1) a b).length (mo (cu (-1) a b))):=hown6
    have EX:Hid ((cu (-1) a b).length<=2000000000):=Qp
    clear hown6 hown hkN Qp
    go_wp2_with fail
    go_region_held3 (fun w'=>w'.cell? ⟨w.heap.size,0,none⟩=some (.bool p))
     (first | go_keep | (exact hkeep) | (rw[ay _ _ _ _ _ _ (by omega)];exact hkeep))
     (first
      | (go_at_call 186;refine (jT (.slice oo k qj) (cu (-1) a b) wr.drew WB.out Wx.out H0.out EX.out).mono ?_;rintro e w3 ⟨aC,v3,os,rfl,hown3,hdig,hval,hlen3⟩;have hkeep:=aC.cell (a:=wr.drew) hx0)
      | (go_at_call 185;refine (jc p v3 os w3 (bI hown3 (Nat.zero_le _)) hdig (by have:=LU.out;omega)).mono ?_;rintro e w4 ⟨aO,nb,v4,l4,rfl,iV,hx4,hl4⟩;have hkeep:=aO.cell (aC.cell (a:=wr.drew) hx0);have eB:=(Iz.keep aC (fun f=>f)).keep aO (fun f=>f);have r0:=eB.c0;have r1:=eB.c1;have f0:=eB.fz 0;have f1:=eB.fz 1;obtain⟨eG,aJ,rfl,-⟩:=aj iV.2))
    have kR:=eB.set nb (.slice eG l4.length aJ)
    have q0:=kR.c0
    have q1:=kR.c1
    have gy:=(hmw.drew.trans aC).trans aO
    have fT:Mod (fun _=>False) w ((w4.setCell ⟨w.heap.size+1+1,0,none⟩ (.bool nb)).setCell ⟨w.heap.size+1+1,1,none⟩ (.slice eG l4.length aJ)):=((gy.mono (q:=fun i=>i=w.heap.size+1+1) (fun _ _ f=>f.elim)).trans (dK _ _ _ _)).mono (fun i hi h=>by omega)
    have fP:Hid (NumEnd w (num p a+num q b) (max a.length b.length+4) (.returned (oz nb (.slice eG l4.length aJ))) ((w4.setCell ⟨w.heap.size+1+1,0,none⟩ (.bool nb)).setCell ⟨w.heap.size+1+1,1,none⟩ (.slice eG l4.length aJ))) :=
     iq (l:=l4) fT ⟨iV.1,dL iV.2 eB _ _⟩ (by rw[hx4];exact Fh.out os hval) (by have:=LU.out;omega)
    clear iV hown3 hval hx4 gy aC aO hmw
    go_wp2
    exact bodyPost_ret (by simp[results,Tryz.results151,go_sem,q0,q1]) rfl fP.out
theorem Lh (u v:Value) (a b:List Nat) (w:World) (hU:Nm w true u a) (hV:Nm w false v b) (la:a.length<=1000000000) (lb:b.length<=1000000000) (hle:val b<=val a):Calls Tryz.prog 151 #[oz true u,oz false v] w (NumEnd w (num true a+num false b) (max a.length b.length+4)):=G5 true false rfl u v a b w hU hV la lb hle
theorem Lg (u v:Value) (a b:List Nat) (w:World) (hU:Nm w false u a) (hV:Nm w true v b) (la:a.length<=1000000000) (lb:b.length<=1000000000) (hle:val b<=val a):Calls Tryz.prog 151 #[oz false u,oz true v] w (NumEnd w (num false a+num true b) (max a.length b.length+4)):=G5 false true rfl u v a b w hU hV la lb hle
theorem V6 (u v:Value) (a b:List Nat) (w:World) (hU:Nm w true u a) (hV:Nm w false v b) (la:a.length<=1000000000) (lb:b.length<=1000000000) (hlt:val a < val b) :
  Calls Tryz.prog 151 #[oz true u,oz false v] w (NumEnd w (num true a+num false b) (max a.length b.length+4)):=by
 have ha:=hU.1.1
 have hb:=hV.1.1
 have Xa:=hU.1.2.1
 have htb:=hV.1.2.1
 obtain⟨ao,aK,rfl,-⟩:=aj hU.2
 obtain⟨bo,cK,rfl,-⟩:=aj hV.2
 have hX:=bO w true (.slice ao a.length aK)
 have hY:=bO (w.alloc (.cells #[.bool true,.slice ao a.length aK] 154)) false (.slice bo b.length cK)
 have hR:=bO ((w.alloc (.cells #[.bool true,.slice ao a.length aK] 154)).alloc (.cells #[.bool false,.slice bo b.length cK] 154)) false (.slice none 0 0)
 have m1:Mod (fun _=>False) w (w.alloc (.cells #[.bool true,.slice ao a.length aK] 154)):=(Mod.refl _ w).alloc _
 have m2:Mod (fun _=>False) (w.alloc (.cells #[.bool true,.slice ao a.length aK] 154)) ((w.alloc (.cells #[.bool true,.slice ao a.length aK] 154)).alloc (.cells #[.bool false,.slice bo b.length cK] 154)):=(Mod.refl _ _).alloc _
 have m3:Mod (fun _=>False) ((w.alloc (.cells #[.bool true,.slice ao a.length aK] 154)).alloc (.cells #[.bool false,.slice bo b.length cK] 154)) (((w.alloc (.cells #[.bool true,.slice ao a.length aK] 154)).alloc (.cells #[.bool false,.slice bo b.length cK] 154)).alloc (.cells #[.bool false,.slice none 0 0] 154)):=(Mod.refl _ _).alloc _
 have wh:=(hX.keep m2 (fun f=>f)).keep m3 (fun f=>f)
 have zo:=hY.keep m3 (fun f=>f)
 have fK:=m1.trans (m2.trans m3)
 have Ci:=hU.mod fK
 have CW:=hV.mod fK
 simp only[World.size_alloc]at zo hR
 clear hX hY m1 m2 m3 hU hV
 go_in
 go_wp2_with fail
 refine (yu _ _ a b _ Ci.2 CW.2 ha hb Xa htb (by omega) (by omega)).mono ?_
 rintro e W ⟨rfl,hm2⟩
 have MU:decide (jF ((val a:Int) - (val b:Int)) < 0)=true:=by
  unfold jF;rw[if_pos (by omega)];rfl
 have uW:=wh.keep hm2 (fun f=>f)
 have MJ:=zo.keep hm2 (fun f=>f)
 have eB:=hR.keep hm2 (fun f=>f)
 have Ck:=fK.trans hm2
 have hU4:=Ci.mod hm2
 have hV4:=CW.mod hm2
 clear wh zo hR fK Ci CW hm2
 have x0:=uW.c0
 have x1:=uW.c1
 have y0:=MJ.c0
 have y1:=MJ.c1
 go_wp2_with fail
 refine (Lg _ _ b a _ hV4 hU4 lb la (by omega)).mono ?_
 rintro e w3 ⟨aC,nb,v4,l4,rfl,iV,hx4,hl4⟩
 have kR:=eB.keep aC (fun f=>f)
 obtain⟨eG,aJ,rfl,-⟩:=aj iV.2
 have r0:=kR.c0
 have r1:=kR.c1
 have f0:=kR.fz 0
 have f1:=kR.fz 1
 have UK:=kR.set nb (.slice eG l4.length aJ)
 have q0:=UK.c0
 have q1:=UK.c1
 have gy:=Ck.trans aC
 have fT:Mod (fun _=>False) w ((w3.setCell ⟨w.heap.size+1+1,0,none⟩ (.bool nb)).setCell ⟨w.heap.size+1+1,1,none⟩ (.slice eG l4.length aJ)):=((gy.mono (q:=fun i=>i=w.heap.size+1+1) (fun _ _ f=>f.elim)).trans (dK _ _ _ _)).mono (fun i hi h=>by omega)
 have fP:Hid (NumEnd w (num true a+num false b) (max a.length b.length+4) (.returned (oz nb (.slice eG l4.length aJ))) ((w3.setCell ⟨w.heap.size+1+1,0,none⟩ (.bool nb)).setCell ⟨w.heap.size+1+1,1,none⟩ (.slice eG l4.length aJ))) :=
  iq (l:=l4) fT ⟨iV.1,dL iV.2 kR _ _⟩ (by rw[hx4,Int.add_comm]) (by omega)
 clear iV hx4 gy aC MU x0 x1 y0 y1
 go_wp2
 exact bodyPost_ret (by simp[results,Tryz.results151,go_sem,q0,q1]) rfl fP.out
theorem V5 (u v:Value) (a b:List Nat) (w:World) (hU:Nm w false u a) (hV:Nm w true v b) (la:a.length<=1000000000) (lb:b.length<=1000000000) (hlt:val a < val b) :
  Calls Tryz.prog 151 #[oz false u,oz true v] w (NumEnd w (num false a+num true b) (max a.length b.length+4)):=by
 have ha:=hU.1.1
 have hb:=hV.1.1
 have Xa:=hU.1.2.1
 have htb:=hV.1.2.1
 obtain⟨ao,aK,rfl,-⟩:=aj hU.2
 obtain⟨bo,cK,rfl,-⟩:=aj hV.2
 have hX:=bO w false (.slice ao a.length aK)
 have hY:=bO (w.alloc (.cells #[.bool false,.slice ao a.length aK] 154)) true (.slice bo b.length cK)
 have hR:=bO ((w.alloc (.cells #[.bool false,.slice ao a.length aK] 154)).alloc (.cells #[.bool true,.slice bo b.length cK] 154)) false (.slice none 0 0)
 have m1:Mod (fun _=>False) w (w.alloc (.cells #[.bool false,.slice ao a.length aK] 154)):=(Mod.refl _ w).alloc _
 have m2:Mod (fun _=>False) (w.alloc (.cells #[.bool false,.slice ao a.length aK] 154)) ((w.alloc (.cells #[.bool false,.slice ao a.length aK] 154)).alloc (.cells #[.bool true,.slice bo b.length cK] 154)):=(Mod.refl _ _).alloc _
 have m3:Mod (fun _=>False) ((w.alloc (.cells #[.bool false,.slice ao a.length aK] 154)).alloc (.cells #[.bool true,.slice bo b.length cK] 154)) (((w.alloc (.cells #[.bool false,.slice ao a.length aK] 154)).alloc (.cells #[.bool true,.slice bo b.length cK] 154)).alloc (.cells #[.bool false,.slice none 0 0] 154)):=(Mod.refl _ _).alloc _
 have wh:=(hX.keep m2 (fun f=>f)).keep m3 (fun f=>f)
 have zo:=hY.keep m3 (fun f=>f)
 have fK:=m1.trans (m2.trans m3)
 have Ci:=hU.mod fK
 have CW:=hV.mod fK
 simp only[World.size_alloc]at zo hR
 clear hX hY m1 m2 m3 hU hV
 go_in
 go_wp2_with fail
 refine (yu _ _ a b _ Ci.2 CW.2 ha hb Xa htb (by omega) (by omega)).mono ?_
 rintro e W ⟨rfl,hm2⟩
 have MU:decide (jF ((val a:Int) - (val b:Int)) < 0)=true:=by
  unfold jF;rw[if_pos (by omega)];rfl
 have uW:=wh.keep hm2 (fun f=>f)
 have MJ:=zo.keep hm2 (fun f=>f)
 have eB:=hR.keep hm2 (fun f=>f)
 have Ck:=fK.trans hm2
 have hU4:=Ci.mod hm2
 have hV4:=CW.mod hm2
 clear wh zo hR fK Ci CW hm2
 have x0:=uW.c0
 have x1:=uW.c1
 have y0:=MJ.c0
 have y1:=MJ.c1
 go_wp2_with fail
 refine (Lh _ _ b a _ hV4 hU4 lb la (by omega)).mono ?_
 rintro e w3 ⟨aC,nb,v4,l4,rfl,iV,hx4,hl4⟩
 have kR:=eB.keep aC (fun f=>f)
 obtain⟨eG,aJ,rfl,-⟩:=aj iV.2
 have r0:=kR.c0
 have r1:=kR.c1
 have f0:=kR.fz 0
 have f1:=kR.fz 1
 have UK:=kR.set nb (.slice eG l4.length aJ)
 have q0:=UK.c0
 have q1:=UK.c1
 have gy:=Ck.trans aC
 have fT:Mod (fun _=>False) w ((w3.setCell ⟨w.heap.size+1+1,0,none⟩ (.bool nb)).setCell ⟨w.heap.size+1+1,1,none⟩ (.slice eG l4.length aJ)):=((gy.mono (q:=fun i=>i=w.heap.size+1+1) (fun _ _ f=>f.elim)).trans (dK _ _ _ _)).mono (fun i hi h=>by omega)
 have fP:Hid (NumEnd w (num false a+num true b) (max a.length b.length+4) (.returned (oz nb (.slice eG l4.length aJ))) ((w3.setCell ⟨w.heap.size+1+1,0,none⟩ (.bool nb)).setCell ⟨w.heap.size+1+1,1,none⟩ (.slice eG l4.length aJ))) :=
  iq (l:=l4) fT ⟨iV.1,dL iV.2 kR _ _⟩ (by rw[hx4,Int.add_comm]) (by omega)
 clear iV hx4 gy aC MU x0 x1 y0 y1
 go_wp2
 exact bodyPost_ret (by simp[results,Tryz.results151,go_sem,q0,q1]) rfl fP.out
theorem A9 (nx ny:Bool) (u v:Value) (a b:List Nat) (w:World) (hU:Nm w nx u a) (hV:Nm w ny v b) (la:a.length<=1000000000) (lb:b.length<=1000000000) :
  Calls Tryz.prog 151 #[oz nx u,oz ny v] w (NumEnd w (num nx a+num ny b) (max a.length b.length+4)):=by
 cases nx<;>cases ny
 ·exact Di false u v a b w hU hV la lb
 ·by_cases h:val b<=val a
  ·exact Lg u v a b w hU hV la lb h
  ·exact V5 u v a b w hU hV la lb (by omega)
 ·by_cases h:val b<=val a
  ·exact Lh u v a b w hU hV la lb h
  ·exact V6 u v a b w hU hV la lb (by omega)
 ·exact Di true u v a b w hU hV la lb
theorem Dc (nx ny:Bool) (u v:Value) (a b:List Nat) (w:World) (hU:Nm w nx u a) (hV:Nm w ny v b) (la:a.length<=1000000000) (lb:b.length<=1000000000) :
  Calls Tryz.prog 152 #[oz nx u,oz ny v] w (NumEnd w (num nx a - num ny b) (max a.length b.length+4)):=by
 obtain⟨ao,aK,rfl,-⟩:=aj hU.2
 obtain⟨bo,cK,rfl,-⟩:=aj hV.2
 have hX:=bO w nx (.slice ao a.length aK)
 have hY:=bO (w.alloc (.cells #[.bool nx,.slice ao a.length aK] 154)) ny (.slice bo b.length cK)
 have hR:=bO ((w.alloc (.cells #[.bool nx,.slice ao a.length aK] 154)).alloc (.cells #[.bool ny,.slice bo b.length cK] 154)) false (.slice none 0 0)
 have m1:Mod (fun _=>False) w (w.alloc (.cells #[.bool nx,.slice ao a.length aK] 154)):=(Mod.refl _ w).alloc _
 have m2:Mod (fun _=>False) (w.alloc (.cells #[.bool nx,.slice ao a.length aK] 154)) ((w.alloc (.cells #[.bool nx,.slice ao a.length aK] 154)).alloc (.cells #[.bool ny,.slice bo b.length cK] 154)):=(Mod.refl _ _).alloc _
 have m3:Mod (fun _=>False) ((w.alloc (.cells #[.bool nx,.slice ao a.length aK] 154)).alloc (.cells #[.bool ny,.slice bo b.length cK] 154)) (((w.alloc (.cells #[.bool nx,.slice ao a.length aK] 154)).alloc (.cells #[.bool ny,.slice bo b.length cK] 154)).alloc (.cells #[.bool false,.slice none 0 0] 154)):=(Mod.refl _ _).alloc _
 have wh:=(hX.keep m2 (fun f=>f)).keep m3 (fun f=>f)
 have zo:=hY.keep m3 (fun f=>f)
 have fK:=m1.trans (m2.trans m3)
 have Ci:=hU.mod fK
 have CW:=hV.mod fK
 simp only[World.size_alloc]at zo hR
 clear hX hY m1 m2 m3 hU hV
 go_in
 go_wp2_with fail
 generalize ((w.alloc (.cells #[.bool nx,.slice ao a.length aK] 154)).alloc (.cells #[.bool ny,.slice bo b.length cK] 154)).alloc (.cells #[.bool false,.slice none 0 0] 154)=W at *
 have x0:=wh.c0
 have x1:=wh.c1
 have y0:=zo.c0
 have y1:=zo.c1
 have Iz:pV W.drew (w.heap.size+1+1) false (.slice none 0 0):=hR
 have Ag:Mod (fun _=>False) W W.drew:=(Mod.refl _ W).drew
 have hUd:=Ci.mod Ag
 have hVd:=CW.mod Ag
 have HC:Hid (Canon (sj ny b) b/\num (sj ny b) b=-num ny b):=Ar CW.1
 have HU:Hid (Nm W.drew nx (.slice ao a.length aK) a):=hUd
 have HV:Hid (Nm W.drew ny (.slice bo b.length cK) b):=hVd
 clear Ci CW hUd hVd
 go_region_held3 (fun w'=>w'.cell? ⟨w.heap.size,0,none⟩=some (.bool nx)/\w'.cell? ⟨w.heap.size,1,none⟩=some (.slice ao a.length aK)/\w'.cell? ⟨w.heap.size+1,0,none⟩=some (.bool ny)/\w'.cell? ⟨w.heap.size+1,1,none⟩=some (.slice bo b.length cK))
  (first | go_keep | (exact hkeep) | (exact dG))
  (first
   | (go_at_call 168;refine (Gq ny (.slice bo b.length cK) b W.drew HV.out (by omega)).mono ?_;rintro e w3 ⟨rfl,aC⟩;have hkeep:=zI (aC.cell (a:=W.drew) x0) (zI (aC.cell (a:=W.drew) x1) (zI (aC.cell (a:=W.drew) y0) (aC.cell (a:=W.drew) y1))))
   | (go_at_call 151;refine (A9 nx (sj ny b) (.slice ao a.length aK) (.slice bo b.length cK) a b w3 (HU.out.mod aC) ⟨HC.out.1,(HV.out.mod aC).2⟩ la lb).mono ?_;rintro e w4 ⟨aO,nb,v4,l4,rfl,iV,hx4,hl4⟩;have hkeep:=zI (aO.cell (aC.cell (a:=W.drew) x0)) (zI (aO.cell (aC.cell (a:=W.drew) x1)) (zI (aO.cell (aC.cell (a:=W.drew) y0)) (aO.cell (aC.cell (a:=W.drew) y1))));have eB:=(Iz.keep aC (fun f=>f)).keep aO (fun f=>f);have r0:=eB.c0;have r1:=eB.c1;have f0:=eB.fz 0;have f1:=eB.fz 1;obtain⟨eG,aJ,rfl,-⟩:=aj iV.2;have dG:=zI ((ay (w.heap.size+1+1) w4 (.bool nb) (.slice eG l4.length aJ) w.heap.size 0 (by omega)).trans hkeep.1) (zI ((ay (w.heap.size+1+1) w4 (.bool nb) (.slice eG l4.length aJ) w.heap.size 1 (by omega)).trans hkeep.2.1) (zI ((ay (w.heap.size+1+1) w4 (.bool nb) (.slice eG l4.length aJ) (w.heap.size+1) 0 (by omega)).trans hkeep.2.2.1) ((ay (w.heap.size+1+1) w4 (.bool nb) (.slice eG l4.length aJ) (w.heap.size+1) 1 (by omega)).trans hkeep.2.2.2)))))
 have kR:=eB.set nb (.slice eG l4.length aJ)
 have q0:=kR.c0
 have q1:=kR.c1
 have gy:=(fK.drew.trans aC).trans aO
 have fT:Mod (fun _=>False) w ((w4.setCell ⟨w.heap.size+1+1,0,none⟩ (.bool nb)).setCell ⟨w.heap.size+1+1,1,none⟩ (.slice eG l4.length aJ)):=((gy.mono (q:=fun i=>i=w.heap.size+1+1) (fun _ _ f=>f.elim)).trans (dK _ _ _ _)).mono (fun i hi h=>by omega)
 have fP:Hid (NumEnd w (num nx a - num ny b) (max a.length b.length+4) (.returned (oz nb (.slice eG l4.length aJ))) ((w4.setCell ⟨w.heap.size+1+1,0,none⟩ (.bool nb)).setCell ⟨w.heap.size+1+1,1,none⟩ (.slice eG l4.length aJ))) :=
  iq (l:=l4) fT ⟨iV.1,dL iV.2 eB _ _⟩ (by rw[hx4,HC.out.2];omega) (by omega)
 clear iV hx4 gy aC aO
 go_wp2
 exact bodyPost_ret (by simp[results,Tryz.results152,go_sem,q0,q1]) rfl fP.out
theorem Wu (d:List Int) (k:Nat) (x:Int):(mo d).set k (.int .i64 x)=mo (d.set k x):=by simp[mo,List.map_set]
theorem Nh (n:Nat):(madeCells #[Value.int .i64 0] (n*1)).toList=mo (List.replicate n 0):=by rw[toList_madeCells_one];simp[mo]
theorem Dr (nx ny:Bool) (u v:Value) (a b:List Nat) (w:World) (hU:Nm w nx u a) (hV:Nm w ny v b) (la:a.length<=1000000000) (lb:b.length<=1000000000) :
  Calls Tryz.prog 153 #[oz nx u,oz ny v] w (NumEnd w (num nx a*num ny b) (a.length+b.length+4)):=by
 obtain⟨i0,hi,hz0,hz1,hz2⟩:=info_parts Tryz.info3
 have ha:=hU.1.1
 have hb:=hV.1.1
 obtain⟨ao,aK,rfl,-⟩:=aj hU.2
 obtain⟨bo,cK,rfl,-⟩:=aj hV.2
 have hX:=bO w nx (.slice ao a.length aK)
 have hY:=bO (w.alloc (.cells #[.bool nx,.slice ao a.length aK] 154)) ny (.slice bo b.length cK)
 have hR:=bO ((w.alloc (.cells #[.bool nx,.slice ao a.length aK] 154)).alloc (.cells #[.bool ny,.slice bo b.length cK] 154)) false (.slice none 0 0)
 have m1:Mod (fun _=>False) w (w.alloc (.cells #[.bool nx,.slice ao a.length aK] 154)):=(Mod.refl _ w).alloc _
 have m2:Mod (fun _=>False) (w.alloc (.cells #[.bool nx,.slice ao a.length aK] 154)) ((w.alloc (.cells #[.bool nx,.slice ao a.length aK] 154)).alloc (.cells #[.bool ny,.slice bo b.length cK] 154)):=(Mod.refl _ _).alloc _
 have m3:Mod (fun _=>False) ((w.alloc (.cells #[.bool nx,.slice ao a.length aK] 154)).alloc (.cells #[.bool ny,.slice bo b.length cK] 154)) (((w.alloc (.cells #[.bool nx,.slice ao a.length aK] 154)).alloc (.cells #[.bool ny,.slice bo b.length cK] 154)).alloc (.cells #[.bool false,.slice none 0 0] 154)):=(Mod.refl _ _).alloc _
 have wh:=(hX.keep m2 (fun f=>f)).keep m3 (fun f=>f)
 have zo:=hY.keep m3 (fun f=>f)
 have fK:=m1.trans (m2.trans m3)
 have pE:=hU.2
 have Ca:=hV.2
 simp only[World.size_alloc]at zo hR
 clear hX hY m1 m2 m3 hU hV
 go_in
 go_wp2_with (at_make;refine wpList_make_full _ rfl _ _ 29 rfl (w.heap.size+1+1+1) 3 i0 (.int .i64 0) 1 Tryz.underlying29 hi hz0 hz1 _ _ _ _ (a.length+b.length) rfl rfl (by omega) (by omega) (by rw[hz2];omega) (by unfold maxLen;omega) (by simp) ?_)
 intro W hown0 gK
 have hm0:=(Mod.refl (fun _=>False) (((w.alloc (.cells #[.bool nx,.slice ao a.length aK] 154)).alloc (.cells #[.bool ny,.slice bo b.length cK] 154)).alloc (.cells #[.bool false,.slice none 0 0] 154))).grown gK (fun k hk _=>by cases hk)
 have uW:=wh.keep hm0 (fun f=>f)
 have MJ:=zo.keep hm0 (fun f=>f)
 have eB:=hR.keep hm0 (fun f=>f)
 have Ck:=fK.trans hm0
 have hown1:W.ownsRow (w.heap.size+1+1+1) 3 1 (.slice (some ⟨w.heap.size+1+1+1,0,none⟩) (a.length+b.length) (a.length+b.length)) (a.length+b.length) (mo (List.replicate (a.length+b.length) 0)):=by
  rw[<- Nh];simpa using hown0
 clear wh zo hR fK hm0 gK hown0
 go_wp2_with fail
 go_loopw [6,7] (fun iv _ wr=>∃ (i:Nat) (d:List Int),i<=a.length/\iv=.int .i64 i/\wr.ownsRow (w.heap.size+1+1+1) 3 1 (.slice (some ⟨w.heap.size+1+1+1,0,none⟩) (a.length+b.length) (a.length+b.length)) (a.length+b.length) (mo d)/\Hid (MInv a b d i 0)/\Mod (fun q=>w.heap.size+1+1+1<=q) W wr) (fun iv _ _=>a.length - (intOf iv).toNat)
 case atStart=>exact⟨0,_,by omega,rfl,hown1,MInv.start a b,Mod.refl _ _⟩
 case round =>
  clear hown1
  obtain⟨i,d,hil,rfl,hown,HM,hm⟩:=hrel
  have x1:=(uW.keep hm (by omega)).c1
  have y1:=(MJ.keep hm (by omega)).c1
  by_cases hia:i < a.length
  ·go_wp2_with fail
   go_loopw [7] (fun jv wr=>∃ (j:Nat) (d:List Int),j<=b.length/\jv=.int .i64 j/\wr.ownsRow (w.heap.size+1+1+1) 3 1 (.slice (some ⟨w.heap.size+1+1+1,0,none⟩) (a.length+b.length) (a.length+b.length)) (a.length+b.length) (mo d)/\Hid (MInv a b d i j)/\Mod (fun q=>w.heap.size+1+1+1<=q) W wr) (fun jv _=>b.length - (intOf jv).toNat)
   case atStart=>exact⟨0,d,by omega,rfl,hown,HM,hm⟩
   case round =>
    clear x1 y1 hown HM hm
    obtain⟨j,d,hjl,rfl,hown,HM,hm⟩:=hrel
    have x1:=(uW.keep hm (by omega)).c1
    have y1:=(MJ.keep hm (by omega)).c1
    by_cases hjb:j < b.length
    ·have rC:Hid (d.length=a.length+b.length):=HM.out.1
     have hk:i+j < d.length:=by have:=rC.out;omega
     obtain⟨gd,hgd,cd⟩:=qF hown rC.out.symm hk
     injection hgd with hgd
     injection hgd with hgd
     subst hgd
     have hmw:Mod (fun _=>False) w wr:=((Ck.mono (q:=fun q=>w.heap.size+1+1+1<=q) (fun _ _ f=>f.elim)).trans hm).mono (fun q hq h=>by omega)
     have fd:=hown.frozenAt (i+j)
     have hdb:=HM.out.2.2.1 (i+j) hk
     have hd0:=hdb.1
     have hd1:=hdb.2
     clear hdb
     obtain⟨ga,rfl,ca⟩:=fA (au pE hmw (fun _ _ f=>f)) rfl hia
     obtain⟨gb,rfl,cb⟩:=fA (au Ca hmw (fun _ _ f=>f)) rfl hjb
     have hda:=ha _ (List.getElem_mem hia)
     have hdb:=hb _ (List.getElem_mem hjb)
     have hp0:0<=(a[i]:Int)*(b[j]:Int):=Int.mul_nonneg (by omega) (by omega)
     have hp1:(a[i]:Int)*(b[j]:Int)<=100000000:=by
      have:a[i]*b[j]<=9999*9999:=Nat.mul_le_mul (by omega) (by omega)
      have e:((a[i]*b[j]:Nat):Int)=(a[i]:Int)*(b[j]:Int):=by simp
      omega
     have i1:(0:Int)<=(i:Int)+(j:Int):=by omega
     have i2:(i:Int)+(j:Int) < ((a.length+b.length:Nat):Int):=by omega
     have i3:(0:Int)<=(i:Int):=by omega
     have i4:(i:Int) < (a.length:Int):=by omega
     have i5:(0:Int)<=(j:Int):=by omega
     have i6:(j:Int) < (b.length:Int):=by omega
     have hd2:d[i+j]<=200000000000000000:=by omega
     generalize hdk:d[i+j]=dk at *
     have HDK:Hid (d[i+j]=dk):=hdk
     clear hdk hd1
     go_wp2
     go_region
     have Fe:Hid (MInv a b (d.set (i+j) (dk+(a[i]:Int)*(b[j]:Int))) i (j+1)):=show MInv a b (d.set (i+j) (dk+(a[i]:Int)*(b[j]:Int))) i (j+1) by
      rw[<- HDK.out];exact HM.out.step ha hb hia hjb hk
     have hst:=hown.stored (i+j) (.int .i64 (dk+(a[i]:Int)*(b[j]:Int)))
     have hown2:(wr.setCell ⟨w.heap.size+1+1+1,i+j,none⟩ (.int .i64 (dk+(a[i]:Int)*(b[j]:Int)))).drew.ownsRow (w.heap.size+1+1+1) 3 1 (.slice (some ⟨w.heap.size+1+1+1,0,none⟩) (a.length+b.length) (a.length+b.length)) (a.length+b.length) (mo (d.set (i+j) (dk+(a[i]:Int)*(b[j]:Int)))):=by
      rw[<- Wu];exact hst.1
     have hm2:Mod (fun q=>w.heap.size+1+1+1<=q) W (wr.setCell ⟨w.heap.size+1+1+1,i+j,none⟩ (.int .i64 (dk+(a[i]:Int)*(b[j]:Int)))).drew:=(hm.setCell _ _ (fun _=>Nat.le_refl _)).drew
     clear hst hown hm x1 y1 cd fd ca cb
     go_wp2
     go_roundw
     case rel=>exact⟨j+1,_,by omega,by go_num,hown2,Fe,hm2⟩
     case measure=>simp[intOf];omega
    ·have hjb':j=b.length:=by omega
     have Fe:Hid (MInv a b d (i+1) 0):=show MInv a b d (i+1) 0 by have:=HM.out;rw[hjb']at this;exact this.row hia
     clear hjb'
     go_wp2
     go_roundw
     case rel=>exact⟨i+1,d,by omega,by go_num,hown,Fe,hm⟩
     case measure=>simp[intOf];omega
  ·have acd:i=a.length:=by omega
   have rC:Hid (d.length=a.length+b.length):=HM.out.1
   have HVL:Hid (gQ d=(val a:Int)*(val b:Int)):=HM.out.done (by omega)
   have Wx:Hid (∀ x∈d,-200000000000000000<=x/\x<=200000000000000000):=HM.out.bound (by omega)
   have H0:Hid (0<=gQ d):=show 0<=gQ d by rw[HVL.out];exact Int.mul_nonneg (Int.natCast_nonneg _) (Int.natCast_nonneg _)
   have Fh:Hid (∀ os,(val os:Int)=gQ d->num (nx != ny) os=num nx a*num ny b):=fun os h=>num_mul nx ny a b os (by rw[h,HVL.out])
   have WB:Hid (wr.ownsRow 0 3 1 (.slice (some ⟨w.heap.size+1+1+1,0,none⟩) (a.length+b.length) (a.length+b.length)) d.length (mo d)):=show wr.ownsRow 0 3 1 (.slice (some ⟨w.heap.size+1+1+1,0,none⟩) (a.length+b.length) (a.length+b.length)) d.length (mo d) by
    rw[rC.out];exact bI hown (Nat.zero_le _)
   have hx0:=(uW.keep hm (by omega)).c0
   have hy0:=(MJ.keep hm (by omega)).c0
   have hRw:pV wr (w.heap.size+1+1) false (.slice none 0 0):=eB.keep hm (by omega)
   have Iz:pV wr.drew (w.heap.size+1+1) false (.slice none 0 0):=hRw
   have hmw:Mod (fun _=>False) w wr:=((Ck.mono (q:=fun q=>w.heap.size+1+1+1<=q) (fun _ _ f=>f.elim)).trans hm).mono (fun q hq h=>by omega)
   have EX:Hid (d.length<=2000000000):=show d.length<=2000000000 by rw[rC.out];omega
   clear hown acd HM uW MJ eB pE Ca Ck hm
   go_wp2_with fail
   clear x1 y1
   generalize num nx a*num ny b=tot at *
   cases nx
   ·cases ny
    ·go_region_held3 (fun w'=>w'.cell? ⟨w.heap.size,0,none⟩=some (.bool false)/\w'.cell? ⟨w.heap.size+1,0,none⟩=some (.bool false))
      (first | go_keep | (exact hkeep) | (exact dG))
      (first
       | (go_at_call 186;refine (jT (.slice (some ⟨w.heap.size+1+1+1,0,none⟩) (a.length+b.length) (a.length+b.length)) d wr.drew WB.out Wx.out H0.out EX.out).mono ?_;rintro e w3 ⟨aC,v3,os,rfl,hown3,hdig,hval,hlen3⟩;have hkeep:=zI (aC.cell (a:=wr.drew) hx0) (aC.cell (a:=wr.drew) hy0))
       | (go_at_call 185;refine (jc false v3 os w3 (bI hown3 (Nat.zero_le _)) hdig (by have:=EX.out;omega)).mono ?_;rintro e w4 ⟨aO,nb,v4,l4,rfl,iV,hx4,hl4⟩;have hkeep:=zI (aO.cell (aC.cell (a:=wr.drew) hx0)) (aO.cell (aC.cell (a:=wr.drew) hy0));have eB:=(Iz.keep aC (fun f=>f)).keep aO (fun f=>f);have r0:=eB.c0;have r1:=eB.c1;have f0:=eB.fz 0;have f1:=eB.fz 1;obtain⟨eG,aJ,rfl,-⟩:=aj iV.2;have dG:=zI ((ay (w.heap.size+1+1) w4 (.bool nb) (.slice eG l4.length aJ) w.heap.size 0 (by omega)).trans hkeep.1) ((ay (w.heap.size+1+1) w4 (.bool nb) (.slice eG l4.length aJ) (w.heap.size+1) 0 (by omega)).trans hkeep.2)))
     have kR:=eB.set nb (.slice eG l4.length aJ)
     have q0:=kR.c0
     have q1:=kR.c1
     have gy:=(hmw.drew.trans aC).trans aO
     have fT:Mod (fun _=>False) w ((w4.setCell ⟨w.heap.size+1+1,0,none⟩ (.bool nb)).setCell ⟨w.heap.size+1+1,1,none⟩ (.slice eG l4.length aJ)):=((gy.mono (q:=fun i=>i=w.heap.size+1+1) (fun _ _ f=>f.elim)).trans (dK _ _ _ _)).mono (fun i hi h=>by omega)
     have fP:Hid (NumEnd w tot (a.length+b.length+4) (.returned (oz nb (.slice eG l4.length aJ))) ((w4.setCell ⟨w.heap.size+1+1,0,none⟩ (.bool nb)).setCell ⟨w.heap.size+1+1,1,none⟩ (.slice eG l4.length aJ))) :=
      iq (l:=l4) fT ⟨iV.1,dL iV.2 eB _ _⟩ (by rw[hx4];exact Fh.out os hval) (by have:=rC.out;omega)
     clear iV hown3 hval hx4 gy aC aO hmw
     go_wp2
     exact bodyPost_ret (by simp[results,Tryz.results153,go_sem,q0,q1]) rfl fP.out
    ·go_region_held3 (fun w'=>w'.cell? ⟨w.heap.size,0,none⟩=some (.bool false)/\w'.cell? ⟨w.heap.size+1,0,none⟩=some (.bool true))
      (first | go_keep | (exact hkeep) | (exact dG))
      (first
       | (go_at_call 186;refine (jT (.slice (some ⟨w.heap.size+1+1+1,0,none⟩) (a.length+b.length) (a.length+b.length)) d wr.drew WB.out Wx.out H0.out EX.out).mono ?_;rintro e w3 ⟨aC,v3,os,rfl,hown3,hdig,hval,hlen3⟩;have hkeep:=zI (aC.cell (a:=wr.drew) hx0) (aC.cell (a:=wr.drew) hy0))
       | (go_at_call 185;refine (jc true v3 os w3 (bI hown3 (Nat.zero_le _)) hdig (by have:=EX.out;omega)).mono ?_;rintro e w4 ⟨aO,nb,v4,l4,rfl,iV,hx4,hl4⟩;have hkeep:=zI (aO.cell (aC.cell (a:=wr.drew) hx0)) (aO.cell (aC.cell (a:=wr.drew) hy0));have eB:=(Iz.keep aC (fun f=>f)).keep aO (fun f=>f);have r0:=eB.c0;have r1:=eB.c1;have f0:=eB.fz 0;have f1:=eB.fz 1;obtain⟨eG,aJ,rfl,-⟩:=aj iV.2;have dG:=zI ((ay (w.heap.size+1+1) w4 (.bool nb) (.slice eG l4.length aJ) w.heap.size 0 (by omega)).trans hkeep.1) ((ay (w.heap.size+1+1) w4 (.bool nb) (.slice eG l4.length aJ) (w.heap.size+1) 0 (by omega)).trans hkeep.2)))
     have kR:=eB.set nb (.slice eG l4.length aJ)
     have q0:=kR.c0
     have q1:=kR.c1
     have gy:=(hmw.drew.trans aC).trans aO
     have fT:Mod (fun _=>False) w ((w4.setCell ⟨w.heap.size+1+1,0,none⟩ (.bool nb)).setCell ⟨w.heap.size+1+1,1,none⟩ (.slice eG l4.length aJ)):=((gy.mono (q:=fun i=>i=w.heap.size+1+1) (fun _ _ f=>f.elim)).trans (dK _ _ _ _)).mono (fun i hi h=>by omega)
     have fP:Hid (NumEnd w tot (a.length+b.length+4) (.returned (oz nb (.slice eG l4.length aJ))) ((w4.setCell ⟨w.heap.size+1+1,0,none⟩ (.bool nb)).setCell ⟨w.heap.size+1+1,1,none⟩ (.slice eG l4.length aJ))) :=
      iq (l:=l4) fT ⟨iV.1,dL iV.2 eB _ _⟩ (by rw[hx4];exact Fh.out os hval) (by have:=rC.out;omega)
     clear iV hown3 hval hx4 gy aC aO hmw
     go_wp2
     exact bodyPost_ret (by simp[results,Tryz.results153,go_sem,q0,q1]) rfl fP.out
   ·cases ny
    ·go_region_held3 (fun w'=>w'.cell? ⟨w.heap.size,0,none⟩=some (.bool true)/\w'.cell? ⟨w.heap.size+1,0,none⟩=some (.bool false))
      (first | go_keep | (exact hkeep) | (exact dG))
      (first
       | (go_at_call 186;refine (jT (.slice (some ⟨w.heap.size+1+1+1,0,none⟩) (a.length+b.length) (a.length+b.length)) d wr.drew WB.out Wx.out H0.out EX.out).mono ?_;rintro e w3 ⟨aC,v3,os,rfl,hown3,hdig,hval,hlen3⟩;have hkeep:=zI (aC.cell (a:=wr.drew) hx0) (aC.cell (a:=wr.drew) hy0))
       | (go_at_call 185;refine (jc true v3 os w3 (bI hown3 (Nat.zero_le _)) hdig (by have:=EX.out;omega)).mono ?_;rintro e w4 ⟨aO,nb,v4,l4,rfl,iV,hx4,hl4⟩;have hkeep:=zI (aO.cell (aC.cell (a:=wr.drew) hx0)) (aO.cell (aC.cell (a:=wr.drew) hy0));have eB:=(Iz.keep aC (fun f=>f)).keep aO (fun f=>f);have r0:=eB.c0;have r1:=eB.c1;have f0:=eB.fz 0;have f1:=eB.fz 1;obtain⟨eG,aJ,rfl,-⟩:=aj iV.2;have dG:=zI ((ay (w.heap.size+1+1) w4 (.bool nb) (.slice eG l4.length aJ) w.heap.size 0 (by omega)).trans hkeep.1) ((ay (w.heap.size+1+1) w4 (.bool nb) (.slice eG l4.length aJ) (w.heap.size+1) 0 (by omega)).trans hkeep.2)))
     have kR:=eB.set nb (.slice eG l4.length aJ)
     have q0:=kR.c0
     have q1:=kR.c1
     have gy:=(hmw.drew.trans aC).trans aO
     have fT:Mod (fun _=>False) w ((w4.setCell ⟨w.heap.size+1+1,0,none⟩ (.bool nb)).setCell ⟨w.heap.size+1+1,1,none⟩ (.slice eG l4.length aJ)):=((gy.mono (q:=fun i=>i=w.heap.size+1+1) (fun _ _ f=>f.elim)).trans (dK _ _ _ _)).mono (fun i hi h=>by omega)
     have fP:Hid (NumEnd w tot (a.length+b.length+4) (.returned (oz nb (.slice eG l4.length aJ))) ((w4.setCell ⟨w.heap.size+1+1,0,none⟩ (.bool nb)).setCell ⟨w.heap.size+1+1,1,none⟩ (.slice eG l4.length aJ))) :=
      iq (l:=l4) fT ⟨iV.1,dL iV.2 eB _ _⟩ (by rw[hx4];exact Fh.out os hval) (by have:=rC.out;omega)
     clear iV hown3 hval hx4 gy aC aO hmw
     go_wp2
     exact bodyPost_ret (by simp[results,Tryz.results153,go_sem,q0,q1]) rfl fP.out
    ·go_region_held3 (fun w'=>w'.cell? ⟨w.heap.size,0,none⟩=some (.bool true)/\w'.cell? ⟨w.heap.size+1,0,none⟩=some (.bool true))
      (first | go_keep | (exact hkeep) | (exact dG))
      (first
       | (go_at_call 186;refine (jT (.slice (some ⟨w.heap.size+1+1+1,0,none⟩) (a.length+b.length) (a.length+b.length)) d wr.drew WB.out Wx.out H0.out EX.out).mono ?_;rintro e w3 ⟨aC,v3,os,rfl,hown3,hdig,hval,hlen3⟩;have hkeep:=zI (aC.cell (a:=wr.drew) hx0) (aC.cell (a:=wr.drew) hy0))
       | (go_at_call 185;refine (jc false v3 os w3 (bI hown3 (Nat.zero_le _)) hdig (by have:=EX.out;omega)).mono ?_;rintro e w4 ⟨aO,nb,v4,l4,rfl,iV,hx4,hl4⟩;have hkeep:=zI (aO.cell (aC.cell (a:=wr.drew) hx0)) (aO.cell (aC.cell (a:=wr.drew) hy0));have eB:=(Iz.keep aC (fun f=>f)).keep aO (fun f=>f);have r0:=eB.c0;have r1:=eB.c1;have f0:=eB.fz 0;have f1:=eB.fz 1;obtain⟨eG,aJ,rfl,-⟩:=aj iV.2;have dG:=zI ((ay (w.heap.size+1+1) w4 (.bool nb) (.slice eG l4.length aJ) w.heap.size 0 (by omega)).trans hkeep.1) ((ay (w.heap.size+1+1) w4 (.bool nb) (.slice eG l4.length aJ) (w.heap.size+1) 0 (by omega)).trans hkeep.2)))
     have kR:=eB.set nb (.slice eG l4.length aJ)
     have q0:=kR.c0
     have q1:=kR.c1
     have gy:=(hmw.drew.trans aC).trans aO
     have fT:Mod (fun _=>False) w ((w4.setCell ⟨w.heap.size+1+1,0,none⟩ (.bool nb)).setCell ⟨w.heap.size+1+1,1,none⟩ (.slice eG l4.length aJ)):=((gy.mono (q:=fun i=>i=w.heap.size+1+1) (fun _ _ f=>f.elim)).trans (dK _ _ _ _)).mono (fun i hi h=>by omega)
     have fP:Hid (NumEnd w tot (a.length+b.length+4) (.returned (oz nb (.slice eG l4.length aJ))) ((w4.setCell ⟨w.heap.size+1+1,0,none⟩ (.bool nb)).setCell ⟨w.heap.size+1+1,1,none⟩ (.slice eG l4.length aJ))) :=
      iq (l:=l4) fT ⟨iV.1,dL iV.2 eB _ _⟩ (by rw[hx4];exact Fh.out os hval) (by have:=rC.out;omega)
     clear iV hown3 hval hx4 gy aC aO hmw
     go_wp2
     exact bodyPost_ret (by simp[results,Tryz.results153,go_sem,q0,q1]) rfl fP.out
end Go.Proofs.YtmnfndpbblpjiabGreatDoor

/- The document's numbers: Of a small one, and how long one is. -/
import Derived.Test.YtmnfndpbblpjiabGreatDoorZx13
set_option maxHeartbeats 1600000
set_option maxRecDepth 100000
namespace Go.Proofs.YtmnfndpbblpjiabGreatDoor
open Go.RowKit Pu
theorem Pu.aaY (m:Nat):10000 ^ m=10 ^ (4*m):=by rw[show (10000:Nat)=10 ^ 4 from rfl,<- Nat.pow_mul]
theorem Pu.QE {l b:List Nat} {t j n:Nat} (hl:l=b++[t]) (hd:CJ l) (hj:j=0\/10 ^ (j - 1)<=t) (hj2:t < 10 ^ j) (ht:t≠0):n < 4*b.length+j↔10 ^ n<=val l:=by
 subst hl
 have hb:CJ b:=fun d h=>hd d (List.mem_append_left _ h)
 have h1:=ER hb
 rw[val_append]
 simp only[val,Nat.mul_zero,Nat.add_zero]
 rw[aaY]at *
 have hj0:j≠0:=by intro e;subst e;simp at hj2;omega
 have hlow:10 ^ (j - 1)<=t:=by rcases hj with h | h;(· omega);exact h
 constructor
 ·intro hn
  have a1:10 ^ (4*b.length)*10 ^ (j - 1)<=10 ^ (4*b.length)*t:=Nat.mul_le_mul_left _ hlow
  rw[<- Nat.pow_add]at a1
  have a2:10 ^ n<=10 ^ (4*b.length+(j - 1)):=Nat.pow_le_pow_right (by omega) (by omega)
  omega
 ·intro hv
  by_cases hn:n < 4*b.length+j
  ·exact hn
  ·exfalso
   have a1:10 ^ (4*b.length)*(t+1)<=10 ^ (4*b.length)*10 ^ j:=Nat.mul_le_mul_left _ hj2
   rw[<- Nat.pow_add,Nat.mul_add]at a1
   have a2:10 ^ (4*b.length+j)<=10 ^ n:=Nat.pow_le_pow_right (by omega) (by omega)
   omega
theorem QD (nb:Bool) (v:Value) (l:List Nat) (n:Nat) (w:World) (hN:Nm w nb v l) (hl:l.length<=50000) (_hn:n<=1000000):Calls Tryz.prog 106 #[oz nb v,.int .i64 n] w fun e w'=>e=.returned (.bool (decide (10 ^ n<=val l)))/\Mod (fun _=>False) w w':=by
 obtain⟨hd,ht,-⟩:=hN.1
 obtain⟨ao,cap,rfl,-⟩:=aj hN.2
 have hO:=hN.2
 have hm0:Mod (fun _=>False) w (w.alloc (.cells #[.bool nb,.slice ao l.length cap] 154)):=(Mod.refl _ w).alloc _
 have Qe:=au hO hm0 (fun _ _ f=>f)
 clear hN hO
 generalize hp:decide (10 ^ n<=val l)=pb at *
 have HP:Hid (decide (10 ^ n<=val l)=pb):=hp
 clear hp
 by_cases h0:l=[]
 ·have HR:Hid (pb=false):=show pb=false by rw[<- HP.out,h0];simp[val]
  have hb:((l.length:Int) == 0)=true:=by subst h0;rfl
  have hlz:l.length=0:=by rw[h0];rfl
  have HLZ:l.length<=0:=by omega
  clear h0 hlz
  go_in
  go_wp2
  go_ret
  exact⟨by rw[HR.out];rfl,hm0⟩
 ·obtain⟨b,t,hbt⟩:∃ b t,l=b++[t]:=⟨l.dropLast,l.getLast h0,(List.dropLast_concat_getLast h0).symm⟩
  have HBT:Hid (l=b++[t]):=hbt
  have hlb:l.length=b.length+1:=by rw[hbt];simp
  have HLB:Hid (l.length=b.length+1):=hlb
  have ht0:t≠0:=ht t (by rw[hbt];simp)
  have ht4:t < 10000:=hd t (by rw[hbt];simp)
  have hb:((l.length:Int) == 0)=false:=by rw[beq_eq_false_iff_ne];omega
  have hkl:b.length < l.length:=by omega
  obtain⟨gb,rfl,ct0⟩:=fA Qe rfl hkl
  have hlt':l[b.length]=t:=by
   have:l[b.length]?=some t:=by rw[hbt];simp
   rw[List.getElem?_eq_getElem hkl]at this
   injection this
  rw[hlt']at ct0
  clear hbt hlt' Qe
  rw[hlb]at ct0 hm0 hb ⊢
  have hbl:b.length<=50000:=by omega
  clear hlb hkl hl h0
  go_in
  go_wp2_with fail
  go_loop [5,7] (fun kv pv=>∃ (j P:Nat),j<=4/\Hid (P=10 ^ j)/\P<=10000/\kv=.int .i64 (4*(b.length:Int)+(j:Int))/\pv=.int .i64 P/\Hid (j=0\/10 ^ (j - 1)<=t)) (fun _ pv=>20000 - (intOf pv).toNat)
  case atStart=>exact⟨0,1,by omega,rfl,by omega,by simp,rfl,.inl rfl⟩
  case round =>
   obtain⟨j,P,hj,Zt,hP,rfl,rfl,HJ⟩:=hrel
   have hP1:1<=P:=by rw[Zt.out];exact Nat.pow_pos (by omega)
   by_cases hpt:P<=t
   ·have hj4:j < 4:=by
     by_cases e:j < 4
     ·exact e
     ·have:j=4:=by omega
      have h2:=Zt.out
      rw[this]at h2
      omega
    have hP3:P<=1000:=by
     have:10 ^ j<=10 ^ 3:=Nat.pow_le_pow_right (by omega) (by omega)
     rw[Zt.out];omega
    go_wp2
    go_round
    case rel=>exact⟨j+1,10*P,by omega,show 10*P=10 ^ (j+1) by rw[Zt.out,Nat.pow_succ];omega,by omega,by go_num,by go_num,show j+1=0\/10 ^ (j+1 - 1)<=t from .inr (by have:=Zt.out;simp;omega)⟩
    case measure=>simp[intOf];omega
   ·have HR:Hid (pb=decide ((n:Int) < 4*(b.length:Int)+(j:Int))):=show pb=decide ((n:Int) < 4*(b.length:Int)+(j:Int)) by
     rw[<- HP.out,Bool.eq_iff_iff,decide_eq_true_eq,decide_eq_true_eq,<- QE (n:=n) HBT.out hd HJ.out (by rw[<- Zt.out];omega) ht0]
     omega
    go_wp2
    go_ret
    exact⟨by rw[HR.out];rfl,hm0⟩
theorem pV.set1 {w:World} {b:Nat} {nb:Bool} {v:Value} (h:pV w b nb v) (u:Value):pV (w.setCell ⟨b,1,none⟩ u) b nb u:=by unfold pV at *;simp[World.setCell,Array.getElem?_modify,h]
theorem YL (n:Int) (w:World) (h1:-10000 < n) (h2:n < 10000) (hs:n < 0):Calls Tryz.prog 115 #[.int .i64 n] w (NumEnd w n 1):=by
 obtain⟨i0,hi,hz0,hz1,hz2⟩:=info_parts Tryz.info3
 have hR:=bO w false (.slice none 0 0)
 have hX:=bO (w.alloc (.cells #[.bool false,.slice none 0 0] 154)) true (.slice none 0 0)
 have m1:Mod (fun _=>False) w (w.alloc (.cells #[.bool false,.slice none 0 0] 154)):=(Mod.refl _ w).alloc _
 have m2:Mod (fun _=>False) (w.alloc (.cells #[.bool false,.slice none 0 0] 154)) ((w.alloc (.cells #[.bool false,.slice none 0 0] 154)).alloc (.cells #[.bool true,.slice none 0 0] 154)):=(Mod.refl _ _).alloc _
 have hR2:=hR.keep m2 (fun f=>f)
 have fK:=m1.trans m2
 simp only[World.size_alloc]at hX
 clear hR m1 m2
 have hsb:decide (n < 0)=true:=by simp;omega
 go_in
 go_wp2_with fail
 clear hsb
 generalize (w.alloc (.cells #[.bool false,.slice none 0 0] 154)).alloc (.cells #[.bool true,.slice none 0 0] 154)=W at *
 have hWz:=hX.lt
 go_loopw [0] (fun nv wr=>∃ (m:Int) (ds:List Nat) (dv:Value),nv=.int .i64 m/\0<=m/\m < 10000/\ds.length<=1/\pV wr (w.heap.size+1) true dv/\wr.ownsRow W.heap.size 3 1 dv ds.length (xC ds)/\pV wr w.heap.size false (.slice none 0 0)/\Mod (fun q=>q=w.heap.size+1) W wr/\Hid ((m=-n/\ds=[])\/(m=0/\ds=[(-n).toNat]/\0 < -n))) (fun nv _=>(intOf nv).toNat)
 case atStart=>exact⟨-n,[],.slice none 0 0,rfl,by omega,by omega,by simp,hX,World.ownsRow_nil _ _ _ _,hR2,Mod.refl _ _,.inl ⟨rfl,rfl⟩⟩
 case round =>
  clear hX hR2
  obtain⟨m,ds,dv,rfl,hm0,hm1,hdl,hX,hown,hR,hm,HC⟩:=hrel
  have hsz:=hm.size
  have hXl:=hX.lt
  have x0:=hX.c0
  have x1:=hX.c1
  have f0:=hX.fz 0
  have f1:=hX.fz 1
  obtain⟨oo,qj,rfl,-⟩:=aj hown
  by_cases hpos:0 < m
  ·have hc:m=-n/\ds=[]:=by
    rcases HC.out with h | h
    ·exact h
    ·omega
   obtain⟨hmM,rfl⟩:=hc
   have ZJ:Hid (m=-n):=hmM
   have HQ:Hid (m % 10000=((m.toNat:Nat):Int)):=show m % 10000=((m.toNat:Nat):Int) by omega
   have OV:Hid (m / 10000=0):=show m / 10000=0 by omega
   clear hmM
   go_wp2_with (at_builtin;refine wpList_append_own _ rfl _ _ 29 rfl W.heap.size 3 i0 (.int .i64 0) 1 8 Tryz.underlying29 hi hz0 hz1 hz2 rfl (by decide) _ _ _ rfl (hown.alloc _) ⟨wr.heap.size,0,none⟩ 1 1 [_] rfl rfl (cell_one_new _ _ _) ?c2 ?c3 ?c4 ?c5 ?_)
   case c2=>first | rfl | (intro u hu;simp at hu;subst hu;rfl)
   case c3=>unfold maxLen;simp
   case c5=>first | omega | (simp;omega)
   intro v4 w4 aG hgrow _
   have hgm:Mod (fun q=>W.heap.size<=q) wr w4:=((Mod.refl _ wr).alloc _).grown hgrow (fun q hq _=>(hown.lt q hq).1)
   have uW:pV w4 (w.heap.size+1) true (.slice oo 0 qj):=hX.keep hgm (by omega)
   have eB:=hR.keep hgm (by omega)
   have hown5:w4.ownsRow W.heap.size 3 1 v4 [m.toNat].length (xC [m.toNat]):=by
    have e:xC [m.toNat]=[.int .i64 (m % 10000)]:=by simp[xC,HQ.out]
    rw[e];exact aG
   have jH:Mod (fun q=>q=w.heap.size+1) W w4:=⟨hgm.os.trans hm.os,hgm.tape.trans hm.tape,hgm.output.trans hm.output,Nat.le_trans hm.size hgm.size,fun k hk hp=>(hgm.block k (by omega) (by omega)).trans (hm.block k hk hp)⟩
   obtain⟨Kc,nR,rfl,-⟩:=aj aG
   clear x0 x1 f0 f1
   have x1:=uW.c1
   have f1:=uW.fz 1
   have hX6:=uW.set1 (.slice Kc (0+1) nR)
   have EZ:Mod (fun q=>q=w.heap.size+1) w4 (w4.setCell ⟨w.heap.size+1,1,none⟩ (.slice Kc (0+1) nR)):=(Mod.refl (fun q=>q=w.heap.size+1) w4).setCell _ _ (fun _=>rfl)
   have UK:=eB.keep EZ (by omega)
   have hown6:=au hown5 EZ (fun q hq he=>by omega)
   have uN:=jH.trans EZ
   clear hgrow hgm aG hown5 uW eB EZ jH hown hX hR hm
   go_wp2
   go_roundw
   case rel=>exact⟨m / 10000,[m.toNat],_,rfl,by omega,by omega,by simp,hX6,hown6,UK,uN,.inr ⟨OV.out,by rw[ZJ.out],by have:=ZJ.out;omega⟩⟩
   case measure=>rw[OV.out];simp[intOf];omega
  ·have HM0:Hid (m=0):=show m=0 by omega
   have Ql:Mod (fun _=>False) w wr:=((fK.mono (q:=fun q=>q=w.heap.size+1) (fun _ _ f=>f.elim)).trans hm).mono (fun q hq h=>by omega)
   have r0:=hR.c0
   have r1:=hR.c1
   have g0:=hR.fz 0
   have g1:=hR.fz 1
   have kR:=hR.set true (.slice oo ds.length qj)
   have q0:=kR.c0
   have q1:=kR.c1
   have fT:Mod (fun _=>False) w ((wr.setCell ⟨w.heap.size,0,none⟩ (.bool true)).setCell ⟨w.heap.size,1,none⟩ (.slice oo ds.length qj)):=((Ql.mono (q:=fun q=>q=w.heap.size) (fun _ _ f=>f.elim)).trans (dK _ _ _ _)).mono (fun i hi h=>by omega)
   have fP:Hid (NumEnd w n 1 (.returned (oz true (.slice oo ds.length qj))) ((wr.setCell ⟨w.heap.size,0,none⟩ (.bool true)).setCell ⟨w.heap.size,1,none⟩ (.slice oo ds.length qj))):=by
    refine iq (l:=ds) fT ⟨?_,dL (bI hown (Nat.zero_le _)) hR _ _⟩ ?_ hdl
    ·rcases HC.out with ⟨h,rfl⟩ | ⟨_,rfl,hp⟩
     ·have:=HM0.out;omega
     ·exact⟨fun d hd=>by simp at hd;omega,fun d hd=>by simp at hd;omega,fun e=>by cases e⟩
    ·rcases HC.out with ⟨h,rfl⟩ | ⟨_,rfl,hp⟩
     ·have:=HM0.out;omega
     ·simp[num,val];omega
   clear hown hm hX Ql
   go_wp2
   exact bodyPost_ret (by simp[results,Tryz.results115,go_sem,q0,q1]) rfl fP.out
theorem YM (n:Int) (w:World) (h1:-10000 < n) (h2:n < 10000) (hs:0<=n):Calls Tryz.prog 115 #[.int .i64 n] w (NumEnd w n 1):=by
 obtain⟨i0,hi,hz0,hz1,hz2⟩:=info_parts Tryz.info3
 have hR:=bO w false (.slice none 0 0)
 have hX:=bO (w.alloc (.cells #[.bool false,.slice none 0 0] 154)) false (.slice none 0 0)
 have m1:Mod (fun _=>False) w (w.alloc (.cells #[.bool false,.slice none 0 0] 154)):=(Mod.refl _ w).alloc _
 have m2:Mod (fun _=>False) (w.alloc (.cells #[.bool false,.slice none 0 0] 154)) ((w.alloc (.cells #[.bool false,.slice none 0 0] 154)).alloc (.cells #[.bool false,.slice none 0 0] 154)):=(Mod.refl _ _).alloc _
 have hR2:=hR.keep m2 (fun f=>f)
 have fK:=m1.trans m2
 simp only[World.size_alloc]at hX
 clear hR m1 m2
 have hsb:decide (n < 0)=false:=by simp;omega
 go_in
 go_wp2_with fail
 clear hsb
 generalize (w.alloc (.cells #[.bool false,.slice none 0 0] 154)).alloc (.cells #[.bool false,.slice none 0 0] 154)=W at *
 have hWz:=hX.lt
 go_loopw [0] (fun nv wr=>∃ (m:Int) (ds:List Nat) (dv:Value),nv=.int .i64 m/\0<=m/\m < 10000/\ds.length<=1/\pV wr (w.heap.size+1) false dv/\wr.ownsRow W.heap.size 3 1 dv ds.length (xC ds)/\pV wr w.heap.size false (.slice none 0 0)/\Mod (fun q=>q=w.heap.size+1) W wr/\Hid ((m=n/\ds=[])\/(m=0/\ds=[(n).toNat]/\0 < n))) (fun nv _=>(intOf nv).toNat)
 case atStart=>exact⟨n,[],.slice none 0 0,rfl,by omega,by omega,by simp,hX,World.ownsRow_nil _ _ _ _,hR2,Mod.refl _ _,.inl ⟨rfl,rfl⟩⟩
 case round =>
  clear hX hR2
  obtain⟨m,ds,dv,rfl,hm0,hm1,hdl,hX,hown,hR,hm,HC⟩:=hrel
  have hsz:=hm.size
  have hXl:=hX.lt
  have x0:=hX.c0
  have x1:=hX.c1
  have f0:=hX.fz 0
  have f1:=hX.fz 1
  obtain⟨oo,qj,rfl,-⟩:=aj hown
  by_cases hpos:0 < m
  ·have hc:m=n/\ds=[]:=by
    rcases HC.out with h | h
    ·exact h
    ·omega
   obtain⟨hmM,rfl⟩:=hc
   have ZJ:Hid (m=n):=hmM
   have HQ:Hid (m % 10000=((m.toNat:Nat):Int)):=show m % 10000=((m.toNat:Nat):Int) by omega
   have OV:Hid (m / 10000=0):=show m / 10000=0 by omega
   clear hmM
   go_wp2_with (at_builtin;refine wpList_append_own _ rfl _ _ 29 rfl W.heap.size 3 i0 (.int .i64 0) 1 8 Tryz.underlying29 hi hz0 hz1 hz2 rfl (by decide) _ _ _ rfl (hown.alloc _) ⟨wr.heap.size,0,none⟩ 1 1 [_] rfl rfl (cell_one_new _ _ _) ?c2 ?c3 ?c4 ?c5 ?_)
   case c2=>first | rfl | (intro u hu;simp at hu;subst hu;rfl)
   case c3=>unfold maxLen;simp
   case c5=>first | omega | (simp;omega)
   intro v4 w4 aG hgrow _
   have hgm:Mod (fun q=>W.heap.size<=q) wr w4:=((Mod.refl _ wr).alloc _).grown hgrow (fun q hq _=>(hown.lt q hq).1)
   have uW:pV w4 (w.heap.size+1) false (.slice oo 0 qj):=hX.keep hgm (by omega)
   have eB:=hR.keep hgm (by omega)
   have hown5:w4.ownsRow W.heap.size 3 1 v4 [m.toNat].length (xC [m.toNat]):=by
    have e:xC [m.toNat]=[.int .i64 (m % 10000)]:=by simp[xC,HQ.out]
    rw[e];exact aG
   have jH:Mod (fun q=>q=w.heap.size+1) W w4:=⟨hgm.os.trans hm.os,hgm.tape.trans hm.tape,hgm.output.trans hm.output,Nat.le_trans hm.size hgm.size,fun k hk hp=>(hgm.block k (by omega) (by omega)).trans (hm.block k hk hp)⟩
   obtain⟨Kc,nR,rfl,-⟩:=aj aG
   clear x0 x1 f0 f1
   have x1:=uW.c1
   have f1:=uW.fz 1
   have hX6:=uW.set1 (.slice Kc (0+1) nR)
   have EZ:Mod (fun q=>q=w.heap.size+1) w4 (w4.setCell ⟨w.heap.size+1,1,none⟩ (.slice Kc (0+1) nR)):=(Mod.refl (fun q=>q=w.heap.size+1) w4).setCell _ _ (fun _=>rfl)
   have UK:=eB.keep EZ (by omega)
   have hown6:=au hown5 EZ (fun q hq he=>by omega)
   have uN:=jH.trans EZ
   clear hgrow hgm aG hown5 uW eB EZ jH hown hX hR hm
   go_wp2
   go_roundw
   case rel=>exact⟨m / 10000,[m.toNat],_,rfl,by omega,by omega,by simp,hX6,hown6,UK,uN,.inr ⟨OV.out,by rw[ZJ.out],by have:=ZJ.out;omega⟩⟩
   case measure=>rw[OV.out];simp[intOf];omega
  ·have HM0:Hid (m=0):=show m=0 by omega
   have Ql:Mod (fun _=>False) w wr:=((fK.mono (q:=fun q=>q=w.heap.size+1) (fun _ _ f=>f.elim)).trans hm).mono (fun q hq h=>by omega)
   have r0:=hR.c0
   have r1:=hR.c1
   have g0:=hR.fz 0
   have g1:=hR.fz 1
   have kR:=hR.set false (.slice oo ds.length qj)
   have q0:=kR.c0
   have q1:=kR.c1
   have fT:Mod (fun _=>False) w ((wr.setCell ⟨w.heap.size,0,none⟩ (.bool false)).setCell ⟨w.heap.size,1,none⟩ (.slice oo ds.length qj)):=((Ql.mono (q:=fun q=>q=w.heap.size) (fun _ _ f=>f.elim)).trans (dK _ _ _ _)).mono (fun i hi h=>by omega)
   have fP:Hid (NumEnd w n 1 (.returned (oz false (.slice oo ds.length qj))) ((wr.setCell ⟨w.heap.size,0,none⟩ (.bool false)).setCell ⟨w.heap.size,1,none⟩ (.slice oo ds.length qj))):=by
    refine iq (l:=ds) fT ⟨?_,dL (bI hown (Nat.zero_le _)) hR _ _⟩ ?_ hdl
    ·rcases HC.out with ⟨h,rfl⟩ | ⟨_,rfl,hp⟩
     ·exact⟨fun d hd=>by simp at hd,fun d hd=>by simp at hd,fun _=>rfl⟩
     ·exact⟨fun d hd=>by simp at hd;omega,fun d hd=>by simp at hd;omega,fun e=>by cases e⟩
    ·rcases HC.out with ⟨h,rfl⟩ | ⟨_,rfl,hp⟩
     ·have:=HM0.out;simp[num,val];omega
     ·simp[num,val];omega
   clear hown hm hX Ql
   go_wp2
   exact bodyPost_ret (by simp[results,Tryz.results115,go_sem,q0,q1]) rfl fP.out
theorem Eo (n:Int) (w:World) (h1:-10000 < n) (h2:n < 10000):Calls Tryz.prog 115 #[.int .i64 n] w (NumEnd w n 1):=by
 by_cases h:n < 0
 ·exact YL n w h1 h2 h
 ·exact YM n w h1 h2 (by omega)
theorem one_byte (w:World) (n:Nat) (hn:n < 256) :
  (convert 70 9 (.slice (some ⟨w.heap.size,0,none⟩) 1 1)).run Tryz.prog (w.alloc (.cells #[.int .u8 (n:Int)] 5))
   = .ok (.string ⟨#[UInt8.ofNat n]⟩) (w.alloc (.cells #[.int .u8 (n:Int)] 5)):=by
 refine run_convert_bytes_back (P:=Tryz.prog) _ 70 9 5 ⟨w.heap.size,0,none⟩ 1 [UInt8.ofNat n] Tryz.underlying70 Tryz.underlying5 Tryz.underlying9 ?_
 intro j hj
 have hj2:j=0:=by simpa using hj
 subst hj2
 have hc:(w.alloc (.cells #[.int .u8 (n:Int)] 5)).cell? ⟨w.heap.size,0,none⟩=#[Value.int .u8 (n:Int)][0]?:=World.cell?_alloc_mark w _ _ _ 0
 have ha:(⟨w.heap.size,0,none⟩:Addr).add 0=⟨w.heap.size,0,none⟩:=by simp[Addr.add]
 rw[ha,hc]
 simp
 omega
theorem yS (n:Nat) (w:World) (hn:n<=99):Calls Tryz.prog 108 #[.int .i64 (n:Int)] w fun e w'=>e=.returned (.string (dec (n:Int)))/\Mod (fun _=>False) w w':=by
 have HD:Hid (dec (n:Int)=⟨(oG n).toArray⟩):=zH n
 have hq:(48:Int)+(n:Int) / 10=((48+n / 10:Nat):Int):=by omega
 have hr:(48:Int)+(n:Int) % 10=((48+n % 10:Nat):Int):=by omega
 generalize dec (n:Int)=ans at *
 by_cases h9:9 < n
 ·have HE:Hid (ans=⟨#[UInt8.ofNat (48+n / 10),UInt8.ofNat (48+n % 10)]⟩):=show _=_ by rw[HD.out];unfold oG;rw[if_pos h9]
  have k1:=one_byte w (48+n / 10) (by omega)
  have k2:=one_byte (w.alloc (.cells #[.int .u8 ((48+n / 10:Nat):Int)] 5)) (48+n % 10) (by omega)
  have hm:Mod (fun _=>False) w ((w.alloc (.cells #[.int .u8 ((48+n / 10:Nat):Int)] 5)).alloc (.cells #[.int .u8 ((48+n % 10:Nat):Int)] 5)):=((Mod.refl _ w).alloc _).alloc _
  simp only[World.size_alloc]at k2
  rw[<- hq]at k1 k2 hm
  rw[<- hr]at k2 hm
  generalize UInt8.ofNat (48+n / 10)=b1 at *
  generalize UInt8.ofNat (48+n % 10)=b2 at *
  clear hq hr HD
  go_in
  go_wp2
  go_ret
  exact⟨by rw[HE.out];rfl,hm⟩
 ·have HE:Hid (ans=⟨#[UInt8.ofNat (48+n % 10)]⟩):=show _=_ by rw[HD.out];unfold oG;rw[if_neg h9]
  have k2:=one_byte w (48+n % 10) (by omega)
  have hm:Mod (fun _=>False) w (w.alloc (.cells #[.int .u8 ((48+n % 10:Nat):Int)] 5)):=(Mod.refl _ w).alloc _
  rw[<- hr]at k2 hm
  generalize UInt8.ofNat (48+n % 10)=b2 at *
  clear hq hr HD
  go_in
  go_wp2
  go_ret
  exact⟨by rw[HE.out];rfl,hm⟩
theorem FC (n:Nat) (w:World) (h0:0 < n) (hn:n<=99):Calls Tryz.prog 108 #[.int .i64 (-(n:Int))] w fun e w'=>e=.returned (.string (dec (-(n:Int))))/\Mod (fun _=>False) w w':=by
 have HD:Hid (dec (-(n:Int))=⟨(45 :: oG n).toArray⟩):=zJ n h0
 have hq:(48:Int)+(n:Int) / 10=((48+n / 10:Nat):Int):=by omega
 have hr:(48:Int)+(n:Int) % 10=((48+n % 10:Nat):Int):=by omega
 generalize dec (-(n:Int))=ans at *
 by_cases h9:9 < n
 ·have HE:Hid (ans=⟨#[45,UInt8.ofNat (48+n / 10),UInt8.ofNat (48+n % 10)]⟩):=show _=_ by rw[HD.out];unfold oG;rw[if_pos h9]
  have k1:=one_byte w (48+n / 10) (by omega)
  have k2:=one_byte (w.alloc (.cells #[.int .u8 ((48+n / 10:Nat):Int)] 5)) (48+n % 10) (by omega)
  have hm:Mod (fun _=>False) w ((w.alloc (.cells #[.int .u8 ((48+n / 10:Nat):Int)] 5)).alloc (.cells #[.int .u8 ((48+n % 10:Nat):Int)] 5)):=((Mod.refl _ w).alloc _).alloc _
  simp only[World.size_alloc]at k2
  rw[<- hq]at k1 k2 hm
  rw[<- hr]at k2 hm
  generalize UInt8.ofNat (48+n / 10)=b1 at *
  generalize UInt8.ofNat (48+n % 10)=b2 at *
  clear hq hr HD
  go_in
  go_wp2
  go_ret
  exact⟨by rw[HE.out];rfl,hm⟩
 ·have HE:Hid (ans=⟨#[45,UInt8.ofNat (48+n % 10)]⟩):=show _=_ by rw[HD.out];unfold oG;rw[if_neg h9]
  have k2:=one_byte w (48+n % 10) (by omega)
  have hm:Mod (fun _=>False) w (w.alloc (.cells #[.int .u8 ((48+n % 10:Nat):Int)] 5)):=(Mod.refl _ w).alloc _
  rw[<- hr]at k2 hm
  generalize UInt8.ofNat (48+n % 10)=b2 at *
  clear hq hr HD
  go_in
  go_wp2
  go_ret
  exact⟨by rw[HE.out];rfl,hm⟩
theorem yR (n:Int) (w:World) (h1:-99<=n) (h2:n<=99):Calls Tryz.prog 108 #[.int .i64 n] w fun e w'=>e=.returned (.string (dec n))/\Mod (fun _=>False) w w':=by
 by_cases h:n < 0
 ·have:=FC n.natAbs w (by omega) (by omega)
  rwa [show -((n.natAbs:Nat):Int)=n by omega]at this
 ·have:=yS n.natAbs w (by omega)
  rwa [show ((n.natAbs:Nat):Int)=n by omega]at this
theorem bytes_inj {a b:ByteArray} (h:a.toList=b.toList):a=b:=by
 obtain⟨⟨a⟩⟩:=a
 obtain⟨⟨b⟩⟩:=b
 rw[ByteArray.toList_mk,ByteArray.toList_mk]at h
 rw[h]
def AQ (o:Option Int):Value:=match o with
 | some n=>.tuple #[.int .i64 n,.bool true]
 | none=>.tuple #[.int .i64 0,.bool false]
theorem yV (t:ByteArray) (w:World):Calls Tryz.prog 104 #[.string t] w fun e w'=>e=.returned (AQ (jd t))/\Mod (fun _=>False) w w':=by
 go_in
 go_wp2_with fail
 go_loopw [4] (fun nv wr=>∃ j:Nat,j<=199/\nv=.int .i64 ((j:Int) - 99)/\Mod (fun _=>False) w wr/\Hid (∀ i:Nat,i < j->t≠dec ((i:Int) - 99))) (fun nv _=>(100 - intOf nv).toNat)
 case atStart=>exact⟨0,by omega,rfl,Mod.refl _ _,fun i hi=>by omega⟩
 case round =>
  obtain⟨j,hj,rfl,hm,HN⟩:=hrel
  by_cases hlt:j < 199
  ·go_wp2_with fail
   refine (yR ((j:Int) - 99) _ (by omega) (by omega)).mono ?_
   rintro e w2 ⟨rfl,hm2⟩
   have aC:=hm.trans hm2
   clear hm hm2
   by_cases heq:t=dec ((j:Int) - 99)
   ·have HV:Hid (jd t=some ((j:Int) - 99)):=J5 hlt heq HN.out
    have hb:(t.toList == (dec ((j:Int) - 99)).toList)=true:=by rw[<- heq];exact beq_self_eq_true _
    clear heq HN
    go_wp2
    go_ret2
    exact⟨by rw[HV.out];rfl,aC⟩
   ·have Ce:Hid (∀ i:Nat,i < j+1->t≠dec ((i:Int) - 99)):=fun i hi=>by
     by_cases e:i=j
     ·subst e;exact heq
     ·exact HN.out i (by omega)
    have hb:(t.toList == (dec ((j:Int) - 99)).toList)=false:=by rw[beq_eq_false_iff_ne];exact fun e=>heq (bytes_inj e)
    clear heq HN
    go_wp2
    go_roundw
    case rel=>exact⟨j+1,by omega,by go_num,aC,Ce⟩
    case measure=>simp[intOf];omega
  ·have HV:Hid (jd t=none):=J4 (fun i hi=>HN.out i (by omega))
   go_wp2
   go_ret2
   exact⟨by rw[HV.out];rfl,hm⟩
def Dy (w:World) (o:Option (List Int)) (e:Ending) (w':World):Prop:=Mod (fun _=>False) w w'/\match o with
 | none=>e=.returned (.tuple #[.slice none 0 0,.bool false])
 | some l=>∃ v,e=.returned (.tuple #[v,.bool true])/\w'.ownsRow w.heap.size 3 1 v l.length (mo l)
theorem oO {w w':World} (hm:Mod (fun _=>False) w w'):Dy w none (.returned (.tuple #[.slice none 0 0,.bool false])) w':=⟨hm,rfl⟩
theorem rZ {w w':World} {l:List Int} {v:Value} (hm:Mod (fun _=>False) w w') (h:w'.ownsRow w.heap.size 3 1 v l.length (mo l)):Dy w (some l) (.returned (.tuple #[v,.bool true])) w':=⟨hm,v,rfl,h⟩
theorem nP (s:ByteArray) (w:World) (hs:s.size<=2000000):Calls Tryz.prog 64 #[.string s] w (Dy w (iG s)):=by
 obtain⟨i0,hi,hz0,hz1,hz2⟩:=info_parts Tryz.info3
 by_cases h0:s.size=0
 ·have hse:s=⟨#[]⟩:=by
   apply ByteArray.ext
   exact Array.eq_empty_of_size_eq_zero h0
  have HV:Hid (iG s=some []):=show _=_ by simp[iG,h0]
  have hb:(s.toList == ([]:List UInt8))=true:=by rw[hse,ByteArray.toList_mk []];rfl
  clear hse h0
  generalize iG s=ans at *
  go_in
  go_wp2
  go_ret2
  rw[HV.out]
  exact rZ (Mod.refl _ _) (World.ownsRow_nil _ _ _ _)
 ·have hb:(s.toList == ([]:List UInt8))=false:=by
   rw[beq_eq_false_iff_ne]
   intro e
   have:s=⟨#[]⟩:=bytes_inj (by rw[e];exact (ByteArray.toList_mk []).symm)
   rw[this]at h0
   exact h0 rfl
  have H0:Hid (s.size≠0):=h0
  clear h0
  go_in
  go_wp2_with fail
  go_loopw [4,5,6,7,8] (fun lv fv iv _ _ wr=>∃ (i f:Nat) (l:List Int),i<=s.size+1/\iv=.int .i64 i/\fv=.int .i64 f/\f<=i/\l.length<=i/\wr.ownsRow w.heap.size 3 1 lv l.length (mo l)/\Mod (fun _=>False) w wr/\Hid (fq s i=some (f,l))) (fun _ _ iv _ _ _=>s.size+1 - (intOf iv).toNat)
  case atStart=>exact⟨0,0,[],by omega,rfl,rfl,by omega,by simp,World.ownsRow_nil _ _ _ _,Mod.refl _ _,rfl⟩
  case round =>
   obtain⟨i,f,l,hil,rfl,rfl,hfi,hll,hown,hm,HI⟩:=hrel
   obtain⟨lo,acn,rfl,-⟩:=aj hown
   by_cases hlt:i<=s.size
   ·by_cases hc:i=s.size\/g s i=44
    ·have HBAD:Hid (jd (s.extract f i)=none->iG s=none):=fun h=>Gg H0.out hlt HI.out hc h
     have TP:Hid (∀ n,jd (s.extract f i)=some n->fq s (i+1)=some (i+1,l++[n])):=fun n h=>xU HI.out hc h
     by_cases hie:i=s.size
     ·have b1:((i:Int) == (s.size:Int))=true:=bN hie
      clear hie
      clear hc
      go_wp2_with fail
      refine (yV (s.extract f i) _).mono ?_
      rintro e w2 ⟨he,hm2⟩
      have aC:=hm.trans hm2
      have hown3:=au hown hm2 (fun _ _ f=>f)
      clear hm hm2 hown
      cases hnu:jd (s.extract f i) with
      | none =>
       have HV:Hid (iG s=none):=HBAD.out hnu
       rw[hnu]at he
       simp only[AQ]at he
       subst he
       go_wp2
       go_ret2
       rw[HV.out]
       exact oO aC
      | some n =>
       have hr:=oU hnu
       have hsz:=aC.size
       have HI2:Hid (fq s (i+1)=some (i+1,l++[n])):=TP.out n hnu
       rw[hnu]at he
       simp only[AQ]at he
       subst he
       clear hnu HBAD TP HI
       go_wp2_with (at_builtin;refine wpList_append_own _ rfl _ _ 29 rfl w.heap.size 3 i0 (.int .i64 0) 1 8 Tryz.underlying29 hi hz0 hz1 hz2 rfl (by decide) _ _ _ rfl (hown3.alloc _) ⟨w2.heap.size,0,none⟩ 1 1 [.int .i64 n] rfl rfl ?p1 ?p2 ?p3 ?p4 ?p5 ?_)
       case p1=>exact cell_one_new _ _ _
       case p2=>first | rfl | (intro u hu;simp at hu;subst hu;rfl)
       case p3=>unfold maxLen;omega
       case p4=>omega
       case p5=>first | omega | (simp;omega)
       intro v4 w4 aG hgrow _
       have aO:Mod (fun _=>False) w w4:=(aC.alloc _).grown hgrow (fun q hq hlt=>by have:=(hown3.lt q hq).1;omega)
       have hown5:w4.ownsRow w.heap.size 3 1 v4 (l++[n]).length (mo (l++[n])):=by
        have e1:mo (l++[n])=mo l++[.int .i64 n]:=by simp[mo]
        rw[e1,List.length_append];exact aG
       obtain⟨Kc,nR,rfl,-⟩:=aj aG
       clear aG hgrow hown3 aC
       go_wp2
       go_roundw
       case rel=>exact⟨i+1,i+1,l++[n],by omega,by go_num,by go_num,by omega,by simp;omega,hown5,aO,HI2⟩
       case measure=>simp[intOf];omega
     ·have b1:((i:Int) == (s.size:Int))=false:=aF hie
      have hlt2:i < s.size:=by omega
      have hlt3:(i:Int) < (s.size:Int):=by omega
      have b2:(((s[i]'hlt2).toNat:Int) == 44)=true:=bN (m:=44) (by rw[<- dB hlt2];omega)
      clear hc
      go_wp2_with fail
      refine (yV (s.extract f i) _).mono ?_
      rintro e w2 ⟨he,hm2⟩
      have aC:=hm.trans hm2
      have hown3:=au hown hm2 (fun _ _ f=>f)
      clear hm hm2 hown
      cases hnu:jd (s.extract f i) with
      | none =>
       have HV:Hid (iG s=none):=HBAD.out hnu
       rw[hnu]at he
       simp only[AQ]at he
       subst he
       go_wp2
       go_ret2
       rw[HV.out]
       exact oO aC
      | some n =>
       have hr:=oU hnu
       have hsz:=aC.size
       have HI2:Hid (fq s (i+1)=some (i+1,l++[n])):=TP.out n hnu
       rw[hnu]at he
       simp only[AQ]at he
       subst he
       clear hnu HBAD TP HI
       go_wp2_with (at_builtin;refine wpList_append_own _ rfl _ _ 29 rfl w.heap.size 3 i0 (.int .i64 0) 1 8 Tryz.underlying29 hi hz0 hz1 hz2 rfl (by decide) _ _ _ rfl (hown3.alloc _) ⟨w2.heap.size,0,none⟩ 1 1 [.int .i64 n] rfl rfl ?p1 ?p2 ?p3 ?p4 ?p5 ?_)
       case p1=>exact cell_one_new _ _ _
       case p2=>first | rfl | (intro u hu;simp at hu;subst hu;rfl)
       case p3=>unfold maxLen;omega
       case p4=>omega
       case p5=>first | omega | (simp;omega)
       intro v4 w4 aG hgrow _
       have aO:Mod (fun _=>False) w w4:=(aC.alloc _).grown hgrow (fun q hq hlt=>by have:=(hown3.lt q hq).1;omega)
       have hown5:w4.ownsRow w.heap.size 3 1 v4 (l++[n]).length (mo (l++[n])):=by
        have e1:mo (l++[n])=mo l++[.int .i64 n]:=by simp[mo]
        rw[e1,List.length_append];exact aG
       obtain⟨Kc,nR,rfl,-⟩:=aj aG
       clear aG hgrow hown3 aC
       go_wp2
       go_roundw
       case rel=>exact⟨i+1,i+1,l++[n],by omega,by go_num,by go_num,by omega,by simp;omega,hown5,aO,HI2⟩
       case measure=>simp[intOf];omega
    ·have HI2:Hid (fq s (i+1)=some (f,l)):=Gd HI.out hc
     have hlt2:i < s.size:=by omega
     have hlt3:(i:Int) < (s.size:Int):=by omega
     have b1:((i:Int) == (s.size:Int))=false:=aF (by omega)
     have b2:(((s[i]'hlt2).toNat:Int) == 44)=false:=aF (m:=44) (by rw[<- dB hlt2];omega)
     clear HI hc
     go_wp2
     go_roundw
     case rel=>exact⟨i+1,f,l,by omega,by go_num,rfl,by omega,by omega,hown,hm,HI2⟩
     case measure=>simp[intOf];omega
   ·have hi':i=s.size+1:=by omega
    have HV:Hid (iG s=some l):=CY H0.out (by rw[<- hi'];exact HI.out)
    generalize iG s=ans at *
    clear hi' HI
    go_wp2
    go_ret2
    rw[HV.out]
    exact rZ hm hown
end Go.Proofs.YtmnfndpbblpjiabGreatDoor

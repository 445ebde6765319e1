/- The document's execution of right steps. -/
import Derived.Deep.RegionWith
import Derived.Test.YtmnfndpbblpjiabGreatDoorZx09
import Derived.Test.YtmnfndpbblpjiabGreatDoorZx16
set_option maxHeartbeats 1600000
set_option maxRecDepth 4000
namespace Go.Proofs.YtmnfndpbblpjiabGreatDoor
open Go.RowKit Pu
theorem Tryz.infoNm:(Tryz.prog.info? 154).map (fun i=>(i.zero,i.size,i.bytes))=some (some (.agg #[.bool false,.slice none 0 0]),2,32):=by kernel_rfl
theorem Xc (x y:Value) (n r:Nat) (hr:r < n):(madeCells #[x,y] (n*2)).toList[r*2]?=some x/\(madeCells #[x,y] (n*2)).toList[r*2+1]?=some y:=by
 have h1:r*2 < n*2:=by omega
 have h2:r*2+1 < n*2:=by omega
 constructor
 ·simp[madeCells,h1]
 ·simp[madeCells,h2,show (r*2+1) % 2=1 by omega]
theorem Iu.start {w:World} {rb:Nat} (h:w.ownsRow rb 154 2 (.slice (some ⟨rb,0,none⟩) 128 128) 128 (madeCells #[.bool false,.slice none 0 0] (128*2)).toList):Iu w rb (List.replicate 128 0):=by
 have h':=h
 obtain⟨_,⟨he,_⟩ | ⟨g,cap,cur,he,_,hg,_,_,hcs,_⟩⟩:=h
 ·simp at he
 ·simp at he
  obtain⟨rfl,rfl⟩:=he
  refine⟨by simp,⟨cur,hg,by rw[hcs]⟩,fun r hr=>⟨false,.slice none 0 0,[],?_,?_,⟨⟨fun _ h=>by simp at h,fun _ h=>by simp at h,fun _=>rfl⟩,World.ownsRow_nil _ _ _ _⟩,?_,by simp⟩⟩
  ·rw[h'.cellAt (r*2) (by omega)];exact (Xc _ _ 128 r hr).1
  ·rw[h'.cellAt (r*2+1) (by omega)];exact (Xc _ _ 128 r hr).2
  ·rw[reg,List.getElem?_replicate,if_pos hr];rfl
theorem Pu.SC {l:List Nat} {B nn m:Nat} (hB:B=10 ^ nn) (hn:nn=4*m) (ht:Top l) (hv:¬ B<=val l):l.length<=m:=by
 by_cases h0:l=[]
 ·subst h0;simp
 ·have h1:=zQ ht h0
  have h2:val l < 10000 ^ m:=by rw[aaY,<- hn,<- hB];omega
  have h3:10000 ^ (l.length - 1) < 10000 ^ m:=Nat.lt_of_le_of_lt h1 h2
  have:=(Nat.pow_lt_pow_iff_right (by omega:1 < 10000)).1 h3
  omega
theorem RP (c:UInt8) (n:Int) (hn:n=(c.toNat:Int)) (wX:World) (b:Nat) (h:wX.cell? ⟨b,0,none⟩=some (.int .u8 n)):(convert 70 9 (.slice (some ⟨b,0,none⟩) 1 1)).run Tryz.prog wX=.ok (.string ⟨#[c]⟩) wX:=by
 subst hn
 refine run_convert_bytes_back (P:=Tryz.prog) _ 70 9 5 ⟨b,0,none⟩ 1 [c] Tryz.underlying70 Tryz.underlying5 Tryz.underlying9 ?_
 intro j hj
 have hj2:j=0:=by simpa using hj
 subst hj2
 have ha:(⟨b,0,none⟩:Addr).add 0=⟨b,0,none⟩:=by simp[Addr.add]
 rw[ha,h]
 simp
theorem one_cell (w:World) (n:Int):(w.alloc (.cells #[.int .u8 n] 5)).drew.cell? ⟨w.heap.size,0,none⟩=some (.int .u8 n):=World.cell?_alloc_mark w _ _ _ 0
theorem Pu.AO (nb:Bool) (l:List Nat):(num nb l).natAbs=val l:=by cases nb<;>simp[num]
theorem ac2 (y:Nat) (h:y < (⟨#[115,112,99]⟩:ByteArray).size):(⟨#[115,112,99]⟩:ByteArray)[y]'h=Lr y:=by
 have:y=0\/y=1\/y=2:=by have:y < 3:=h;omega
 rcases this with rfl | rfl | rfl<;>rfl
attribute [local go_sem] ac2
theorem AZ (B nn:Nat) (hB:B=10 ^ nn) (hnn:nn=8000) (v iv:Value) (l:List Stp) (ins:List Int) (base F7:Nat) (w:World) (hl:l.length<=3000) (hL:o8 w base v l) (hI:w.ownsRow F7 3 1 iv ins.length (mo ins)) (hn:ins.length<=1000) (hi:∀ x∈ins,-100 < x/\x < 100) (hg:∀ t∈l,Good ins.length t) :
  Calls Tryz.prog 65 #[v,iv] w fun e w'=>e=.returned (.tuple #[.string (play B ins l (List.replicate 128 0) ⟨#[]⟩).1,.int .i64 (play B ins l (List.replicate 128 0) ⟨#[]⟩).2])/\Mod (fun _=>False) w w':=by
 obtain⟨i0,hii,hz0,hz1,hz2⟩:=info_parts Tryz.infoNm
 obtain⟨ao,cap,rfl,-⟩:=aj hL
 obtain⟨io,nN,rfl,-⟩:=aj hI
 have HG:Hid (∀ t∈l,Good ins.length t):=hg
 have HI:Hid (∀ x∈ins,-100 < x/\x < 100):=hi
 have HLO:Hid (∀ (nb:Bool) (v:Value) (l:List Nat) (w:World),Nm w nb v l->l.length<=50000->Calls Tryz.prog 106 #[oz nb v,.int .i64 8000] w fun e w'=>e=.returned (.bool (decide (B<=val l)))/\Mod (fun _=>False) w w'):=fun nb v l w hN hl=>by
  have:=QD nb v l nn w hN hl (by omega)
  rw[<- hB,show ((nn:Nat):Int)=8000 by omega]at this
  exact this
 have HSH:Hid (∀ l:List Nat,Top l->¬ B<=val l->l.length<=2000):=fun l ht hv=>SC hB (by omega) ht hv
 clear hg hi hB hnn
 have HP:Hid (play B ins (l.drop 0) (List.replicate 128 0) ⟨#[]⟩=play B ins l (List.replicate 128 0) ⟨#[]⟩):=rfl
 generalize play B ins l (List.replicate 128 0) ⟨#[]⟩=pr at *
 go_in
 go_wp2_with (at_make;refine wpList_make_full _ rfl _ _ 150 rfl w.heap.size 154 i0 (.agg #[.bool false,.slice none 0 0]) 2 Tryz.underlying150 hii hz0 hz1 _ _ _ _ 128 rfl rfl (by omega) (by omega) (by rw[hz2];omega) (by unfold maxLen;omega) (by simp) ?_)
 intro W hown0 gK
 have hm0:=(Mod.refl (fun _=>False) w).grown gK (fun k hk _=>by cases hk)
 have hR0:Iu W w.heap.size (List.replicate 128 0):=Iu.start hown0
 clear gK hown0
 go_wp2_with fail
 go_loopw [7,8] (fun sv kv wr=>∃ (k:Nat) (R:List Int) (sb:ByteArray),k<=l.length/\sv=.string sb/\kv=.int .i64 k/\sb.size<=k/\Iu wr w.heap.size R/\Hid (play B ins (l.drop k) R sb=pr)/\Mod (fun _=>False) w wr) (fun _ kv _=>l.length - (intOf kv).toNat)
 case atStart=>exact⟨0,_,_,by omega,rfl,rfl,by simp[ByteArray.size],hR0,HP,hm0⟩
 case round =>
  clear hR0 hm0 HP
  obtain⟨k,R,sb,hk,rfl,rfl,hsb,hR,HP,hm⟩:=hrel
  by_cases hlt:k < l.length
  ·have qH:=hL.mod hm
   obtain⟨gb,rfl,c0,c1,c2,c3⟩:=qH.cell hlt
   have HD:Hid (l.drop k=l[k] :: l.drop (k+1)):=List.drop_eq_getElem_cons hlt
   have Xn:=HG.out _ (List.getElem_mem hlt)
   have Xn:Hid (Good ins.length l[k]):=Xn
   have Tx:=au hI hm (fun _ _ f=>f)
   obtain⟨⟨s0,s1,s2,s3⟩,h7,hx,-,-,-,hst⟩:=Xn.out
   have HST:Hid _:=hst
   clear hst qH
   generalize l[k]=t at *
   have hrl:=hR.lt
   have ix:(t.x:Int) < 128:=by omega
   by_cases h6:t.op < 6
   ·have eu:Mod (fun _=>False) wr (wr.alloc (.cells #[.int .i64 t.op,.int .i64 t.x,.int .i64 t.y,.int .i64 t.z] 152)):=(Mod.refl _ wr).alloc _
    have hv:=OA t w.heap.size 128 (.slice io ins.length nN) R ins F7 _ Xn.out h6 (hR.mod eu) (au Tx eu (fun _ _ f=>f)) hn HI.out
    have hSt:=nC wr t
    have LQ:Hid (B<=(Pu.valOf t R ins).natAbs->pr=(⟨#[]⟩,10)):=fun h=>by rw[<- HP.out,HD.out];exact GZ h6 h
    have LW:Hid (¬ B<=(Pu.valOf t R ins).natAbs->play B ins (l.drop (k+1)) (R.set t.x (Pu.valOf t R ins)) sb=pr):=fun h=>by rw[<- HP.out,HD.out];exact (wJ h6 h).symm
    have io6:(t.op:Int) < 6:=by omega
    have hRA:=hR.mod eu
    have Wz:Hid _:=zI hRA hSt
    clear HP HD HST hR Tx hRA hSt
    go_wp2_with fail
    refine hv.mono ?_
    rintro e w2 ⟨hm2,nb,v2,l2,rfl,FV,hx2,hl2⟩
    obtain⟨hRA,hSt⟩:=Wz.out
    have hR2:=hRA.mod hm2
    have Jw:xJ w2 wr.heap.size t:=hm2.keep hSt (fun f=>f)
    obtain⟨vo,dO,rfl,-⟩:=aj FV.2
    have uF:Mod (fun _=>False) w2 (w2.alloc (.cells #[.bool nb,.slice vo l2.length dO] 154)):=(Mod.refl _ w2).alloc _
    have hlo:=HLO.out nb _ l2 _ (FV.mod uF) (by omega)
    have Xv:Hid (num nb l2=Pu.valOf t R ins):=hx2
    have HTP:Hid (Top l2):=FV.1.2.1
    have uG:=hm.trans (eu.trans hm2)
    have ZG:Hid _:=zI (hR2.mod uF) (zI (FV.mod uF) (zI (uG.trans uF) (zI (bO w2 nb (.slice vo l2.length dO)) (uF.keep Jw (fun f=>f)))))
    clear hRA hSt hR2 Jw FV hx2 hv Wz eu hm hm2 uG uF
    go_wp2_with fail
    refine hlo.mono ?_
    rintro e w3 ⟨rfl,aC⟩
    obtain⟨k1,k2,k3,k4,k5⟩:=ZG.out
    have eP:=k1.mod aC
    have gD:=k2.mod aC
    have uX:=k3.trans aC
    have wh:pV w3 w2.heap.size nb (.slice vo l2.length dO):=aC.keep k4 (fun f=>f)
    have uD:xJ w3 wr.heap.size t:=aC.keep k5 (fun f=>f)
    clear ZG k1 k2 k3 k4 k5 hlo
    by_cases hbig:B<=val l2
    ·have HE:Hid (pr=(⟨#[]⟩,10)):=LQ.out (by rw[<- Xv.out,AO];exact hbig)
     go_wp2
     go_ret2
     exact⟨by rw[HE.out];rfl,uX⟩
    ·have BZ:Hid (play B ins (l.drop (k+1)) (R.set t.x (num nb l2)) sb=pr):=show _=_ by
      have:=LW.out (by rw[<- Xv.out,AO];exact hbig)
      rw[Xv.out];exact this
     have hl3:=HSH.out l2 HTP.out hbig
     have eB:=eP.set hx gD hl3
     have aO:=BJ uX w.heap.size (t.x*2) (.bool nb) (.slice vo l2.length dO) (Nat.le_refl _)
     obtain⟨nx,u,a,y0,y1,-⟩:=eP.2.2 t.x hx
     have y2:=eP.fz (t.x*2)
     have y3:=eP.fz (t.x*2+1)
     have z0:=wh.c0
     have z1:=wh.c1
     have e1:=uD.c1
     have HH4:Hid _:=zI eB aO
     clear eB aO eP gD uX wh uD aC LQ LW
     go_wp2
     go_roundw
     case rel=>exact⟨k+1,_,sb,by omega,rfl,by go_num,by omega,HH4.out.1,BZ,HH4.out.2⟩
     case measure=>simp[intOf];omega
   ·by_cases K3:t.op=6
    ·have eu:Mod (fun _=>False) wr (wr.alloc (.cells #[.int .i64 t.op,.int .i64 t.x,.int .i64 t.y,.int .i64 t.z] 152)):=(Mod.refl _ wr).alloc _
     obtain⟨nx,u,a,y0,y1,hN,UR,hla⟩:=hR.2.2 t.x hx
     have hS:=wV nx u a _ (hN.mod eu) (by omega)
     obtain⟨uo,kZ,rfl,-⟩:=aj hN.2
     have b6:¬ (t.op:Int) < 6:=by omega
     have b66:((t.op:Int) == 6)=true:=bN (m:=6) K3
     clear hN HST Tx
     by_cases hpos:0 < reg R t.x
     ·have BZ:Hid (play B ins (l.drop (k+1)) R (sb++⟨#[49]⟩)=pr):=show _=_ by
       rw[<- HP.out,HD.out,iH K3,if_pos hpos]
      have hsg:jF (num nx a)=1:=by unfold jF;rw[UR,if_neg (by omega),if_neg (by omega)]
      have hsz:(sb++(⟨#[49]⟩:ByteArray)).size<=k+1:=by rw[ByteArray.size_append];have:(⟨#[49]⟩:ByteArray).size=1:=rfl;omega
      rw[hsg]at hS
      clear HP HD hsg UR K3
      go_wp2_with fail
      refine hS.mono ?_
      rintro e w2 ⟨rfl,hm2⟩
      have hR2:=hR.mod (eu.trans hm2)
      have aC:=hm.trans (eu.trans hm2)
      clear hS hR hm eu hm2
      go_wp2
      go_roundw
      case rel=>exact⟨k+1,R,_,by omega,rfl,by go_num,hsz,hR2,BZ,aC⟩
      case measure=>simp[intOf];omega
     ·have BZ:Hid (play B ins (l.drop (k+1)) R (sb++⟨#[48]⟩)=pr):=show _=_ by
       rw[<- HP.out,HD.out,iH K3,if_neg hpos]
      have hsg:jF (num nx a)<=0:=by unfold jF;rw[UR];split;omega;split;omega;omega
      have hsz:(sb++(⟨#[48]⟩:ByteArray)).size<=k+1:=by rw[ByteArray.size_append];have:(⟨#[48]⟩:ByteArray).size=1:=rfl;omega
      generalize jF (num nx a)=sg at *
      clear HP HD UR K3
      go_wp2_with fail
      refine hS.mono ?_
      rintro e w2 ⟨rfl,hm2⟩
      have hR2:=hR.mod (eu.trans hm2)
      have aC:=hm.trans (eu.trans hm2)
      clear hS hR hm eu hm2
      go_wp2
      go_roundw
      case rel=>exact⟨k+1,R,_,by omega,rfl,by go_num,hsz,hR2,BZ,aC⟩
      case measure=>simp[intOf];omega
    ·have eu:Mod (fun _=>False) wr (wr.alloc (.cells #[.int .i64 t.op,.int .i64 t.x,.int .i64 t.y,.int .i64 t.z] 152)):=(Mod.refl _ wr).alloc _
     obtain⟨nx,u,a,y0,y1,hN,UR,hla⟩:=hR.2.2 t.x hx
     have hS:=wV nx u a _ (hN.mod eu) (by omega)
     obtain⟨uo,kZ,rfl,-⟩:=aj hN.2
     have b6:¬ (t.op:Int) < 6:=by omega
     have b66:((t.op:Int) == 6)=false:=aF (m:=6) K3
     have hSt:=nC wr t
     clear hN Tx
     by_cases hzr:reg R t.x=0
     ·have HE:Hid (pr=(sb++⟨#[Lr t.y]⟩++dec (t.z:Int),0)):=show pr=_ by
       rw[<- HP.out,HD.out,sM (by omega) hzr]
      have hsg:jF (num nx a)=0:=by unfold jF;rw[UR,if_neg (by omega),if_pos hzr]
      obtain⟨hy3,MV⟩:=HST.out (by omega)
      rw[hsg]at hS
      clear HP HD hsg UR K3 HST
      have HSt:Hid _:=hSt
      clear hSt
      go_wp2_with fail
      refine hS.mono ?_
      rintro e w2 ⟨rfl,hm2⟩
      have Jw:xJ w2 wr.heap.size t:=hm2.keep HSt.out (fun f=>f)
      have aC:=hm.trans (eu.trans hm2)
      have e2:=Jw.c2
      have e3:=Jw.c3
      clear hS hR hm eu hm2 HSt
      have hds:=zY (t.z:Int)
      have hcv:=RP (Lr t.y) _ rfl
      have hlw:wr.heap.size < w2.heap.size:=lt_of_block Jw
      generalize hsc:Lr t.y=sc at *
      clear Jw
      go_wp2_with fail
      go_region_with (go_at_call 108;refine (yR (t.z:Int) _ (by omega) (by omega)).mono ?_;rintro e w4 ⟨rfl,aO⟩;(try have hc4:=aO.cell (one_cell w2 (sc.toNat:Int)));(try have he2:=aO.cell (a:=w2.drew) e2);(try have he2:=aO.cell (((Mod.refl (fun _=>False) w2).alloc (.cells #[.int .u8 (sc.toNat:Int)] 5)).drew.cell e2)))
      all_goals
       go_wp2
       go_ret2
       refine⟨by rw[HE.out];rfl,?_⟩
       first
        | exact aC.drew.trans aO
        | exact (aC.alloc _).drew.trans aO
        | exact (aC.drew.trans aO).alloc _
     ·have BZ:Hid (play B ins (l.drop (k+1)) R sb=pr):=show _=_ by
       rw[<- HP.out,HD.out,wI (by omega) hzr]
      have hsg:(jF (num nx a) == 0)=false:=by
       have:jF (num nx a)≠0:=by
        unfold jF;rw[UR]
        by_cases hq:reg R t.x < 0
        ·rw[if_pos hq];omega
        ·rw[if_neg hq,if_neg hzr];omega
       simpa using this
      generalize jF (num nx a)=sg at *
      clear HP HD UR K3 HST hSt
      go_wp2_with fail
      refine hS.mono ?_
      rintro e w2 ⟨rfl,hm2⟩
      have hR2:=hR.mod (eu.trans hm2)
      have aC:=hm.trans (eu.trans hm2)
      clear hS hR hm eu hm2
      go_wp2
      go_roundw
      case rel=>exact⟨k+1,R,sb,by omega,rfl,by go_num,by omega,hR2,BZ,aC⟩
      case measure=>simp[intOf];omega
  ·have hks:l.drop k=[]:=List.drop_eq_nil_of_le (by omega)
   have HE:Hid (pr=(sb,0)):=show pr=_ by rw[<- HP.out,hks];rfl
   clear hks
   go_wp2
   go_ret2
   exact⟨by rw[HE.out];rfl,hm⟩
end Go.Proofs.YtmnfndpbblpjiabGreatDoor

/- The document's Exec. -/
namespace Go.Proofs.YtmnfndpbblpjiabGreatDoor
open Go.RowKit Pu
attribute [local go_sem] yN
theorem Kh (s inp:ByteArray) (w:World) (hs:8006 < s.size\/140 < inp.size) (hm:s.size<=maxLen) (hm2:inp.size<=maxLen):Calls Tryz.prog 38 #[.string s,.string inp] w fun e w'=>e=.returned (.tuple #[.string ⟨#[]⟩,.int .i64 1])/\w=w':=by
 unfold maxLen at hm hm2
 by_cases h1:8006 < s.size
 ·have i1:(8006:Int) < (s.size:Int):=by omega
  clear hs
  go_in
  go_wp2
  go_ret2
  exact⟨rfl,rfl⟩
 ·have i1:¬ (8006:Int) < (s.size:Int):=by omega
  have i2:(140:Int) < (inp.size:Int):=by omega
  clear hs
  go_in
  go_wp2
  go_ret2
  exact⟨rfl,rfl⟩
theorem Oc (B nn:Nat) (hB:B=10 ^ nn) (hnn:nn=8000) (s inp:ByteArray) (w:World) (hs:s.size<=8006) (hi:inp.size<=140):Calls Tryz.prog 38 #[.string s,.string inp] w fun e w'=>e=.returned (.tuple #[.string (exe B s inp).1,.int .i64 (exe B s inp).2])/\Mod (fun _=>False) w w':=by
 have i1:¬ (8006:Int) < (s.size:Int):=by omega
 have i2:¬ (140:Int) < (inp.size:Int):=by omega
 have HB:Hid (B=10 ^ nn):=hB
 have KP:Hid (nn=8000):=hnn
 clear hB hnn
 by_cases hv:(lU s).1=8
 ·have HE:Hid (exe B s inp=(⟨#[]⟩,8)):=KW hv
  have HV:Hid ((lU s).1=8):=hv
  clear hv
  generalize exe B s inp=ex at *
  go_in
  go_wp2_with fail
  refine (gW s w hs).mono ?_
  rintro e w1 ⟨he,hm1⟩
  rw[HV.out]at he
  generalize (lU s).2=v2 at *
  subst he
  go_wp2
  go_ret2
  exact⟨by rw[HE.out];rfl,hm1⟩
 ·have hv0:lU s=(0,0):=by
   cases hb:aW s with
   | false=>exact absurd (by rw[xq hb]) hv
   | true =>
    unfold lU at hv ⊢
    rw[hb]at hv ⊢
    simp only[Bool.true_eq_false,if_false]at hv ⊢
    split at hv
    ·exact absurd rfl hv
    ·rfl
  have HV:Hid (lU s=(0,0)):=hv0
  obtain⟨hb,hall⟩:=Dv hv0
  obtain⟨h6,-,hn2,-,-,hr2,-⟩:=kD hb
  have HG:Hid (∀ t∈steps s,Good (g s 3) t):=fun t ht=>by
   obtain⟨j,hj,rfl⟩:=List.getElem_of_mem ht
   rw[jI]
   exact vG (kN s j) hr2 (hall j (by rw[steps,bU]at hj;exact hj))
  have HLen:Hid ((steps s).length=fI s):=bU s _
  have h3:3 < s.size:=by omega
  have j3:(3:Int) < (s.size:Int):=by omega
  have Tm:Hid (g s 3=(s[3]'h3).toNat):=dB h3
  have l3:=(s[3]'h3).toNat_lt
  clear hv hv0 hb hall
  cases hin:iG inp with
  | none =>
   have HE:Hid (exe B s inp=(⟨#[]⟩,9)):=PO HV.out hin
   have TM:Hid (iG inp=none):=hin
   clear hin
   generalize exe B s inp=ex at *
   go_in
   go_wp2_with fail
   refine (gW s w hs).mono ?_
   rintro e w1 ⟨he,hm1⟩
   rw[HV.out]at he
   subst he
   go_wp2_with fail
   refine (nP inp w1 (Nat.le_trans hi (by decide))).mono ?_
   rintro e w2 ⟨hm2,he⟩
   rw[TM.out]at he
   simp only at he
   subst he
   have hm:=hm1.trans hm2
   clear hm1 hm2
   go_wp2
   go_ret2
   exact⟨by rw[HE.out];rfl,hm⟩
  | some l =>
   have TM:Hid (iG inp=some l):=hin
   have HR:Hid (∀ x∈l,-100 < x/\x < 100):=nO hin
   clear hin
   by_cases hl:l.length=g s 3
   ·have HE:Hid (exe B s inp=play B l (steps s) (List.replicate 128 0) ⟨#[]⟩):=PS HV.out TM.out hl
    have HLL:Hid (l.length=g s 3):=hl
    have hbq:((l.length:Int) != ((s[3]'h3).toNat:Int))=false:=by rw[Tm.out]at hl;simp;omega
    have hll:l.length<=1000:=by rw[hl,Tm.out];omega
    clear hl
    generalize exe B s inp=ex at *
    go_in
    go_wp2_with fail
    refine (gW s w hs).mono ?_
    rintro e w1 ⟨he,hm1⟩
    rw[HV.out]at he
    subst he
    go_wp2_with fail
    refine (nP inp w1 (Nat.le_trans hi (by decide))).mono ?_
    rintro e w2 ⟨hm2,he⟩
    rw[TM.out]at he
    simp only at he
    obtain⟨v,rfl,hown⟩:=he
    obtain⟨vo,dO,rfl,-⟩:=aj hown
    have hm:=hm1.trans hm2
    clear hm1 hm2
    go_wp2_with fail
    refine (uh s w2 hs).mono ?_
    rintro e w3 ⟨aC,v3,rfl,hL⟩
    have hown3:=au hown aC (fun _ _ f=>f)
    have aO:=hm.trans aC
    clear hown hm aC
    go_wp2_with fail
    refine (AZ B nn HB.out KP.out v3 _ (steps s) l _ _ w3 (by rw[HLen.out];omega) hL hown3 hll HR.out (fun t ht=>by rw[HLL.out];exact HG.out t ht)).mono ?_
    rintro e w4 ⟨rfl,jH⟩
    have gy:=aO.trans jH
    clear aO jH hown3 hL
    go_wp2
    go_ret2
    exact⟨by rw[HE.out];rfl,gy⟩
   ·have HE:Hid (exe B s inp=(⟨#[]⟩,9)):=MC HV.out TM.out hl
    have hbq:((l.length:Int) != ((s[3]'h3).toNat:Int))=true:=by rw[Tm.out]at hl;simp;omega
    clear hl
    generalize exe B s inp=ex at *
    go_in
    go_wp2_with fail
    refine (gW s w hs).mono ?_
    rintro e w1 ⟨he,hm1⟩
    rw[HV.out]at he
    subst he
    go_wp2_with fail
    refine (nP inp w1 (Nat.le_trans hi (by decide))).mono ?_
    rintro e w2 ⟨hm2,he⟩
    rw[TM.out]at he
    simp only at he
    obtain⟨v,rfl,hown⟩:=he
    obtain⟨vo,dO,rfl,-⟩:=aj hown
    have hm:=hm1.trans hm2
    clear hm1 hm2
    go_wp2
    go_ret2
    exact⟨by rw[HE.out];rfl,hm⟩
end Go.Proofs.YtmnfndpbblpjiabGreatDoor

/- The document's head of a code, and its Verify. -/
import Derived.Test.YtmnfndpbblpjiabGreatDoorZx07
set_option maxHeartbeats 800000
set_option maxRecDepth 100000
namespace Go.Proofs.YtmnfndpbblpjiabGreatDoor
open Go.RowKit Pu
theorem Pu.Y8 {s:ByteArray} (h6:6<=s.size):((s.extract 0 2).toList == [82,85])=(decide (g s 0=82) && decide (g s 1=85)):=by
 have h0:0 < s.size:=by omega
 have h1:1 < s.size:=by omega
 have e:(s.extract 0 2).toList=[s[0],s[1]]:=by
  have e1:s.extract 0 2=⟨[s[0],s[1]].toArray⟩:=by
   apply ByteArray.ext
   rw[ByteArray.data_extract]
   apply Array.ext
   ·have:s.data.size=s.size:=rfl
    simp;omega
   ·intro i h1' h2'
    have hi:i < 2:=by simpa using h2'
    match i,hi with
    | 0,_=>simp;rfl
    | 1,_=>simp;rfl
  rw[e1,ByteArray.toList_mk]
 rw[e,dB h0,dB h1,Bool.eq_iff_iff]
 simp[UInt8.toNat_inj.symm]
theorem CK (s:ByteArray) (w:World) (hs:s.size<=8006):Calls Tryz.prog 101 #[.string s] w fun e w'=>e=.returned (.bool (aW s))/\Mod (fun _=>False) w w':=by
 by_cases h6:6<=s.size
 ·have h2:2 < s.size:=by omega
  have h3:3 < s.size:=by omega
  have h4:4 < s.size:=by omega
  have h5:5 < s.size:=by omega
  have i4:(4:Int) < (s.size:Int):=by omega
  have i5:(5:Int) < (s.size:Int):=by omega
  have hsm:∀ i (h:i < s.size),s[i].toNat < 256:=fun i h=>s[i].toNat_lt
  have l2:=hsm 2 (by omega)
  have l3:=hsm 3 (by omega)
  have l4:=hsm 4 (by omega)
  have l5:=hsm 5 (by omega)
  clear hsm
  have HB:Hid (aW s=(((s.extract 0 2).toList == [82,85]) && decide (1<=(s[2]'h2).toNat) && decide ((s[2]'h2).toNat<=128) && decide ((s[3]'h3).toNat<=32) && decide ((s[5]'h5).toNat*256+(s[4]'h4).toNat<=2000) && decide (s.size=6+4*((s[5]'h5).toNat*256+(s[4]'h4).toNat)))):=show aW s=_ by
   rw[Y8 h6];simp only[aW,dB (show 2 < s.size by omega),dB (show 3 < s.size by omega),dB (show 4 < s.size by omega),dB (show 5 < s.size by omega)];simp[h6]
  generalize aW s=bb at *
  cases hru:((s.extract 0 2).toList == [82,85]) with
  | false =>
   have HR:Hid (bb=false):=show bb=false by rw[HB.out,hru];simp
   go_in
   go_wp2
   go_ret
   exact⟨by rw[HR.out];rfl,Mod.refl _ _⟩
  | true =>
   have HB2:Hid (bb=(decide (1<=(s[2]'h2).toNat) && decide ((s[2]'h2).toNat<=128) && decide ((s[3]'h3).toNat<=32) && decide ((s[5]'h5).toNat*256+(s[4]'h4).toNat<=2000) && decide (s.size=6+4*((s[5]'h5).toNat*256+(s[4]'h4).toNat)))):=show bb=_ by rw[HB.out,hru];simp
   clear HB
   by_cases a1:1<=(s[2]'h2).toNat
   ·by_cases a2:(s[2]'h2).toNat<=128
    ·by_cases a3:(s[3]'h3).toNat<=32
     ·by_cases a4:(s[5]'h5).toNat*256+(s[4]'h4).toNat<=2000
      ·by_cases a5:s.size=6+4*((s[5]'h5).toNat*256+(s[4]'h4).toNat)
       ·have HR:Hid (bb=true):=show bb=true by rw[HB2.out];simp[a1,a2,a3,a4];exact a5
        have hb:((s.size:Int) == (6:Int)+(4:Int)*(((s[5]'h5).toNat:Int)*(256:Int)+((s[4]'h4).toNat:Int)))=true:=by rw[beq_iff_eq];omega
        clear a5 HB2
        go_in
        go_wp2_with fail
        go_quiet (fail)
        go_wp2
        go_ret
        exact⟨by rw[HR.out];rfl,(Mod.refl _ _).drewN _⟩
       ·have HR:Hid (bb=false):=show bb=false by rw[HB2.out];simp[a1,a2,a3,a4];exact a5
        have hb:((s.size:Int) == (6:Int)+(4:Int)*(((s[5]'h5).toNat:Int)*(256:Int)+((s[4]'h4).toNat:Int)))=false:=by rw[beq_eq_false_iff_ne];omega
        clear HB2
        go_in
        go_wp2_with fail
        go_quiet (fail)
        go_wp2
        go_ret
        exact⟨by rw[HR.out];rfl,(Mod.refl _ _).drewN _⟩
      ·have HR:Hid (bb=false):=show bb=false by rw[HB2.out];simp[a4]
       clear HB2
       go_in
       go_wp2_with fail
       go_quiet (fail)
       go_wp2
       go_ret
       exact⟨by rw[HR.out];rfl,(Mod.refl _ _).drewN _⟩
     ·have HR:Hid (bb=false):=show bb=false by rw[HB2.out];simp[a3]
      clear HB2
      go_in
      go_wp2_with fail
      go_quiet (fail)
      go_wp2
      go_ret
      exact⟨by rw[HR.out];rfl,(Mod.refl _ _).drewN _⟩
    ·have HR:Hid (bb=false):=show bb=false by rw[HB2.out];simp[a2]
     clear HB2
     go_in
     go_wp2_with fail
     go_quiet (fail)
     go_wp2
     go_ret
     exact⟨by rw[HR.out];rfl,(Mod.refl _ _).drewN _⟩
   ·have HR:Hid (bb=false):=show bb=false by rw[HB2.out];simp[a1]
    clear HB2
    go_in
    go_wp2_with fail
    go_quiet (fail)
    go_wp2
    go_ret
    exact⟨by rw[HR.out];rfl,(Mod.refl _ _).drewN _⟩
 ·have HR:Hid (aW s=false):=show aW s=false by simp[aW,h6]
  go_in
  go_wp2
  go_ret
  exact⟨by rw[HR.out];rfl,Mod.refl _ _⟩
attribute [local go_sem] yN
theorem wT (s:ByteArray) (w:World) (hs:8006 < s.size) (hm:s.size<=maxLen):Calls Tryz.prog 60 #[.string s] w fun e w'=>e=.returned (.tuple #[.int .i64 1,.int .i64 0])/\w=w':=by
 unfold maxLen at hm
 go_in
 go_wp2
 go_ret2
 exact⟨rfl,rfl⟩
theorem gW (s:ByteArray) (w:World) (hs:s.size<=8006):Calls Tryz.prog 60 #[.string s] w fun e w'=>e=.returned (.tuple #[.int .i64 (lU s).1,.int .i64 (lU s).2])/\Mod (fun _=>False) w w':=by
 cases hb:aW s with
 | false =>
  have HV:Hid (lU s=(8,0)):=xq hb
  go_in
  go_wp2_with fail
  refine (CK s w hs).mono ?_
  rintro e w1 ⟨rfl,hm1⟩
  go_wp2
  go_ret2
  exact⟨by rw[HV.out];rfl,hm1⟩
 | true =>
  obtain⟨h6,-,hn,-,-,-,-⟩:=kD hb
  have HB:Hid (aW s=true):=hb
  have hq:aW s=true:=hb
  clear hb
  have h2:2 < s.size:=by omega
  have h3:3 < s.size:=by omega
  have j2:(2:Int) < (s.size:Int):=by omega
  have j3:(3:Int) < (s.size:Int):=by omega
  have HG2:Hid (g s 2=(s[2]'h2).toNat):=dB h2
  have Tm:Hid (g s 3=(s[3]'h3).toNat):=dB h3
  have l2:=rW s 2
  have l3:=rW s 3
  have hlen:(steps s).length=fI s:=bU s _
  have HLen:Hid ((steps s).length=fI s):=hlen
  go_in
  go_wp2_with fail
  refine (CK s w hs).mono ?_
  rintro e w1 ⟨rfl,hm1⟩
  clear hlen
  go_wp2_with fail
  refine (uh s w1 hs).mono ?_
  rintro e w2 ⟨hm2,v,rfl,hL⟩
  clear hq
  have hm:=hm1.trans hm2
  clear hm1 hm2
  unfold o8 at hL
  rw[HLen.out]at hL
  obtain⟨ao,cap,rfl,-⟩:=aj hL
  go_wp2_with fail
  go_loopw [6] (fun i wr=>∃ k:Nat,k<=fI s/\i=.int .i64 k/\wr.ownsRow w1.heap.size 152 4 (.slice ao (fI s) cap) (fI s) (mh (steps s))/\Mod (fun _=>False) w wr/\Hid (∀ j,j < k->dI (steps s) j (bV s j) (g s 2) (g s 3)=true)) (fun i _=>fI s - (intOf i).toNat)
  case atStart=>exact⟨0,by omega,rfl,hL,hm,fun j hj=>by omega⟩
  case round =>
   clear hL hm
   obtain⟨k,hk,rfl,hL,hm,HN⟩:=hrel
   by_cases hlt:k < fI s
   ·have hLT:o8 wr w1.heap.size (.slice ao (fI s) cap) (steps s):=by unfold o8;rw[HLen.out];exact hL
    have hkl:k < (steps s).length:=by rw[HLen.out];exact hlt
    have hR:Calls Tryz.prog 102 #[.slice ao (fI s) cap,.int .i64 k,.int .i64 (s[2]'h2).toNat,.int .i64 (s[3]'h3).toNat] wr.drew fun e w'=>e=.returned (.bool (dI (steps s) k (bV s k) (g s 2) (g s 3)))/\Mod (fun _=>False) wr w':=by
     have:=Od (.slice ao (fI s) cap) (steps s) k (g s 2) (g s 3) w1.heap.size wr.drew (by rw[HLen.out];omega) hkl (au hLT (Mod.refl (fun _=>False) wr).drew (fun _ _ f=>f)) (tq s) l2 l3
     rw[jI,HG2.out,Tm.out]at this
     rw[HG2.out,Tm.out]
     exact this.mono fun e w' ⟨h1,h2⟩=>⟨h1,(Mod.refl (fun _=>False) wr).drew.trans h2⟩
    have HR:Hid (Calls Tryz.prog 102 #[.slice ao (fI s) cap,.int .i64 k,.int .i64 (s[2]'h2).toNat,.int .i64 (s[3]'h3).toNat] wr.drew fun e w'=>e=.returned (.bool (dI (steps s) k (bV s k) (g s 2) (g s 3)))/\Mod (fun _=>False) wr w'):=hR
    clear hR hLT hkl
    have HV:Hid (dI (steps s) k (bV s k) (g s 2) (g s 3)=false->lU s=(8,1+k)):=fun h=>Tg HB.out hlt h HN.out
    have KP:Hid (dI (steps s) k (bV s k) (g s 2) (g s 3)=true->∀ j,j < k+1->dI (steps s) j (bV s j) (g s 2) (g s 3)=true):=fun h j hj=>by
     by_cases e:j=k
     ·subst e;exact h
     ·exact HN.out j (by omega)
    generalize dI (steps s) k (bV s k) (g s 2) (g s 3)=rb at *
    go_wp2_with fail
    go_region_held3 (fun _=>True) (trivial) ((go_at_call 102;refine HR.out.mono ?_;rintro e w3 ⟨rfl,aC⟩))
    all_goals
     have aO:=hm.trans aC
     have hL4:=au hL aC (fun _ _ f=>f)
     clear hm aC hL
     cases rb with
     | false =>
      have Xq:Hid (lU s=(8,1+k)):=HV.out rfl
      go_wp2
      go_ret2
      exact⟨by rw[Xq.out];rfl,aO⟩
     | true =>
      have Ce:=KP.out rfl
      go_wp2
      go_roundw
      case rel=>exact⟨k+1,by omega,by go_num,hL4,aO,Ce⟩
      case measure=>simp[intOf];omega
   ·have HV:Hid (lU s=(0,0)):=KM HB.out (fun j hj=>HN.out j (by omega))
    go_wp2
    go_ret2
    exact⟨by rw[HV.out];rfl,hm⟩
end Go.Proofs.YtmnfndpbblpjiabGreatDoor

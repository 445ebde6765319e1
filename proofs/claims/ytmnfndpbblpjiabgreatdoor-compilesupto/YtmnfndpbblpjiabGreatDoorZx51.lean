/- The program's Shrink, and a step that asks for it. -/
import Derived.ProofKit
import Derived.Deep.Slices
import Derived.Lib.SmallJoins
import Derived.Test.YtmnfndpbblpjiabGreatDoorCards
import Derived.Test.YtmnfndpbblpjiabGreatDoorTie
import Derived.OpenShut
import Derived.Deep.DeepHandedRow
import Derived.Lib.LaidTab
import Derived.Test.YtmnfndpbblpjiabGreatDoorZx28
import Derived.Test.YtmnfndpbblpjiabGreatDoorZx50
set_option maxHeartbeats 3200000
set_option maxRecDepth 100000
namespace Go.Proofs.YtmnfndpbblpjiabGreatDoor
open Go.RowKit Pu
theorem Hw (s:ByteArray) (w:World) (hs:8006 < s.size) (hm:s.size<=maxLen):Calls Tryz.prog 40 #[.string s] w fun e w'=>e=.returned (.tuple #[.string ⟨#[]⟩,.int .i64 1])/\Mod (fun _=>False) w w':=by
 have hd:=FB s w hs hm
 go_in
 go_wp2_with fail
 refine hd.mono ?_
 rintro e w1 ⟨rfl,hm1⟩
 go_wp2
 go_ret2
 exact⟨rfl,hm1.alloc _⟩
theorem Ku (s:ByteArray) (w:World) (hs:s.size<=8006) (hv:(lU s).1=8):Calls Tryz.prog 40 #[.string s] w fun e w'=>e=.returned (.tuple #[.string ⟨#[]⟩,.int .i64 8])/\Mod (fun _=>False) w w':=by
 have HV:Hid ((lU s).1=8):=hv
 clear hv
 go_in
 go_wp2_with fail
 refine (vS s w hs).mono ?_
 rintro e w1 ⟨⟨a,b,ao,n,cap,he,-⟩,hm1⟩
 rw[HV.out]at he
 generalize (lU s).2=v2 at *
 subst he
 go_wp2
 go_ret2
 exact⟨rfl,hm1.alloc _⟩
theorem Kt (s:ByteArray) (w:World) (hs:s.size<=8006) (hv:lU s=(0,0)):Calls Tryz.prog 40 #[.string s] w fun e w'=>e=.returned (.tuple #[.string (shr s),.int .i64 0])/\Mod (fun _=>False) w w':=by
 have HV:Hid (lU s=(0,0)):=hv
 clear hv
 have HLen:Hid ((steps s).length=fI s):=bU s _
 have Zu:Hid (∀ t∈steps s,Small t):=tq s
 go_in
 go_wp2_with fail
 refine (vS s w hs).mono ?_
 rintro e w1 ⟨⟨a,b,ao,n,cap,he,hok⟩,hm1⟩
 rw[HV.out]at he hok
 subst he
 obtain⟨rfl,rfl,hb,-,hL⟩:=hok rfl
 have HE:Hid (shr s=⟨(joined (g s 2) (g s 3) (cO (steps s) (aV (steps s)) (steps s).length)).toArray⟩):=show shr s=_ by rw[HLen.out];exact Kr hb
 have hl:(steps s).length<=3000:=by rw[HLen.out];have:=(kD hb).2.2.1;omega
 have HKM:Hid (∀ t∈cO (steps s) (aV (steps s)) (steps s).length,Small t):=fun t ht=>Zu.out t (JI (Nat.le_refl _) t ht)
 have ZI:Hid ((cO (steps s) (aV (steps s)) (steps s).length).length<=3000):=show _<=_ by
  rw[Al];have:=Po (aV (steps s)) (steps s).length;omega
 have l2:=rW s 2
 have l3:=rW s 3
 generalize g s 2=r2 at *
 generalize g s 3=r3 at *
 clear hb
 have hpa:(w1.alloc (.cells #[.int .u8 r2,.int .u8 r3,.slice ao n cap] 63)).heap[w1.heap.size]?=some (.cells #[.int .u8 r2,.int .u8 r3,.slice ao n cap] 63 (0,0)):=heap_alloc_new w1 _
 have hma:=hm1.alloc (.cells #[.int .u8 r2,.int .u8 r3,.slice ao n cap] 63)
 have FU:=hL.mod ((Mod.refl (fun _=>False) w1).alloc (.cells #[.int .u8 r2,.int .u8 r3,.slice ao n cap] 63))
 have hs1:=hm1.size
 have HH:Hid _:=zI hpa (zI hma FU)
 clear hpa hma FU hL hm1
 go_wp2_with fail
 generalize w1.alloc (.cells #[.int .u8 r2,.int .u8 r3,.slice ao n cap] 63)=w2 at *
 obtain⟨hpa,hma,FU⟩:=HH.out
 clear HH
 refine (QB _ (steps s) _ w2 hl FU Zu.out).mono ?_
 rintro e w3 ⟨aC,u,rfl,hK⟩
 obtain⟨uo,kZ,rfl,-⟩:=aj hK
 have hp3:=aC.keep hpa (fun f=>f)
 have uX:=hma.trans aC
 obtain⟨c0,c1,c2⟩:=cells3 hp3
 have f2:=dN hp3 2
 have acQ:=lt_of_block hpa
 generalize cO (steps s) (aV (steps s)) (steps s).length=q at *
 have hp4:=EB (z':=.slice uo q.length kZ) hp3
 obtain⟨d0,d1,d2⟩:=cells3 hp4
 have aO:Mod (fun _=>False) w (w3.setCell ⟨w1.heap.size,2,none⟩ (.slice uo q.length kZ)):=uX.setCell ⟨w1.heap.size,2,none⟩ (.slice uo q.length kZ) (fun h=>absurd h (by show ¬ w1.heap.size < w.heap.size;omega))
 have hK4:gM (w3.setCell ⟨w1.heap.size,2,none⟩ (.slice uo q.length kZ)) w2.heap.size (.slice uo q.length kZ) q :=
  au hK ((Mod.refl (fun k=>k=w1.heap.size) w3).setCell ⟨w1.heap.size,2,none⟩ (.slice uo q.length kZ) (fun _=>rfl)) (fun g h1 h2=>by omega)
 have HX:Hid _:=zI d0 (zI d1 (zI d2 (zI aO hK4)))
 clear d0 d1 d2 aO hK4 hK hp4 hp3 hpa hma aC uX FU
 go_wp2_with fail
 obtain⟨-,-,-,aO,hK4⟩:=HX.out
 refine (Gl _ q r2 r3 _ _ ZI.out hK4 HKM.out l2 l3).mono ?_
 rintro e w5 ⟨rfl,jH⟩
 have gy:=aO.trans jH
 clear HX hK4 aO jH
 go_wp2
 go_ret2
 exact⟨by rw[HE.out];rfl,gy⟩
theorem Pu.Ti (s:ByteArray):(lU s).1=8\/(lU s=(0,0)/\aW s=true):=by
 cases hb:aW s with
 | false=>exact .inl (by rw[xq hb])
 | true =>
  unfold lU
  rw[hb]
  simp only[Bool.true_eq_false,if_false]
  split
  ·exact .inl rfl
  ·exact .inr ⟨rfl,trivial⟩
theorem ME (s inp:ByteArray) (w:World) (hs:8006 < s.size\/140 < inp.size) (hm:s.size<=maxLen) (hm2:inp.size<=maxLen):Calls Tryz.prog 26 #[.string s,.string inp] w fun e w'=>e=.returned (.tuple #[.string ⟨#[]⟩,.int .i64 1])/\w=w':=by
 unfold maxLen at hm hm2
 by_cases h1:8006 < s.size
 ·have i1:(8006:Int) < (s.size:Int):=by omega
  clear hs
  go_in
  go_wp2
  go_ret2
  exact⟨rfl,rfl⟩
 ·have i1:¬ (8006:Int) < (s.size:Int):=by omega
  have i2:(140:Int) < (inp.size:Int):=by omega
  clear hs
  go_in
  go_wp2
  go_ret2
  exact⟨rfl,rfl⟩
theorem PU (B nn:Nat) (hB:B=10 ^ nn) (hnn:nn=8000) (s inp:ByteArray) (w:World) (hs:s.size<=8006) (hi:inp.size<=140):Calls Tryz.prog 26 #[.string s,.string inp] w fun e w'=>e=.returned (.tuple #[.string (exe B s inp).1,.int .i64 (exe B s inp).2])/\Mod (fun _=>False) w w':=by
 have i1:¬ (8006:Int) < (s.size:Int):=by omega
 have i2:¬ (140:Int) < (inp.size:Int):=by omega
 have HB:Hid (B=10 ^ nn):=hB
 have KP:Hid (nn=8000):=hnn
 clear hB hnn
 rcases Ti s with hv | ⟨hv,hbg⟩
 ·have HE:Hid (exe B s inp=(⟨#[]⟩,8)):=KW hv
  have HV:Hid ((lU s).1=8):=hv
  clear hv
  generalize exe B s inp=ex at *
  go_in
  go_wp2_with fail
  refine (vS s w hs).mono ?_
  rintro e w1 ⟨⟨a,b,ao,n,cap,he,-⟩,hm1⟩
  rw[HV.out]at he
  generalize (lU s).2=v2 at *
  subst he
  have hm:=hm1.alloc (.cells #[.int .u8 a,.int .u8 b,.slice ao n cap] 63)
  go_wp2
  go_ret2
  exact⟨by rw[HE.out];rfl,hm⟩
 ·have HV:Hid (lU s=(0,0)):=hv
  have hn2:fI s<=2000:=(kD hbg).2.2.1
  have hr2:g s 2<=128:=(kD hbg).2.2.2.2.2.1
  have HLen:Hid ((steps s).length=fI s):=bU s _
  have HG:Hid (∀ t∈steps s,Good (g s 3) t):=fun t ht=>by
   obtain⟨j,hj,rfl⟩:=List.getElem_of_mem ht
   rw[jI]
   exact vG (kN s j) hr2 ((Dv HV.out).2 j (by rw[steps,bU]at hj;exact hj))
  have l3:=rW s 3
  have w3:IntKind.i64.wrap (g s 3:Int)=(g s 3:Int):=by simp[IntKind.wrap,IntKind.signed,IntKind.bits];omega
  clear hv hbg hr2
  go_in
  go_wp2_with fail
  refine (vS s w hs).mono ?_
  rintro e w1 ⟨⟨a,b,ao,n,cap,he,hok⟩,hm1⟩
  rw[HV.out]at he hok
  subst he
  obtain⟨rfl,rfl,-,-,hL⟩:=hok rfl
  clear hok
  have hpa:=heap_alloc_new w1 (.cells #[.int .u8 (g s 2),.int .u8 (g s 3),.slice ao n cap] 63)
  have hma:=hm1.alloc (.cells #[.int .u8 (g s 2),.int .u8 (g s 3),.slice ao n cap] 63)
  have FU:=hL.mod ((Mod.refl (fun _=>False) w1).alloc (.cells #[.int .u8 (g s 2),.int .u8 (g s 3),.slice ao n cap] 63))
  obtain⟨c0,c1,c2⟩:=cells3 hpa
  have HH:Hid _:=zI hpa (zI hma FU)
  clear hpa hma FU hL hm1
  go_wp2_with fail
  generalize w1.alloc (.cells #[.int .u8 (g s 2),.int .u8 (g s 3),.slice ao n cap] 63)=w2 at *
  obtain⟨hpa,hma,FU⟩:=HH.out
  clear HH
  refine (Dl B nn HB.out KP.out (g s 2) (g s 3) (.slice ao n cap) (steps s) _ inp w2 (by rw[HLen.out];omega) FU hi l3 HG.out).mono ?_
  rintro e w3 ⟨rfl,aC⟩
  have HE:Hid (exe B s inp=stt B (g s 3) (steps s) inp):=Uw HV.out
  have gy:=hma.trans aC
  generalize stt B (g s 3) (steps s) inp=st at *
  clear hpa hma FU aC
  go_wp2
  go_ret2
  exact⟨by rw[HE.out];rfl,gy⟩
attribute [local go_sem] yN
theorem two_bytes (w:World) (n:Nat) (hn:n<=2000) :
  (convert 70 9 (.slice (some ⟨w.heap.size,0,none⟩) 2 2)).run Tryz.prog (w.alloc (.cells #[.int .u8 ((n:Int) % 256),.int .u8 ((n:Int) / 256)] 5)).drew
   = .ok (.string ⟨#[UInt8.ofNat (n % 256),UInt8.ofNat (n / 256)]⟩) (w.alloc (.cells #[.int .u8 ((n:Int) % 256),.int .u8 ((n:Int) / 256)] 5)).drew:=by
 refine run_convert_bytes_back (P:=Tryz.prog) _ 70 9 5 ⟨w.heap.size,0,none⟩ 2 [UInt8.ofNat (n % 256),UInt8.ofNat (n / 256)] Tryz.underlying70 Tryz.underlying5 Tryz.underlying9 ?_
 intro j hj
 have hj2:j < 2:=by simpa using hj
 have hc:(w.alloc (.cells #[.int .u8 ((n:Int) % 256),.int .u8 ((n:Int) / 256)] 5)).drew.cell? ⟨w.heap.size,j,none⟩=#[Value.int .u8 ((n:Int) % 256),.int .u8 ((n:Int) / 256)][j]?:=World.cell?_alloc_mark w _ _ _ j
 match j,hj2 with
 | 0,_ =>
  have ha:(⟨w.heap.size,0,none⟩:Addr).add 0=⟨w.heap.size,0,none⟩:=by simp[Addr.add]
  rw[ha,hc]
  simp
 | 1,_ =>
  have ha:(⟨w.heap.size,0,none⟩:Addr).add 1=⟨w.heap.size,1,none⟩:=by simp[Addr.add]
  rw[ha,hc]
  simp
  omega
theorem Ey (s:ByteArray) (w:World) (hs:8006 < s.size) (hm:s.size<=maxLen):Calls Tryz.prog 41 #[.string s] w fun e w'=>e=.returned (.tuple #[.string ⟨#[]⟩,.int .i64 1])/\w=w':=by
 go_in
 go_wp2_with fail
 refine (wT s w hs hm).mono ?_
 rintro e w1 ⟨rfl,rfl⟩
 go_wp2
 go_ret2
 exact⟨rfl,rfl⟩
theorem Ho (s:ByteArray) (w:World) (hs:s.size<=8006) (hv:(lU s).1=8):Calls Tryz.prog 41 #[.string s] w fun e w'=>e=.returned (.tuple #[.string ⟨#[]⟩,.int .i64 8])/\Mod (fun _=>False) w w':=by
 have HV:Hid ((lU s).1=8):=hv
 clear hv
 go_in
 go_wp2_with fail
 refine (gW s w hs).mono ?_
 rintro e w1 ⟨he,hm1⟩
 rw[HV.out]at he
 generalize (lU s).2=v2 at *
 subst he
 go_wp2
 go_ret2
 exact⟨rfl,hm1⟩
theorem Hl (s:ByteArray) (w:World) (hs:s.size<=8006) (hb:aW s=true) (hv:lU s=(0,0)):Calls Tryz.prog 41 #[.string s] w fun e w'=>e=.returned (.tuple #[.string (shr s),.int .i64 0])/\Mod (fun _=>False) w w':=by
 obtain⟨h6,-,hn,HS,-,-,-⟩:=kD hb
 have HSZ:Hid (s.size=6+4*fI s):=HS
 clear HS hb
 have HV:Hid (lU s=(0,0)):=hv
 clear hv
 have HLen:Hid ((steps s).length=fI s):=bU s _
 have HE:Hid (shr s=s.extract 0 4++⟨#[UInt8.ofNat (iT (aV (steps s)) (fI s) % 256),UInt8.ofNat (iT (aV (steps s)) (fI s) / 256)]⟩++jO s (aV (steps s)) (fI s)):=rfl
 generalize shr s=ans at *
 go_in
 go_wp2_with fail
 refine (gW s w hs).mono ?_
 rintro e w1 ⟨he,hm1⟩
 rw[HV.out]at he
 subst he
 go_wp2_with fail
 refine (uh s w1 hs).mono ?_
 rintro e w2 ⟨hm2,v,rfl,hL⟩
 go_wp2_with fail
 refine (JZ v (steps s) _ w2 (by rw[HLen.out];omega) hL (tq s)).mono ?_
 rintro e w3 ⟨aC,u,rfl,hN⟩
 have hm:=hm1.trans (hm2.trans aC)
 clear hm1 hm2 aC hL
 have OU:Hid ((aV (steps s)).length=fI s):=show _=_ by rw[lX,HLen.out]
 rw[HLen.out]at hN
 generalize aV (steps s)=nd at *
 obtain⟨ao,cap,rfl,-⟩:=aj hN
 go_wp2_with fail
 go_loop [7,8,9] (fun bv nv kv=>∃ (k:Nat) (bd:ByteArray) (n:Nat),k<=fI s/\kv=.int .i64 k/\bv=.string bd/\nv=.int .i64 n/\n<=k/\bd.size<=4*k/\Hid (bd=jO s nd k)/\Hid (n=iT nd k)) (fun _ _ kv=>fI s - (intOf kv).toNat)
 case atStart=>exact⟨0,⟨#[]⟩,0,by omega,rfl,rfl,rfl,by omega,by simp[ByteArray.size],rfl,rfl⟩
 case round =>
  obtain⟨k,bd,n,hk,rfl,rfl,rfl,hnk,hbk,HB,HC⟩:=hrel
  by_cases hlt:k < fI s
  ·have hkn:k < nd.length:=by rw[OU.out];exact hlt
   obtain⟨gb,rfl,ck⟩:=kQ hN OU.out.symm hkn
   cases hdk:nd[k] with
   | true =>
    rw[hdk]at ck
    have HB2:Hid (bd++s.extract (6+4*k) (10+4*k)=jO s nd (k+1)):=show _=_ by rw[I7 hkn hdk,HB.out]
    have HC2:Hid (n+1=iT nd (k+1)):=show _=_ by rw[Mv hkn hdk,HC.out]
    have hsz:(bd++s.extract (6+4*k) (10+4*k)).size<=4*(k+1):=by rw[ByteArray.size_append,ByteArray.size_extract];omega
    have hse:10+4*k<=s.size:=by have:=HSZ.out;omega
    clear HB HC
    go_wp2
    go_round
    case rel=>exact⟨k+1,_,n+1,by omega,by go_num,rfl,by go_num,by omega,hsz,HB2,HC2⟩
    case measure=>simp[intOf];omega
   | false =>
    rw[hdk]at ck
    have HB2:Hid (bd=jO s nd (k+1)):=show _=_ by rw[Md hkn hdk,HB.out]
    have HC2:Hid (n=iT nd (k+1)):=show _=_ by rw[Pp hkn hdk,HC.out]
    clear HB HC
    go_wp2
    go_round
    case rel=>exact⟨k+1,bd,n,by omega,by go_num,rfl,rfl,by omega,by omega,HB2,HC2⟩
    case measure=>simp[intOf];omega
  ·have hk':k=fI s:=by omega
   have HE2:Hid (ans=s.extract 0 4++⟨#[UInt8.ofNat (n % 256),UInt8.ofNat (n / 256)]⟩++bd):=show _=_ by rw[HE.out,HB.out,HC.out,hk']
   have hse:4<=s.size:=by omega
   clear hk' HE HB HC
   have hcv:=two_bytes w3 n (by omega)
   have acR:(4:Int)<=(s.size:Int):=by omega
   have gy:Mod (fun _=>False) w (w3.alloc (.cells #[.int .u8 ((n:Int) % 256),.int .u8 ((n:Int) / 256)] 5)).drew:=(hm.alloc _).drew
   go_wp2
   go_region
   go_wp2
   go_ret2
   exact⟨by rw[HE2.out];rfl,gy⟩
end Go.Proofs.YtmnfndpbblpjiabGreatDoor

/- The program's Shrink, and a step that asks for it. -/
namespace Go.Proofs.YtmnfndpbblpjiabGreatDoor
open Go.RowKit Pu
theorem wK:uK 5 5:=by
 intro kd n a b w h1 h2 ha hb hn
 obtain rfl:kd=5:=by omega
 have hm0:Mod (fun _=>False) w (w.alloc (.cells #[.int .i64 5,.int .i64 n,.string a,.string b] 56)):=(Mod.refl _ w).alloc _
 have hO:=qQ w 5 n a b
 clear h1 h2 hb hn
 by_cases hs:a.size<=8006
 ·rcases Ti a with hv | ⟨hv,hbg⟩
  ·have HV:Hid ((lU a).1=8):=hv
   clear hv
   go_in
   go_wp2_with fail
   refine (Ku a _ hs HV.out).mono ?_
   rintro e w1 ⟨rfl,hm1⟩
   have mZ:=hO.keep hm1 (fun f=>f)
   have c2:=mZ.c2
   go_wp2_with fail
   refine (Ho a _ hs HV.out).mono ?_
   rintro e w2 ⟨rfl,hm2⟩
   have hm:=hm0.trans (hm1.trans hm2)
   clear hm0 hm1 hm2 c2 mZ hO
   go_wp2_with (go_at_call 39;refine (fV _ _).mono ?_;rintro e w' ⟨rfl,rfl⟩)
   go_ret
   exact⟨rfl,hm⟩
  ·have HV:Hid (lU a=(0,0)):=hv
   have HB:Hid (aW a=true):=hbg
   clear hv hbg
   go_in
   go_wp2_with fail
   refine (Kt a _ hs HV.out).mono ?_
   rintro e w1 ⟨rfl,hm1⟩
   have mZ:=hO.keep hm1 (fun f=>f)
   have c2:=mZ.c2
   go_wp2_with fail
   refine (Hl a _ hs HB.out HV.out).mono ?_
   rintro e w2 ⟨rfl,hm2⟩
   have hm:=hm0.trans (hm1.trans hm2)
   clear hm0 hm1 hm2 c2 mZ hO
   go_wp2_with (go_at_call 39;refine (fV _ _).mono ?_;rintro e w' ⟨rfl,rfl⟩)
   go_ret
   exact⟨rfl,hm⟩
 ·go_in
  go_wp2_with fail
  refine (Hw a _ (by omega) ha).mono ?_
  rintro e w1 ⟨rfl,hm1⟩
  have mZ:=hO.keep hm1 (fun f=>f)
  have c2:=mZ.c2
  go_wp2_with fail
  refine (Ey a _ (by omega) ha).mono ?_
  rintro e w2 ⟨rfl,rfl⟩
  have hm:=hm0.trans hm1
  clear hm0 hm1 c2 mZ hO
  go_wp2_with (go_at_call 39;refine (fV _ _).mono ?_;rintro e w' ⟨rfl,rfl⟩)
  go_ret
  exact⟨rfl,hm⟩
theorem A8:uK 4 4:=by
 intro kd n a b w h1 h2 ha hb hn
 obtain rfl:kd=4:=by omega
 have hm0:Mod (fun _=>False) w (w.alloc (.cells #[.int .i64 4,.int .i64 n,.string a,.string b] 56)):=(Mod.refl _ w).alloc _
 have hO:=qQ w 4 n a b
 clear h1 h2 hn
 obtain⟨nn,hnn⟩:∃ nn:Nat,nn=8000:=⟨8000,rfl⟩
 obtain⟨B,hB⟩:∃ B:Nat,B=10 ^ nn:=⟨_,rfl⟩
 by_cases hs:a.size<=8006/\b.size<=140
 ·have hex:=fun w=>PU B nn hB hnn a b w hs.1 hs.2
  have hrx:=fun w=>Oc B nn hB hnn a b w hs.1 hs.2
  generalize exe B a b=ex at *
  clear hB hnn hs
  go_in
  go_wp2_with fail
  refine (hex _).mono ?_
  rintro e w1 ⟨rfl,hm1⟩
  have mZ:=hO.keep hm1 (fun f=>f)
  have c2:=mZ.c2
  have c3:=mZ.c3
  go_wp2_with fail
  refine (hrx _).mono ?_
  rintro e w2 ⟨rfl,hm2⟩
  have hm:=hm0.trans (hm1.trans hm2)
  clear hm0 hm1 hm2 c2 c3 mZ hO hex hrx
  go_wp2_with (go_at_call 39;refine (fV _ _).mono ?_;rintro e w' ⟨rfl,rfl⟩)
  go_ret
  exact⟨rfl,hm⟩
 ·clear hB hnn
  have hs':8006 < a.size\/140 < b.size:=by omega
  clear hs
  have hex:=fun w=>ME a b w hs' ha hb
  have hrx:=fun w=>Kh a b w hs' ha hb
  clear hs'
  go_in
  go_wp2_with fail
  refine (hex _).mono ?_
  rintro e w1 ⟨rfl,rfl⟩
  have c2:=hO.c2
  have c3:=hO.c3
  go_wp2_with fail
  refine (hrx _).mono ?_
  rintro e w2 ⟨rfl,rfl⟩
  clear c2 c3 hO hex hrx
  go_wp2_with (go_at_call 39;refine (fV _ _).mono ?_;rintro e w' ⟨rfl,rfl⟩)
  go_ret
  exact⟨rfl,hm0⟩
theorem DR (s c inp:ByteArray) (a:Nat) (w:World) (hs:s.size<=300) (hi:inp.size<=2000000) (h:LM s (c,a)):Calls Tryz.prog 43 #[.string s,.string c,.int .i64 a,.string inp] w fun e w'=>e=.returned (.bool true)/\Mod (fun _=>False) w w':=by
 obtain⟨nn,hnn⟩:∃ nn:Nat,nn=8000:=⟨8000,rfl⟩
 obtain⟨B,hB⟩:∃ B:Nat,B=10 ^ nn:=⟨_,rfl⟩
 have HB:Hid (B=10 ^ nn/\nn=8000):=⟨hB,hnn⟩
 clear hB hnn
 obtain⟨a0,b0,CV,hC⟩:=h
 have HC:Hid _:=zI CV hC
 clear CV hC
 go_in
 go_wp2_with fail
 refine (og s w hs).mono ?_
 rintro e w2 ⟨⟨a',b,hA,rfl⟩,hm⟩
 obtain⟨CV,hC⟩:=HC.out
 clear HC
 obtain⟨rfl,rfl⟩:=hA.unique CV
 clear CV
 rcases hC with ⟨h0,hr⟩ | ⟨h0,hr⟩
 ·have hb:((a':Int) != 0)=true:=by rw[bne_iff_ne];omega
  cases hr
  clear hA
  go_wp2
  go_ret
  exact⟨rfl,hm⟩
 ·subst h0
  obtain⟨hw,-,p,hok,hp⟩:=hA.zero
  have h16:p.length<=16:=by have:=(zk hw).1;rw[<- hp,qY]at this;exact this
  have hM:=Pu.jc hok h16
  have HZ:Hid _:=XB.of hok h16
  have HN:Hid _:=Lb hok h16
  have HQ:Hid _:=fun ins=>za ins _ (xw hok)
  have Zp:Hid _:=Pt h16
  have HG:Hid _:=GU hok h16
  have EY:Hid _:=fun (ins:List Int) (hin:∀ x∈ins,x.natAbs<=99) hc=>yX HB.out.1 HB.out.2 ins hin _ (xw hok) (by rw[iE];exact h16) hc
  have HV:Hid (lU ⟨(joined 128 (aY (cmds (aL p))) (bZ (cmds (aL p)) 0 0)).toArray⟩=(0,0)):=Qz (by omega) (by omega) hM.n32 (by have:=hM.len;omega) (qo _ _ hM.ok) (Es _ _ hM.ok)
  have HST:Hid (steps ⟨(joined 128 (aY (cmds (aL p))) (bZ (cmds (aL p)) 0 0)).toArray⟩=bZ (cmds (aL p)) 0 0):=Ak (qo _ _ hM.ok)
  have HI:Hid (g ⟨(joined 128 (aY (cmds (aL p))) (bZ (cmds (aL p)) 0 0)).toArray⟩ 3=aY (cmds (aL p))):=JH (by have:=hM.n32;omega)
  have hsz:(⟨(joined 128 (aY (cmds (aL p))) (bZ (cmds (aL p)) 0 0)).toArray⟩:ByteArray).size=6+4*(bZ (cmds (aL p)) 0 0).length:=xW
  have hlen:(bZ (cmds (aL p)) 0 0).length<=2000:=by have:=hM.len;omega
  have hst:=fun W=>qC s W hs (ou hw)
  rw[hp]at HZ HN HQ Zp HG EY HV HST HI hsz hlen
  clear hM hA hok h16 hp hw
  have hll:=HZ.out.n
  generalize (bF s s.size).l=l at *
  cases hr
  generalize (⟨(joined 128 (aY (cmds l)) (bZ (cmds l) 0 0)).toArray⟩:ByteArray)=c at *
  generalize bZ (cmds l) 0 0=q at *
  have h3:3 < c.size:=by omega
  have j3:(3:Int) < (c.size:Int):=by omega
  have Tm:Hid (g c 3=(c[3]'h3).toNat):=dB h3
  have l3:=(c[3]'h3).toNat_lt
  have hc3:((c[3]'h3).toNat:Int)=(aY (cmds l):Int):=by rw[<- Tm.out,HI.out]
  have w3:IntKind.i64.wrap (aY (cmds l):Int)=(aY (cmds l):Int):=by have:=Zp.out;simp[IntKind.wrap,IntKind.signed,IntKind.bits];omega
  go_wp2_with fail
  refine (gW c w2 (by omega)).mono ?_
  rintro e w3 ⟨he,aC⟩
  rw[HV.out]at he
  subst he
  replace hm:=hm.trans aC
  clear aC
  go_wp2_with fail
  refine (hst _).mono ?_
  rintro e w4 ⟨aO,v,rfl,hL⟩
  replace hm:=hm.trans aO
  clear aO hst
  have hnd:=fun W (hL:mE W w3.heap.size v l)=>yE v l _ W (by omega) hL
  rw[HN.out]at hnd
  go_wp2_with fail
  have hdw:Mod (fun _=>False) w4 w4.drew:=(Mod.refl _ w4).drew
  replace hm:=hm.trans hdw
  replace hL:=hL.mod hdw
  clear hdw
  go_region_held3 (fun _=>True)
   (exact True.intro)
   (first
    | (go_at_call 70;refine (hnd _ hL).mono ?_;rintro e w5 ⟨rfl,rfl⟩))
  all_goals
   go_wp2_with fail
   refine (nP inp _ hi).mono ?_
   cases hin:iG inp with
   | none =>
    rintro e w6 ⟨uN,rfl⟩
    have gy:=hm.trans uN
    clear hm uN hL hnd
    go_wp2
    go_ret
    exact⟨rfl,gy⟩
   | some ins =>
    rintro e w6 ⟨uN,vi,rfl,hI⟩
    have gy:=hm.trans uN
    have hL6:=hL.mod uN
    clear hm uN hL
    have ZH:Hid _:=nO hin
    clear hin
    obtain⟨ai,XL,rfl,-⟩:=aj hI
    have rA:=hnd w6 hL6
    clear hnd
    by_cases hc:ins.length=aY (cmds l)
    ·have aby:Hid _:=EY.out ins (fun x hx=>by have:=ZH.out x hx;omega) hc.symm
     have ab9:ins.length<=32:=by rw[hc];exact Zp.out
     have HGD:Hid (∀ t∈q,Good ins.length t):=show _ by rw[hc];exact HG.out
     have YB:=fun W (hL:mE W w3.heap.size v l) (hI:W.ownsRow w4.drew.heap.size 3 1 (.slice ai ins.length XL) ins.length (mo ins))=>BF v _ l (cmds l) _ ins _ _ W HZ.out hL hI ZH.out hc.symm ab9
     rw[HQ.out]at YB
     generalize rG ins (cmds l) 0 0 [] ⟨#[]⟩=rr at *
     rw[<- hc]at rA
     clear hc
     go_wp2_with fail
     refine rA.mono ?_
     rintro e w7 ⟨rfl,rfl⟩
     clear rA
     go_wp2_with fail
     refine (uh c _ (by omega)).mono ?_
     rintro e w7 ⟨xS,v7,rfl,hT7⟩
     rw[HST.out]at hT7
     have hI7:=au hI xS (fun _ _ f=>f)
     have hL7:=hL6.mod xS
     have fT:=gy.trans xS
     clear hI hL6 gy xS
     go_wp2_with fail
     refine (AZ B nn HB.out.1 HB.out.2 v7 _ q ins _ _ w7 (by omega) hT7 hI7 (by omega) ZH.out HGD.out).mono ?_
     rintro e w8 ⟨he,WY⟩
     rw[aby.out]at he
     subst he
     have aaQ:=YB w8 (hL7.mod WY) (au hI7 WY (fun _ _ f=>f))
     have hmG:=fT.trans WY
     clear YB hT7 hI7 hL7 fT WY
     go_wp2_with fail
     refine aaQ.mono ?_
     rintro e w9 ⟨rfl,hm9⟩
     have hmH:=hmG.trans hm9
     clear aaQ hmG hm9
     go_wp2
     go_ret
     exact⟨rfl,hmH⟩
    ·have hb:((ins.length:Int) != (aY (cmds l):Int))=true:=by rw[bne_iff_ne];omega
     clear hI hL6 hc
     go_wp2_with fail
     refine rA.mono ?_
     rintro e w7 ⟨rfl,rfl⟩
     clear rA
     go_wp2
     go_ret
     exact⟨rfl,gy⟩
end Go.Proofs.YtmnfndpbblpjiabGreatDoor

/- A script's steps, gone through, where the texts are of at most 1048576 bytes. -/
namespace Go.Proofs.YtmnfndpbblpjiabGreatDoor
open Go.RowKit
def IY (w:World) (v:Value):Prop:=∃ ao len cap,v=.slice ao len cap/\len<=maxLen/\∀ i,i < len->∃ bk off kd n a b,ao=some ⟨bk,off,none⟩/\bk < w.heap.size /\
 w.cell? ⟨bk,off+i*4,none⟩=some (.int .i64 kd)/\w.cell? ⟨bk,off+i*4+1,none⟩=some (.int .i64 n)/\w.cell? ⟨bk,off+i*4+2,none⟩=some (.string a)/\w.cell? ⟨bk,off+i*4+3,none⟩=some (.string b) /\
 a.size<=1048576/\b.size<=1048576/\(Lit.int .i64 n).wf=true
def zS (lo hi:Int):Prop:=∀ (kd n:Int) (a b:ByteArray) (w:World),lo<=kd->kd<=hi->a.size<=1048576->b.size<=1048576->(Lit.int .i64 n).wf=true ->
 Calls Tryz.prog 30 #[op4 kd n a b] w fun e w'=>e=.returned (.bool true)/\Mod (fun _=>False) w w'
theorem Du (v:Value) (lo hi:Int) (w:World) (hS:IY w v) (hP:zS lo hi) :
  Calls Tryz.prog 22 #[v,.int .i64 lo,.int .i64 hi] w fun e w'=>e=.returned (.int .i64 (-1))/\Mod (fun _=>False) w w':=by
 obtain⟨ao,len,cap,rfl,hlen,hc⟩:=hS
 unfold maxLen at hlen
 have HC:Hid (∀ i,i < len->∃ bk off kd n a b,ao=some ⟨bk,off,none⟩/\bk < w.heap.size /\
  w.cell? ⟨bk,off+i*4,none⟩=some (.int .i64 kd)/\w.cell? ⟨bk,off+i*4+1,none⟩=some (.int .i64 n)/\w.cell? ⟨bk,off+i*4+2,none⟩=some (.string a)/\w.cell? ⟨bk,off+i*4+3,none⟩=some (.string b) /\
  a.size<=1048576/\b.size<=1048576/\(Lit.int .i64 n).wf=true):=hc
 have HP:Hid (zS lo hi):=hP
 clear hc hP
 go_in
 go_wp2_with fail
 go_loopw [7] (fun i wr=>∃ k:Nat,k<=len/\i=.int .i64 k/\Mod (fun _=>False) w wr) (fun i _=>len - (intOf i).toNat)
 case atStart=>exact⟨0,by omega,rfl,Mod.refl _ _⟩
 case round =>
  obtain⟨k,hk,rfl,hm⟩:=hrel
  by_cases hlt:k < len
  ·obtain⟨bk,off,kd,n,a,b,rfl,hbk,c0,c1,c2,c3,ha,hb,hn⟩:=HC.out k hlt
   have HA:Hid (a.size<=1048576/\b.size<=1048576/\(Lit.int .i64 n).wf=true):=⟨ha,hb,hn⟩
   have hbe:wr.heap[bk]?=w.heap[bk]?:=hm.block bk hbk (fun f=>f)
   have d0:=(World.cell?_of_block (a:=⟨bk,off+k*4,none⟩) hbe).trans c0
   have d1:=(World.cell?_of_block (a:=⟨bk,off+k*4+1,none⟩) hbe).trans c1
   have d2:=(World.cell?_of_block (a:=⟨bk,off+k*4+2,none⟩) hbe).trans c2
   have d3:=(World.cell?_of_block (a:=⟨bk,off+k*4+3,none⟩) hbe).trans c3
   clear c0 c1 c2 c3 ha hb hn hbe HC
   have hma:Mod (fun _=>False) wr (wr.alloc (.cells #[.int .i64 kd,.int .i64 n,.string a,.string b] 56)):=(Mod.refl _ wr).alloc _
   by_cases h1:lo<=kd
   ·by_cases h2:kd<=hi
    ·go_wp2_with fail
     refine (HP.out kd n a b _ h1 h2 HA.out.1 HA.out.2.1 HA.out.2.2).mono ?_
     rintro e w2 ⟨rfl,hm2⟩
     have aC:=hm.trans (hma.trans hm2)
     clear hm hma hm2 d0 d1 d2 d3
     go_wp2
     go_roundw
     case rel=>exact⟨k+1,by omega,by go_num,aC⟩
     case measure=>simp[intOf];omega
    ·have aC:=hm.trans hma
     clear hm hma
     go_wp2
     go_roundw
     case rel=>exact⟨k+1,by omega,by go_num,aC⟩
     case measure=>simp[intOf];omega
   ·have aC:=hm.trans hma
    clear hm hma
    go_wp2
    go_roundw
    case rel=>exact⟨k+1,by omega,by go_num,aC⟩
    case measure=>simp[intOf];omega
  ·clear HC
   go_wp2
   go_ret
   exact⟨rfl,hm⟩
theorem uK.u {lo hi:Int} (h:uK lo hi):zS lo hi:=fun kd n a b w h1 h2 ha hb hn=>h kd n a b w h1 h2 (by unfold maxLen;omega) (by unfold maxLen;omega) hn
end Go.Proofs.YtmnfndpbblpjiabGreatDoor

/- A step that asks for Compile. -/
namespace Go.Proofs.YtmnfndpbblpjiabGreatDoor
open Go.RowKit Pu
theorem Mt (s inp:ByteArray) (w:World) (hs:300 < s.size) (hm:s.size<=maxLen):Calls Tryz.prog 43 #[.string s,.string ⟨#[]⟩,.int .i64 1,.string inp] w fun e w'=>e=.returned (.bool true)/\Mod (fun _=>False) w w':=by
 go_in
 go_wp2_with fail
 refine (oW s w hs hm).mono ?_
 rintro e w2 ⟨rfl,rfl⟩
 go_wp2
 go_ret
 exact⟨rfl,Mod.refl _ _⟩
theorem uP:zS 7 7:=by
 intro kd n a b w h1 h2 ha hb hn
 obtain rfl:kd=7:=by omega
 have hm0:Mod (fun _=>False) w (w.alloc (.cells #[.int .i64 7,.int .i64 n,.string a,.string b] 56)):=(Mod.refl _ w).alloc _
 have hO:=qQ w 7 n a b
 clear h1 h2 hn
 by_cases hs:a.size<=300
 ·have hex:=fun w=>Un a w hs
  have hrx:=fun c n w (h:LM a (c,n))=>DR a c b n w hs (by omega) h
  clear hs
  go_in
  go_wp2_with fail
  refine (hex _).mono ?_
  rintro e w1 ⟨hm1,⟨c,m⟩,hr,rfl⟩
  have mZ:=hO.keep hm1 (fun f=>f)
  have c2:=mZ.c2
  have c3:=mZ.c3
  have aaR:=fun w=>hrx c m w hr
  clear hex hrx hr
  have hT:=zI c2 c3
  have hdw:Mod (fun _=>False) w1 w1.drew:=(Mod.refl _ w1).drew
  have d2:=hdw.cell c2
  have d3:=hdw.cell c3
  have hS:=zI d2 d3
  go_wp2_with fail
  go_region_held3 (fun w'=>w'.cell? ⟨w.heap.size,2,none⟩=some (.string a)/\w'.cell? ⟨w.heap.size,3,none⟩=some (.string b))
   (first | with_reducible exact hS | with_reducible exact hT | with_reducible exact hU)
   (first
    | (go_at_call 43;have _d:=n1;refine (aaR _).mono ?_;rintro e w2 ⟨rfl,hm2⟩;have hU:=zI (hm2.cell d2) (hm2.cell d3))
    | (go_at_call 39;(fail_if_success have _e:=n1);refine (fV _ _).mono ?_;rintro e w' ⟨rfl,rfl⟩;have n1:=True.intro))
  have hm:=hm0.trans (hm1.trans (hdw.trans hm2))
  clear hm0 hm1 hm2 c2 c3 d2 d3 mZ hO aaR hS hT hU hdw
  go_wp2
  go_ret
  exact⟨rfl,hm⟩
 ·have hl:a.size<=maxLen:=by unfold maxLen;omega
  have hex:=fun w=>Pn a w (by omega) hl
  have hrx:=fun w=>Mt a b w (by omega) hl
  clear hs hl
  go_in
  go_wp2_with fail
  refine (hex _).mono ?_
  rintro e w1 ⟨rfl,rfl⟩
  have c2:=hO.c2
  have c3:=hO.c3
  clear hex
  generalize w.alloc (.cells #[.int .i64 7,.int .i64 n,.string a,.string b] 56)=w1 at *
  have hT:=zI c2 c3
  have hdw:Mod (fun _=>False) w1 w1.drew:=(Mod.refl _ w1).drew
  have d2:=hdw.cell c2
  have d3:=hdw.cell c3
  have hS:=zI d2 d3
  go_wp2_with fail
  go_region_held3 (fun w'=>w'.cell? ⟨w.heap.size,2,none⟩=some (.string a)/\w'.cell? ⟨w.heap.size,3,none⟩=some (.string b))
   (first | with_reducible exact hS | with_reducible exact hT | with_reducible exact hU)
   (first
    | (go_at_call 43;have _d:=n1;refine (hrx _).mono ?_;rintro e w2 ⟨rfl,hm2⟩;have hU:=zI (hm2.cell d2) (hm2.cell d3))
    | (go_at_call 39;(fail_if_success have _e:=n1);refine (fV _ _).mono ?_;rintro e w' ⟨rfl,rfl⟩;have n1:=True.intro))
  have hm:=hm0.trans (hdw.trans hm2)
  clear c2 c3 d2 d3 hO hrx hm0 hm2 hS hT hU hdw
  go_wp2
  go_ret
  exact⟨rfl,hm⟩
theorem Tt (v:Value) (w:World) (hS:IY w v):Calls Tryz.prog 6 #[v] w fun e w'=>e=.returned (.bool true)/\Mod (fun _=>False) w w':=by
 have HS:Hid (IY w v):=hS
 clear hS
 go_in
 go_wp2_with fail
 refine (Du v 7 7 w HS.out uP).mono ?_
 rintro e w1 ⟨rfl,hm1⟩
 go_wp2
 go_ret
 exact⟨rfl,hm1⟩
end Go.Proofs.YtmnfndpbblpjiabGreatDoor

/- From an argument that can be read to a script in memory: what every proof of a row over scripts shares. -/
namespace Go.Proofs.YtmnfndpbblpjiabGreatDoor
open Go.ChangeShapes Go.WideShapes Go.ChangeAt Go.RowKit Go.Deep Go.Joins
theorem Tryz.own:ownKnob Tryz.prog.godebug=none:=by kernel_rfl
theorem Tryz.laidOut:laidOutB Tryz.prog=true:=by kernel_rfl
theorem Tryz.cellsOp:Tryz.prog.cellsOf 56=4:=by kernel_rfl
theorem Tryz.cellsInt:Tryz.prog.cellsOf 3=1:=by kernel_rfl
theorem Tryz.cellsStr:Tryz.prog.cellsOf 9=1:=by kernel_rfl
theorem Xb {α:Type} {l:List α} (h:l.length=4):∃ a b c d,l=[a,b,c,d]:=by
 match l,h with
 | [a,b,c,d],_=>exact⟨a,b,c,d,rfl⟩
theorem Mi {H:Type} {d:DataW H} {l:List (DataW H)} (h:d∈l):Rows.uptoBulk d<=Rows.uptoBulkAll l:=by
 induction l with
 | nil=>cases h
 | cons x r ih =>
  simp only[Rows.uptoBulkAll]
  cases List.mem_cons.1 h with
  | inl e=>subst e;omega
  | inr e=>have:=ih e;omega
theorem Mh {H:Type} {d:DataW H} {l r:List (DataW H)} (h:d∈l):Rows.uptoBulk d<=Rows.uptoBulk (.slice l r):=by
 have:=Mi h
 simp only[Rows.uptoBulk]
 omega
theorem KS {H:Type} {a b c d:DataW H} {s:ByteArray} (h:c=.lit (.string s.data.toList)\/d=.lit (.string s.data.toList)):s.size<=Rows.uptoBulk (.agg [a,b,c,d]):=by
 have e:s.data.toList.length=s.size:=by simp
 rcases h with rfl | rfl<;>simp only[Rows.uptoBulk,Rows.uptoBulkAll,e]<;>omega
theorem VX {H:Type} {enc:TypeId × Value->H} {W:World} {fuel:Nat} {v:Value} {x:DataW H × List MemPlace} (hv:∃ a len cap,v=.slice a len cap) (h:DataW.trod enc Tryz.prog W 0 (fun _=>true) true fuel 43 v.cells.toList=some x) (hk:Rows.uptoBulk x.1<=1048576):IY W v:=by
 obtain⟨a0,l0,cp0,rfl⟩:=hv
 rcases open_slice Tryz.underlying43 h with ⟨hcs,_⟩ | ⟨a,len,cap,m,n,D,Pl,hcs,_,hl,hm,hmm,hxe,hx⟩
 ·simp[Value.cells]at hcs
  obtain⟨rfl,rfl,rfl⟩:=hcs
  exact⟨none,0,0,rfl,by unfold maxLen;omega,fun i hi=>by omega⟩
 ·simp[Value.cells]at hcs
  obtain⟨rfl,rfl,rfl⟩:=hcs
  refine⟨some a,l0,cp0,rfl,by omega,fun i hi=>?_⟩
  have him:i < m:=by simp at hmm;omega
  have hbi:Rows.uptoBulk (D i)<=1048576:=by
   refine Nat.le_trans (Mh (r:=(List.range (m - l0)).map fun j=>D (l0+j)) (List.mem_map.2 ⟨i,List.mem_range.2 hi,rfl⟩)) ?_
   rw[hxe]at hk
   exact hk
  obtain⟨cs',h1,h2⟩:=hx i him
  rw[Tryz.cellsOp]at h1
  obtain⟨_,hlen,hcell⟩:=World.cells?_some h1
  obtain⟨y0,y1,y2,y3,n',hag,_,g0,g1,g2,g3⟩:=trod_struct4 Tryz.underlying56 h2
  obtain⟨v0,v1,v2,v3,rfl⟩:=Xb hlen
  ·simp[Tryz.cellsInt,Tryz.cellsStr]at g0 g1 g2 g3
   obtain⟨kd,e0,-,-⟩:=DataW.trod_int Tryz.underlying3 g0
   obtain⟨nn,e1,-,wn⟩:=DataW.trod_int Tryz.underlying3 g1
   obtain⟨s1,e2,z2,hs1⟩:=DataW.trod_string Tryz.underlying9 g2
   obtain⟨s2,e3,z3,hs2⟩:=DataW.trod_string Tryz.underlying9 g3
   have hD:D i=.agg [y0.1,y1.1,y2.1,y3.1]:=by have:=congrArg Prod.fst hag;simpa using this
   rw[hD]at hbi
   have b1:s1.size<=1048576:=Nat.le_trans (KS (.inl (by rw[z2]))) hbi
   have b2:s2.size<=1048576:=Nat.le_trans (KS (.inr (by rw[z3]))) hbi
   simp at e0 e1 e2 e3
   subst e0 e1 e2 e3
   have k0:=hcell 0 (by omega)
   have k1:=hcell 1 (by omega)
   have k2:=hcell 2 (by omega)
   have k3:=hcell 3 (by omega)
   rw[add_add]at k0 k1 k2 k3
   obtain⟨bk,off,spot⟩:=a
   have hsp:spot=none:=by
    obtain⟨cs0,z1,_⟩:=hx 0 (by omega)
    rw[Tryz.cellsOp]at z1
    obtain⟨_,zl,zc⟩:=World.cells?_some z1
    obtain⟨z0,_,_,_,rfl⟩:=Xb zl
    have:=zc 0 (by omega)
    rw[add_add]at this
    simpa [Addr.add] using World.cell?_spot (by simpa using this:W.cell? (Addr.add ⟨bk,off,spot⟩ 0)=some z0)
   subst hsp
   have hadd:∀ j,(⟨bk,off,none⟩:Addr).add j=⟨bk,off+j,none⟩:=fun j=>by
    unfold Addr.add
    by_cases h0:j=0
    ·subst h0;simp
    ·simp[h0]
   rw[hadd]at k0 k1 k2 k3
   have hb:bk < W.heap.size:=by
    have:∃ o,W.heap[bk]?=some o:=by
     cases ho:W.heap[bk]? with
     | none=>simp[World.cell?,ho]at k1
     | some o=>exact⟨o,rfl⟩
    obtain⟨o,ho⟩:=this
    exact lt_of_block ho
   exact⟨bk,off,kd,nn,s1,s2,rfl,hb,by simpa using k0,by simpa [Nat.add_assoc] using k1,by simpa [Nat.add_assoc] using k2,by simpa [Nat.add_assoc] using k3,b1,b2,wn⟩
end Go.Proofs.YtmnfndpbblpjiabGreatDoor

/- A world in which the three listed tables of Go's own library lie as their text lays them: for the witness of a row. -/
namespace Go.Proofs.YtmnfndpbblpjiabGreatDoor
open Go.ChangeShapes Go.WideShapes Go.ChangeAt Go.RowKit
def Ap (c:Array Value):Obj->Obj
 | .cells _ t frozen=>.cells c t frozen
 | o=>o
def acY (W:World):World :=
 { W with heap:=((W.heap.modify 0 (Ap #[.int .u64 1,.int .u64 10,.int .u64 100,.int .u64 1000,.int .u64 10000,.int .u64 100000,.int .u64 1000000,.int .u64 10000000,.int .u64 100000000,.int .u64 1000000000,.int .u64 10000000000,.int .u64 100000000000,.int .u64 1000000000000,.int .u64 10000000000000,.int .u64 100000000000000,.int .u64 1000000000000000,.int .u64 10000000000000000,.int .u64 100000000000000000,.int .u64 1000000000000000000,.int .u64 10000000000000000000])).modify 1 (Ap #[.int .u8 0,.int .u8 1,.int .u8 28,.int .u8 2,.int .u8 29,.int .u8 14,.int .u8 24,.int .u8 3,.int .u8 30,.int .u8 22,.int .u8 20,.int .u8 15,.int .u8 25,.int .u8 17,.int .u8 4,.int .u8 8,.int .u8 31,.int .u8 27,.int .u8 13,.int .u8 23,.int .u8 21,.int .u8 19,.int .u8 16,.int .u8 7,.int .u8 26,.int .u8 12,.int .u8 18,.int .u8 6,.int .u8 11,.int .u8 5,.int .u8 10,.int .u8 9])).modify 2 (Ap #[.int .u8 0,.int .u8 1,.int .u8 56,.int .u8 2,.int .u8 57,.int .u8 49,.int .u8 28,.int .u8 3,.int .u8 61,.int .u8 58,.int .u8 42,.int .u8 50,.int .u8 38,.int .u8 29,.int .u8 17,.int .u8 4,.int .u8 62,.int .u8 47,.int .u8 59,.int .u8 36,.int .u8 45,.int .u8 43,.int .u8 51,.int .u8 22,.int .u8 53,.int .u8 39,.int .u8 33,.int .u8 30,.int .u8 24,.int .u8 18,.int .u8 12,.int .u8 5,.int .u8 63,.int .u8 55,.int .u8 48,.int .u8 27,.int .u8 60,.int .u8 41,.int .u8 37,.int .u8 16,.int .u8 46,.int .u8 35,.int .u8 44,.int .u8 21,.int .u8 52,.int .u8 32,.int .u8 23,.int .u8 11,.int .u8 54,.int .u8 26,.int .u8 40,.int .u8 15,.int .u8 34,.int .u8 20,.int .u8 31,.int .u8 10,.int .u8 25,.int .u8 14,.int .u8 19,.int .u8 9,.int .u8 13,.int .u8 8,.int .u8 7,.int .u8 6]) }
theorem QC (os:Os):laidMet Tryz.prog Rows.sidesRow.laid ((acY (World.holding Tryz.prog os ⟨#[],#[],[]⟩)).forCall (fun _ _=>0) ⟨#[],#[.slice none 0 0],[]⟩).memory :=
 laidMet_of_run' 8 (by kernel_rfl) (by kernel_rfl)
theorem RS {name:String} {k:FuncId} {fk:Func} (hk:Tryz.prog.funcNamed name=some k) (hfk:Tryz.prog.funcs[k]?=some fk) (hp:fk.params=#[43]) (f:FuncId) (fn:Func) (hf:Tryz.pinned.checked.prog.funcNamed name=some f) (hfn:Tryz.pinned.checked.prog.funcs[f]?=some fn) :
  false=Tryz.pinned.checked.prog.looks []/\∀ (j:Nat) t,fn.params[j]?=some t->Tryz.pinned.checked.prog.wantsStandIn t=false:=by
 obtain rfl:f=k:=Option.some.inj (hk.symm.trans hf) |>.symm
 obtain rfl:fn=fk:=(Option.some.inj (hfk.symm.trans hfn)).symm
 refine⟨by kernel_rfl,fun j t ht=>?_⟩
 rw[hp]at ht
 obtain rfl:t=43:=by simpa using Array.mem_of_getElem? ht
 exact (show Tryz.prog.wantsStandIn 43=false by kernel_rfl)
end Go.Proofs.YtmnfndpbblpjiabGreatDoor

/- The program's numbers: made of a sign and limbs, of an int; their sign, how many digits. -/
import Derived.Test.YtmnfndpbblpjiabGreatDoorZx10
import Derived.Test.YtmnfndpbblpjiabGreatDoorZx12
import Derived.Test.YtmnfndpbblpjiabGreatDoorZx16
set_option maxHeartbeats 1600000
set_option maxRecDepth 4000
namespace Go.Proofs.YtmnfndpbblpjiabGreatDoor
open Go.RowKit Pu
abbrev n9 (nb:Bool) (v:Value):Value:=.agg #[.bool nb,v]
def N9 (w:World) (nb:Bool) (v:Value) (l:List Nat):Prop:=C9 nb l/\w.ownsRow 0 188 1 v l.length (mW l)
theorem N9.mod {w w':World} {nb:Bool} {v:Value} {l:List Nat} (h:N9 w nb v l) (hm:Mod (fun _=>False) w w'):N9 w' nb v l:=⟨h.1,au h.2 hm (fun _ _ f=>f)⟩
def Fj (w:World) (x:Int) (n:Nat) (e:Ending) (w':World):Prop:=Mod (fun _=>False) w w'/\∃ nb v l,e=.returned (n9 nb v)/\N9 w' nb v l/\bB nb l=x/\l.length<=n
theorem tY {w w':World} {rb base n:Nat} {u:Value} {xs:List Value} {t:TypeId} (h:w.ownsRow base 188 1 u n xs) (hm:Mod (fun q=>q=rb) w w') {C:Array Value} (hb:w.heap[rb]?=some (.cells C t (0,0))) (ht:t≠188):w'.ownsRow base 188 1 u n xs:=by
 refine dW h hm (fun g h1 h2=>?_)
 subst h2
 obtain⟨_,⟨rfl,_⟩ | ⟨g',cap,cur,rfl,_,hg,_⟩⟩:=h
 ·simp[Value.ownBlock]at h1
 ·simp[Value.ownBlock]at h1
  subst h1
  rw[hb]at hg
  simp at hg
  exact ht hg.2
theorem iO {w wX:World} {b base n:Nat} {o1 o2:Value} {nb:Bool} {v:Value} {l:List Nat} {x:Int} (hb:wX.heap[b]?=some (.cells #[o1,o2] 141 (0,0))) (hw:w.heap.size<=b) (hm:Mod (fun _=>False) w wX) (hO:wX.ownsRow base 188 1 v l.length (mW l)) (hc:C9 nb l) (hx:bB nb l=x) (hn:l.length<=n) :
  Fj w x n (.returned (n9 nb v)) (dA wX b 0 (.bool nb) v)/\(dA wX b 0 (.bool nb) v).cell? ⟨b,0,none⟩=some (.bool nb)/\(dA wX b 0 (.bool nb) v).cell? ⟨b,1,none⟩=some v:=by
 refine⟨⟨BJ hm b 0 _ _ hw,nb,v,l,rfl,⟨hc,tY (bI hO (Nat.zero_le _)) (lQ wX b 0 (.bool nb) v) hb (by decide)⟩,hx,hn⟩,?_,?_⟩
 ·rw[jh hb];simp
 ·rw[jh hb];simp
theorem iX {w:World} {b:Nat} {x y:Value} {ty:TypeId} (h:w.heap[b]?=some (.cells #[x,y] ty (0,0))):w.cell? ⟨b,0,none⟩=some x/\w.cell? ⟨b,1,none⟩=some y:=by simp[World.cell?,h]
theorem Pu.C9.nil:C9 false []:=⟨fun _ h=>by simp at h,fun _ h=>by simp at h,fun _=>rfl⟩
theorem jR (nb:Bool) (v:Value) (l:List Nat) (base:Nat) (w:World) (hO:w.ownsRow base 188 1 v l.length (mW l)) (hd:D9 l) (ht:T9 l) (hl:l.length<=100000) :
  Calls Tryz.prog 200 #[.bool nb,v] w (Fj w (bB nb l) l.length):=by
 obtain⟨ao,cap,rfl,-⟩:=aj hO
 by_cases h0:l.length=0
 ·have hl0:l=[]:=List.eq_nil_of_length_eq_zero h0
  have hb:((l.length:Int) == 0)=true:=bN (m:=0) h0
  have HE:Hid (Fj w (bB nb l) l.length (.returned (n9 false (.slice none 0 0))) (w.alloc (.cells #[.bool false,.slice none 0 0] 141))) :=
   ⟨(Mod.refl _ w).alloc _,false,.slice none 0 0,[],rfl,⟨C9.nil,World.ownsRow_nil _ _ _ _⟩,by subst hl0;cases nb<;>simp[bB,v9],Nat.zero_le _⟩
  clear hl0 h0
  go_in
  go_wp2
  exact bodyPost_ret (v:=n9 false (.slice none 0 0)) (by simp[results,Tryz.results200,go_sem]) rfl HE.out
 ·have hb:((l.length:Int) == 0)=false:=aF (m:=0) h0
  have HE:Hid (Fj w (bB nb l) l.length (.returned (n9 nb (.slice ao l.length cap))) (w.alloc (.cells #[.bool nb,.slice ao l.length cap] 141))) :=
   ⟨(Mod.refl _ w).alloc _,nb,.slice ao l.length cap,l,rfl,⟨⟨hd,ht,fun e=>absurd (by rw[e];rfl) h0⟩,bI (au hO ((Mod.refl (fun _=>False) w).alloc _) (fun _ _ f=>f)) (Nat.zero_le _)⟩,rfl,Nat.le_refl _⟩
  clear h0
  go_in
  go_wp2
  exact bodyPost_ret (v:=n9 nb (.slice ao l.length cap)) (by simp[results,Tryz.results200,go_sem]) rfl HE.out
theorem ug (nb:Bool) (v:Value) (l:List Nat) (w:World) (hN:N9 w nb v l) (hl:l.length<=100000):Calls Tryz.prog 139 #[n9 nb v] w fun e w'=>e=.returned (.int .i64 (kL (bB nb l)))/\Mod (fun _=>False) w w':=by
 obtain⟨ao,cap,rfl,-⟩:=aj hN.2
 have eu:Mod (fun _=>False) w (w.alloc (.cells #[.bool nb,.slice ao l.length cap] 141)):=(Mod.refl _ w).alloc _
 by_cases h0:l.length=0
 ·have hl0:l=[]:=List.eq_nil_of_length_eq_zero h0
  have hb:((l.length:Int) == 0)=true:=bN (m:=0) h0
  have HE:Hid (kL (bB nb l)=0):=show _=_ by subst hl0;cases nb<;>simp[bB,v9,kL]
  clear hl0 h0
  go_in
  go_wp2
  go_ret
  exact⟨by rw[HE.out];rfl,eu⟩
 ·have hb:((l.length:Int) == 0)=false:=aF (m:=0) h0
  have hp:0 < v9 l:=Nat.pos_of_ne_zero fun e=>h0 (by rw[Zl hN.1.2.1 e];rfl)
  clear h0
  cases nb
  ·have HE:Hid (kL (bB false l)=1):=show _=_ by unfold kL bB;simp;omega
   go_in
   go_wp2
   go_ret
   exact⟨by rw[HE.out];rfl,eu⟩
  ·have HE:Hid (kL (bB true l)=-1):=show _=_ by unfold kL bB;simp;omega
   go_in
   go_wp2
   go_ret
   exact⟨by rw[HE.out];rfl,eu⟩
theorem rT (x:Int) (w:World) (h1:-1000000 < x) (h2:x < 1000000):Calls Tryz.prog 192 #[.int .i64 x] w (Fj w x 3):=by
 have hR0:=heap_alloc_new w (.cells #[.bool false,.slice none 0 0] 141)
 have hm0:Mod (fun _=>False) w (w.alloc (.cells #[.bool false,.slice none 0 0] 141)):=(Mod.refl _ w).alloc _
 have HH:Hid _:=zI hR0 hm0
 clear hR0 hm0
 by_cases hx:x < 0
 ·obtain⟨n,rfl⟩:∃ n:Nat,x=-(n:Int):=⟨x.natAbs,by omega⟩
  have hn:n<=1000000:=by omega
  have hn0:0 < n:=by omega
  have w1:IntKind.i64.wrap (-(n:Int)+1)=-(n:Int)+1:=by simp[IntKind.wrap,IntKind.signed,IntKind.bits];omega
  have w2:IntKind.i64.wrap (-(-(n:Int)+1))=(n:Int) - 1:=by simp[IntKind.wrap,IntKind.signed,IntKind.bits];omega
  have w3:IntKind.u64.wrap ((n:Int) - 1)=(n:Int) - 1:=wrap_u64 (by omega) (by omega)
  have w4:IntKind.u64.wrap ((n:Int) - 1+1)=(n:Int):=by rw[wrap_u64 (by omega) (by omega)];omega
  have w5:IntKind.u64.wrap (n:Int)=(n:Int):=wrap_u64 (by omega) (by omega)
  go_in
  go_wp2_with fail
  obtain⟨hR0,hm0⟩:=HH.out
  generalize w.alloc (.cells #[.bool false,.slice none 0 0] 141)=W at *
  refine (C8 n W hn).mono ?_
  rintro e w2 ⟨hm2,v2,l2,rfl,hO2,hd2,ht2,hv2,hl2⟩
  have hR2:=hm2.keep hR0 (fun f=>f)
  obtain⟨r0,r1⟩:=iX hR2
  have f0:=dN hR2 0
  have f1:=dN hR2 1
  obtain⟨vo,dO,rfl,-⟩:=aj hO2
  have HE:Hid _:=iO (x:=-(n:Int)) hR2 (Nat.le_refl _) (hm0.trans hm2) hO2 (nb:=true) ⟨hd2,ht2,fun e=>by rw[e]at hv2;simp[v9]at hv2;omega⟩ (show bB true l2=_ by simp[bB,hv2]) hl2
  clear hR2 hm2 hO2 hd2 ht2 hv2 HH hR0 hm0
  go_wp2_with fail
  obtain⟨k1,q0,q1⟩:=HE.out
  unfold dA at q0 q1
  exact bodyPost_ret (by simp[results,Tryz.results192,go_sem,q0,q1]) rfl k1
 ·obtain⟨n,rfl⟩:∃ n:Nat,x=(n:Int):=⟨x.toNat,by omega⟩
  have hn:n<=1000000:=by omega
  have w5:IntKind.u64.wrap (n:Int)=(n:Int):=wrap_u64 (by omega) (by omega)
  have hx2:¬ (n:Int) < 0:=by omega
  go_in
  go_wp2_with fail
  obtain⟨hR0,hm0⟩:=HH.out
  generalize w.alloc (.cells #[.bool false,.slice none 0 0] 141)=W at *
  refine (C8 n W hn).mono ?_
  rintro e w2 ⟨hm2,v2,l2,rfl,hO2,hd2,ht2,hv2,hl2⟩
  have hR2:=hm2.keep hR0 (fun f=>f)
  obtain⟨r0,r1⟩:=iX hR2
  have f0:=dN hR2 0
  have f1:=dN hR2 1
  obtain⟨vo,dO,rfl,-⟩:=aj hO2
  have HE:Hid _:=iO (x:=(n:Int)) hR2 (Nat.le_refl _) (hm0.trans hm2) hO2 (nb:=false) ⟨hd2,ht2,fun _=>rfl⟩ (show bB false l2=_ by simp[bB,hv2]) hl2
  clear hR2 hm2 hO2 hd2 ht2 hv2 HH hR0 hm0
  go_wp2_with fail
  obtain⟨k1,q0,q1⟩:=HE.out
  unfold dA at q0 q1
  exact bodyPost_ret (by simp[results,Tryz.results192,go_sem,q0,q1]) rfl k1
theorem Pu.aaZ (m:Nat):1000000000 ^ m=10 ^ (9*m):=by rw[show (1000000000:Nat)=10 ^ 9 from rfl,<- Nat.pow_mul]
theorem Pu.Jk {l b:List Nat} {t j n:Nat} (hl:l=b++[t]) (hd:D9 l) (hj:j=0\/10 ^ (j - 1)<=t) (hj2:t < 10 ^ j) (ht:t≠0):n < 9*b.length+j↔10 ^ n<=v9 l:=by
 subst hl
 have hb:D9 b:=fun d h=>hd d (List.mem_append_left _ h)
 have h1:=zf hb
 rw[nE]
 simp only[v9,Nat.mul_zero,Nat.add_zero]
 rw[aaZ]at *
 have hj0:j≠0:=by intro e;subst e;simp at hj2;omega
 have hlow:10 ^ (j - 1)<=t:=by rcases hj with h | h;(· omega);exact h
 constructor
 ·intro hn
  have a1:10 ^ (9*b.length)*10 ^ (j - 1)<=10 ^ (9*b.length)*t:=Nat.mul_le_mul_left _ hlow
  rw[<- Nat.pow_add]at a1
  have a2:10 ^ n<=10 ^ (9*b.length+(j - 1)):=Nat.pow_le_pow_right (by omega) (by omega)
  omega
 ·intro hv
  by_cases hn:n < 9*b.length+j
  ·exact hn
  ·exfalso
   have a1:10 ^ (9*b.length)*(t+1)<=10 ^ (9*b.length)*10 ^ j:=Nat.mul_le_mul_left _ hj2
   rw[<- Nat.pow_add,Nat.mul_add]at a1
   have a2:10 ^ (9*b.length+j)<=10 ^ n:=Nat.pow_le_pow_right (by omega) (by omega)
   omega
theorem Jj (nb:Bool) (v:Value) (l:List Nat) (w:World) (hN:N9 w nb v l) (hl:l.length<=50000):Calls Tryz.prog 178 #[n9 nb v] w fun e w'=>(∃ d:Nat,e=.returned (.int .i64 (d:Int))/\d<=1000000/\∀ n,1<=n->(n < d↔10 ^ n<=v9 l))/\Mod (fun _=>False) w w':=by
 obtain⟨hd,ht,-⟩:=hN.1
 obtain⟨ao,cap,rfl,-⟩:=aj hN.2
 have hO:=hN.2
 have hm0:Mod (fun _=>False) w (w.alloc (.cells #[.bool nb,.slice ao l.length cap] 141)):=(Mod.refl _ w).alloc _
 have Qe:=au hO hm0 (fun _ _ f=>f)
 clear hN hO
 by_cases h0:l=[]
 ·have HR:Hid (∀ n,1<=n->(n < 1↔10 ^ n<=v9 l)):=fun n hn=>by
   have:0 < 10 ^ n:=Nat.pow_pos (by omega)
   rw[h0];simp[v9];omega
  have hb:((l.length:Int) == 0)=true:=by subst h0;rfl
  have hlz:l.length=0:=by rw[h0];rfl
  have HLZ:l.length<=0:=by omega
  clear h0 hlz
  go_in
  go_wp2
  go_ret
  exact⟨⟨1,rfl,by omega,HR.out⟩,hm0⟩
 ·obtain⟨b,t,hbt⟩:∃ b t,l=b++[t]:=⟨l.dropLast,l.getLast h0,(List.dropLast_concat_getLast h0).symm⟩
  have HBT:Hid (l=b++[t]):=hbt
  have hlb:l.length=b.length+1:=by rw[hbt];simp
  have ht0:t≠0:=ht t (by rw[hbt];simp)
  have ht9:t < 1000000000:=hd t (by rw[hbt];simp)
  have hb:((l.length:Int) == 0)=false:=by rw[beq_eq_false_iff_ne];omega
  have hkl:b.length < l.length:=by omega
  obtain⟨gb,rfl,ct0⟩:=jk Qe rfl hkl
  have hlt':l[b.length]=t:=by
   have:l[b.length]?=some t:=by rw[hbt];simp
   rw[List.getElem?_eq_getElem hkl]at this
   injection this
  rw[hlt']at ct0
  clear hbt hlt' Qe
  have HV:Hid (∀ (j n:Nat),(j=0\/10 ^ (j - 1)<=t)->t < 10 ^ j->(n < 9*b.length+j↔10 ^ n<=v9 l)):=fun j n h1 h2=>Jk HBT.out hd h1 h2 ht0
  generalize v9 l=vv at *
  rw[hlb]at ct0 hm0 hb ⊢
  have hbl:b.length<=50000:=by omega
  clear hlb hkl hl h0 HBT
  go_in
  go_wp2_with fail
  go_loop [4,5] (fun kv pv=>∃ (j u:Nat),j<=9/\Hid (u=t / 10 ^ j)/\u < 1000000000/\kv=.int .i64 (9*(b.length:Int)+(j:Int))/\pv=.int .u64 u/\Hid (j=0\/10 ^ (j - 1)<=t)) (fun _ pv=>(intOf pv).toNat)
  case atStart=>exact⟨0,t,by omega,show t=t / 10 ^ 0 by simp,by omega,by simp;omega,rfl,.inl rfl⟩
  case round =>
   obtain⟨j,u,hj,HU,hu,rfl,rfl,HJ⟩:=hrel
   by_cases hpt:0 < u
   ·have h10:10 ^ j<=t:=by
     refine Nat.le_of_not_lt fun h=>?_
     have:=HU.out
     rw[Nat.div_eq_of_lt h]at this
     omega
    have hj9:j < 9:=by
     refine Nat.lt_of_not_le fun h=>?_
     have:10 ^ 9<=10 ^ j:=Nat.pow_le_pow_right (by omega) h
     omega
    have HU2:Hid (u / 10=t / 10 ^ (j+1)):=show _=_ by rw[HU.out,Nat.div_div_eq_div_mul,Nat.pow_succ]
    have HJ2:Hid (j+1=0\/10 ^ (j+1 - 1)<=t):=.inr h10
    clear h10 HU HJ
    go_wp2
    go_round
    case rel=>exact⟨j+1,u / 10,by omega,HU2,by omega,by go_num,by go_num,HJ2⟩
    case measure=>simp[intOf];omega
   ·have h10:t < 10 ^ j:=by
     have h:=HU.out
     have:t / 10 ^ j=0:=by omega
     rcases Nat.div_eq_zero_iff.1 this with h | h
     ·have:0 < 10 ^ j:=Nat.pow_pos (by omega)
      omega
     ·exact h
    have HR:Hid (∀ n,1<=n->(n < 9*b.length+j↔10 ^ n<=vv)):=fun n _=>HV.out j n HJ.out h10
    clear h10 HU HJ
    go_wp2
    go_ret
    exact⟨⟨9*b.length+j,by simp,by omega,HR.out⟩,hm0⟩
theorem Pu.NR (nb:Bool) {l m k:List Nat} (h:v9 k=v9 l+v9 m):bB nb k=bB nb l+bB nb m:=by
 cases nb<;>simp[bB,h]<;>omega
theorem Pu.NP {nb nc:Bool} (hn:nb≠nc) {l m k:List Nat} (hl:v9 l<=v9 m) (h:v9 k=v9 m - v9 l):bB nc k=bB nb l+bB nc m:=by
 cases nb<;>cases nc<;>simp at hn<;>simp[bB,h]<;>omega
theorem Pu.NQ {nb nc:Bool} (hn:nb≠nc) {l m k:List Nat} (hl:v9 m<=v9 l) (h:v9 k=v9 l - v9 m):bB nb k=bB nb l+bB nc m:=by
 cases nb<;>cases nc<;>simp at hn<;>simp[bB,h]<;>omega
theorem Pu.Rz {nb nc:Bool} {l m k:List Nat} (h:v9 k=v9 l*v9 m):bB (nb != nc) k=bB nb l*bB nc m:=by
 cases nb<;>cases nc<;>simp[bB,h,Int.mul_neg,Int.neg_mul]
theorem Ta {a b:List Nat} (da:D9 a) (tb:T9 b) (h:v9 b<=v9 a):b.length<=a.length:=by
 refine Nat.le_of_not_lt fun hh=>?_
 have:=vJ da tb hh
 omega
theorem Ls (nb nc:Bool) (v u:Value) (l m:List Nat) (w:World) (hN:N9 w nb v l) (hU:w.ownsRow 0 188 1 u m.length (mW m)) (dm:D9 m) (tm:T9 m) (ll:l.length<=40000) (lm:m.length<=40000) :
  Calls Tryz.prog 199 #[n9 nb v,.bool nc,u] w (Fj w (bB nb l+bB nc m) (max l.length m.length+1)):=by
 obtain⟨⟨dl,tl,-⟩,hO⟩:=hN
 obtain⟨vo,dO,rfl,-⟩:=aj hO
 obtain⟨uo,kZ,rfl,-⟩:=aj hU
 obtain⟨a1,a2⟩:=dJ w (.cells #[.bool nb,.slice vo l.length dO] 141) (.cells #[.bool false,.slice none 0 0] 141)
 have hm0:Mod (fun _=>False) w ((w.alloc (.cells #[.bool nb,.slice vo l.length dO] 141)).alloc (.cells #[.bool false,.slice none 0 0] 141)):=((Mod.refl _ w).alloc _).alloc _
 have HH:Hid _:=zI a1 (zI a2 hm0)
 clear a1 a2 hm0
 have rC:Hid (D9 l/\T9 l/\D9 m/\T9 m):=⟨dl,tl,dm,tm⟩
 clear dl tl dm tm
 obtain⟨mx,hmx,hml,hmm,aO⟩:∃ mx,max l.length m.length+1=mx/\l.length+1<=mx/\m.length+1<=mx/\mx<=40001:=⟨_,rfl,by omega,by omega,by omega⟩
 rw[hmx]
 have HMX:Hid (max l.length m.length+1=mx):=hmx
 clear hmx
 by_cases hne:nb=nc
 ·have hb:(nb == nc)=true:=by simp[hne]
  have HS:Hid (∀ k:List Nat,v9 k=v9 l+v9 m->bB nc k=bB nb l+bB nc m):=fun k h=>by subst hne;exact NR nb h
  generalize bB nb l+bB nc m=tot at *
  clear hne
  go_in
  go_wp2_with fail
  generalize (w.alloc (.cells #[.bool nb,.slice vo l.length dO] 141)).alloc (.cells #[.bool false,.slice none 0 0] 141)=W at *
  obtain⟨CV,hR0,hm0⟩:=HH.out
  clear HH
  refine (Ot _ _ l m 0 0 W (au hO hm0 (fun _ _ f=>f)) (au hU hm0 (fun _ _ f=>f)) rC.out.1 rC.out.2.2.1 (by omega) (by omega)).mono ?_
  rw[HMX.out]
  rintro e w2 ⟨hm2,v2,l2,rfl,hO2,hd2,ht2,hv2,hl2⟩
  have hs:=jR nc v2 l2 _ w2 hO2 hd2 ht2 (by omega)
  have HX:Hid (bB nc l2=tot):=HS.out l2 hv2
  have hR2:=hm2.keep hR0 (fun f=>f)
  have wu:=hm0.trans hm2
  clear hO2 hd2 ht2 hv2 hm2
  go_wp2_with fail
  refine hs.mono ?_
  rintro e w3 ⟨aC,mI,v3,l3,rfl,gD,hx3,hl3⟩
  have eP:=aC.keep hR2 (fun f=>f)
  obtain⟨r0,r1⟩:=iX eP
  have f0:=dN eP 0
  have f1:=dN eP 1
  obtain⟨kS,bK,rfl,-⟩:=aj gD.2
  have HE:Hid _:=iO (x:=tot) (n:=mx) eP (by omega) (wu.trans aC) gD.2 gD.1 (hx3.trans HX.out) (by omega)
  clear eP aC gD hx3 hs hR2 wu
  go_wp2_with fail
  obtain⟨k1,q0,q1⟩:=HE.out
  unfold dA at q0 q1
  exact bodyPost_ret (by simp[results,Tryz.results199,go_sem,q0,q1]) rfl k1
 ·have hb:(nb == nc)=false:=by simp[hne]
  have hlt:=M9 (.slice vo l.length dO) (.slice uo m.length kZ) l m 0 0 _ (au hO HH.out.2.2 (fun _ _ f=>f)) (au hU HH.out.2.2 (fun _ _ f=>f)) rC.out.1 rC.out.2.2.1 rC.out.2.1 rC.out.2.2.2 (by omega) (by omega)
  by_cases hc:v9 l < v9 m
  ·have HS:Hid (∀ k:List Nat,v9 k=v9 m - v9 l->bB nc k=bB nb l+bB nc m):=fun k h=>NP hne (by omega) h
   generalize bB nb l+bB nc m=tot at *
   have hld:decide (v9 l < v9 m)=true:=by simpa using hc
   rw[hld]at hlt
   have EX:Hid (v9 l<=v9 m/\l.length<=m.length):=⟨by omega,Ta rC.out.2.2.1 rC.out.2.1 (by omega)⟩
   clear hne hc hld
   go_in
   go_wp2_with fail
   generalize (w.alloc (.cells #[.bool nb,.slice vo l.length dO] 141)).alloc (.cells #[.bool false,.slice none 0 0] 141)=W at *
   obtain⟨CV,hR0,hm0⟩:=HH.out
   clear HH
   refine hlt.mono ?_
   rintro e w1 ⟨rfl,hm1⟩
   have hA1:=hm1.keep CV (fun f=>f)
   have Qg:=hm1.keep hR0 (fun f=>f)
   have JA:=hm0.trans hm1
   obtain⟨g0,g1⟩:=iX hA1
   clear CV hR0 hm0 hA1 hlt hm1
   have hR0:=Qg
   have hm0:=JA
   clear Qg JA
   go_wp2_with fail
   refine (FE _ _ m l 0 0 w1 (au hU hm0 (fun _ _ f=>f)) (au hO hm0 (fun _ _ f=>f)) rC.out.2.2.1 rC.out.1 EX.out.1 EX.out.2 (by omega)).mono ?_
   rintro e w2 ⟨hm2,v2,l2,rfl,hO2,hd2,ht2,hv2,hl2⟩
   have hs:=jR nc v2 l2 _ w2 hO2 hd2 ht2 (by omega)
   have HX:Hid (bB nc l2=tot):=HS.out l2 hv2
   have hR2:=hm2.keep hR0 (fun f=>f)
   have wu:=hm0.trans hm2
   clear hO2 hd2 ht2 hv2 hm2
   go_wp2_with fail
   refine hs.mono ?_
   rintro e w3 ⟨aC,mI,v3,l3,rfl,gD,hx3,hl3⟩
   have eP:=aC.keep hR2 (fun f=>f)
   obtain⟨r0,r1⟩:=iX eP
   have f0:=dN eP 0
   have f1:=dN eP 1
   obtain⟨kS,bK,rfl,-⟩:=aj gD.2
   have HE:Hid _:=iO (x:=tot) (n:=mx) eP (by omega) (wu.trans aC) gD.2 gD.1 (hx3.trans HX.out) (by omega)
   clear eP aC gD hx3 hs hR2 wu
   go_wp2_with fail
   obtain⟨k1,q0,q1⟩:=HE.out
   unfold dA at q0 q1
   exact bodyPost_ret (by simp[results,Tryz.results199,go_sem,q0,q1]) rfl k1
  ·have HS:Hid (∀ k:List Nat,v9 k=v9 l - v9 m->bB nb k=bB nb l+bB nc m):=fun k h=>NQ hne (by omega) h
   generalize bB nb l+bB nc m=tot at *
   have hld:decide (v9 l < v9 m)=false:=by simpa using hc
   rw[hld]at hlt
   have EX:Hid (v9 m<=v9 l/\m.length<=l.length):=⟨by omega,Ta rC.out.1 rC.out.2.2.2 (by omega)⟩
   clear hne hc hld
   go_in
   go_wp2_with fail
   generalize (w.alloc (.cells #[.bool nb,.slice vo l.length dO] 141)).alloc (.cells #[.bool false,.slice none 0 0] 141)=W at *
   obtain⟨CV,hR0,hm0⟩:=HH.out
   clear HH
   refine hlt.mono ?_
   rintro e w1 ⟨rfl,hm1⟩
   have hA1:=hm1.keep CV (fun f=>f)
   have Qg:=hm1.keep hR0 (fun f=>f)
   have JA:=hm0.trans hm1
   obtain⟨g0,g1⟩:=iX hA1
   have hd:=FE _ _ l m 0 0 w1.drew (au hO JA.drew (fun _ _ f=>f)) (au hU JA.drew (fun _ _ f=>f)) rC.out.1 rC.out.2.2.1 EX.out.1 EX.out.2 (by omega)
   clear CV hR0 hm0 hlt hm1
   go_wp2_with fail
   go_region_held3 (fun w'=>w'.cell? ⟨w.heap.size,0,none⟩=some (.bool nb)/\w'.cell? ⟨w.heap.size,1,none⟩=some (.slice vo l.length dO))
    (first | go_keep | (exact hkeep) | (exact dG))
    (first
     | (go_at_call 206;refine hd.mono ?_;rintro e w2 ⟨hm2,v2,l2,rfl,hO2,hd2,ht2,hv2,hl2⟩;have hkeep:=zI (hm2.cell (a:=w1.drew) g0) (hm2.cell (a:=w1.drew) g1))
     | (go_at_call 200;refine (jR nb v2 l2 _ w2 hO2 hd2 ht2 (by omega)).mono ?_;rintro e w3 ⟨aC,mI,v3,l3,rfl,gD,hx3,hl3⟩;have hkeep:=zI (aC.cell (hm2.cell (a:=w1.drew) g0)) (aC.cell (hm2.cell (a:=w1.drew) g1));have eP:=aC.keep (hm2.keep (a:=w1.drew) Qg (fun f=>f)) (fun f=>f);obtain⟨r0,r1⟩:=iX eP;have f0:=dN eP 0;have f1:=dN eP 1;obtain⟨kS,bK,rfl,-⟩:=aj gD.2;have dG:=zI ((ay (w.heap.size+1) w3 (.bool mI) (.slice kS l3.length bK) w.heap.size 0 (by omega)).trans hkeep.1) ((ay (w.heap.size+1) w3 (.bool mI) (.slice kS l3.length bK) w.heap.size 1 (by omega)).trans hkeep.2)))
   have HE:Hid _:=iO (x:=tot) (n:=mx) eP (by omega) ((JA.drew.trans hm2).trans aC) gD.2 gD.1 (hx3.trans (HS.out l2 hv2)) (by omega)
   clear eP aC gD hx3 Qg JA hm2 hO2 hd2 ht2 hv2
   go_wp2_with fail
   obtain⟨k1,q0,q1⟩:=HE.out
   unfold dA at q0 q1
   exact bodyPost_ret (by simp[results,Tryz.results199,go_sem,q0,q1]) rfl k1
theorem Pu.RA (nb:Bool) (l:List Nat):bB (!nb) l=-bB nb l:=by cases nb<;>simp[bB]
theorem OZ (nb nc:Bool) (v u:Value) (l m:List Nat) (w:World) (hN:N9 w nb v l) (hU:N9 w nc u m) (ll:l.length<=40000) (lm:m.length<=40000) :
  Calls Tryz.prog 193 #[n9 nb v,n9 nc u] w (Fj w (bB nb l+bB nc m) (max l.length m.length+1)):=by
 obtain⟨vo,dO,rfl,-⟩:=aj hN.2
 obtain⟨uo,kZ,rfl,-⟩:=aj hU.2
 obtain⟨a1,a2,a3⟩:=pW w (.cells #[.bool nb,.slice vo l.length dO] 141) (.cells #[.bool nc,.slice uo m.length kZ] 141) (.cells #[.bool false,.slice none 0 0] 141)
 have hm0:Mod (fun _=>False) w (((w.alloc (.cells #[.bool nb,.slice vo l.length dO] 141)).alloc (.cells #[.bool nc,.slice uo m.length kZ] 141)).alloc (.cells #[.bool false,.slice none 0 0] 141)):=(((Mod.refl _ w).alloc _).alloc _).alloc _
 have hs:=Ls nb nc (.slice vo l.length dO) (.slice uo m.length kZ) l m _ (hN.mod hm0) (hU.mod hm0).2 hU.1.1 hU.1.2.1 ll lm
 have HT:Hid (bB nb l+bB nc m=bB nb l+bB nc m):=show _=_ by rfl
 rw[HT.out]at hs
 generalize bB nb l+bB nc m=tot at *
 generalize max l.length m.length+1=mx at *
 have HH:Hid _:=zI a3 hm0
 clear a1 a2 a3 hm0 hN hU HT
 go_in
 go_wp2_with fail
 refine hs.mono ?_
 rintro e w3 ⟨aC,mI,v3,l3,rfl,gD,hx3,hl3⟩
 obtain⟨hR0,hm0⟩:=HH.out
 have eP:=aC.keep hR0 (fun f=>f)
 obtain⟨r0,r1⟩:=iX eP
 have f0:=dN eP 0
 have f1:=dN eP 1
 obtain⟨kS,bK,rfl,-⟩:=aj gD.2
 have HE:Hid _:=iO (x:=tot) (n:=mx) eP (by omega) (hm0.trans aC) gD.2 gD.1 hx3 hl3
 clear eP aC gD hx3 hs hR0 hm0 HH
 go_wp2_with fail
 obtain⟨k1,q0,q1⟩:=HE.out
 unfold dA at q0 q1
 exact bodyPost_ret (by simp[results,Tryz.results193,go_sem,q0,q1]) rfl k1
theorem SK (nb nc:Bool) (v u:Value) (l m:List Nat) (w:World) (hN:N9 w nb v l) (hU:N9 w nc u m) (ll:l.length<=40000) (lm:m.length<=40000) :
  Calls Tryz.prog 194 #[n9 nb v,n9 nc u] w (Fj w (bB nb l - bB nc m) (max l.length m.length+1)):=by
 obtain⟨vo,dO,rfl,-⟩:=aj hN.2
 obtain⟨uo,kZ,rfl,-⟩:=aj hU.2
 obtain⟨a1,a2,a3⟩:=pW w (.cells #[.bool nb,.slice vo l.length dO] 141) (.cells #[.bool nc,.slice uo m.length kZ] 141) (.cells #[.bool false,.slice none 0 0] 141)
 have hm0:Mod (fun _=>False) w (((w.alloc (.cells #[.bool nb,.slice vo l.length dO] 141)).alloc (.cells #[.bool nc,.slice uo m.length kZ] 141)).alloc (.cells #[.bool false,.slice none 0 0] 141)):=(((Mod.refl _ w).alloc _).alloc _).alloc _
 have hs:=Ls nb (!nc) (.slice vo l.length dO) (.slice uo m.length kZ) l m _ (hN.mod hm0) (hU.mod hm0).2 hU.1.1 hU.1.2.1 ll lm
 have HT:Hid (bB nb l+bB (!nc) m=bB nb l - bB nc m):=show _=_ by rw[RA];omega
 rw[HT.out]at hs
 generalize bB nb l - bB nc m=tot at *
 generalize max l.length m.length+1=mx at *
 have HH:Hid _:=zI a3 hm0
 clear a1 a2 a3 hm0 hN hU HT
 go_in
 go_wp2_with fail
 refine hs.mono ?_
 rintro e w3 ⟨aC,mI,v3,l3,rfl,gD,hx3,hl3⟩
 obtain⟨hR0,hm0⟩:=HH.out
 have eP:=aC.keep hR0 (fun f=>f)
 obtain⟨r0,r1⟩:=iX eP
 have f0:=dN eP 0
 have f1:=dN eP 1
 obtain⟨kS,bK,rfl,-⟩:=aj gD.2
 have HE:Hid _:=iO (x:=tot) (n:=mx) eP (by omega) (hm0.trans aC) gD.2 gD.1 hx3 hl3
 clear eP aC gD hx3 hs hR0 hm0 HH
 go_wp2_with fail
 obtain⟨k1,q0,q1⟩:=HE.out
 unfold dA at q0 q1
 exact bodyPost_ret (by simp[results,Tryz.results194,go_sem,q0,q1]) rfl k1
theorem Rl (nb nc:Bool) (v u:Value) (l m:List Nat) (w:World) (hN:N9 w nb v l) (hU:N9 w nc u m) (ll:l.length<=40000) (lm:m.length<=40000) :
  Calls Tryz.prog 195 #[n9 nb v,n9 nc u] w (Fj w (bB nb l*bB nc m) (l.length+m.length)):=by
 obtain⟨vo,dO,rfl,-⟩:=aj hN.2
 obtain⟨uo,kZ,rfl,-⟩:=aj hU.2
 obtain⟨a1,a2,a3⟩:=pW w (.cells #[.bool nb,.slice vo l.length dO] 141) (.cells #[.bool nc,.slice uo m.length kZ] 141) (.cells #[.bool false,.slice none 0 0] 141)
 have hm0:Mod (fun _=>False) w (((w.alloc (.cells #[.bool nb,.slice vo l.length dO] 141)).alloc (.cells #[.bool nc,.slice uo m.length kZ] 141)).alloc (.cells #[.bool false,.slice none 0 0] 141)):=(((Mod.refl _ w).alloc _).alloc _).alloc _
 have HS:Hid (∀ k:List Nat,v9 k=v9 l*v9 m->bB (nb != nc) k=bB nb l*bB nc m):=fun k h=>Rz h
 generalize bB nb l*bB nc m=tot at *
 have HH:Hid _:=zI a1 (zI a2 (zI a3 hm0))
 clear a1 a2 a3 hm0
 go_in
 go_wp2_with fail
 generalize ((w.alloc (.cells #[.bool nb,.slice vo l.length dO] 141)).alloc (.cells #[.bool nc,.slice uo m.length kZ] 141)).alloc (.cells #[.bool false,.slice none 0 0] 141)=W at *
 obtain⟨a1,a2,hR0,hm0⟩:=HH.out
 obtain⟨g0,g1⟩:=iX a1
 obtain⟨h0,h1⟩:=iX a2
 have hp:=G6 (.slice vo l.length dO) (.slice uo m.length kZ) l m 0 0 W.drew (au hN.2 hm0.drew (fun _ _ f=>f)) (au hU.2 hm0.drew (fun _ _ f=>f)) hN.1.1 hU.1.1 ll lm
 clear HH a1 a2 hN hU
 cases nb
 ·cases nc
  ·go_region_held3 (fun w'=>w'.cell? ⟨w.heap.size,0,none⟩=some (.bool false)/\w'.cell? ⟨w.heap.size,1,none⟩=some (.slice vo l.length dO)/\w'.cell? ⟨w.heap.size+1,0,none⟩=some (.bool false)/\w'.cell? ⟨w.heap.size+1,1,none⟩=some (.slice uo m.length kZ))
    (first | go_keep | (exact hkeep) | (exact dG))
    (first
     | (go_at_call 201;refine hp.mono ?_;rintro e w2 ⟨hm2,v2,l2,rfl,hO2,hd2,ht2,hv2,hl2⟩;have hkeep:=zI (hm2.cell (a:=W.drew) g0) (zI (hm2.cell (a:=W.drew) g1) (zI (hm2.cell (a:=W.drew) h0) (hm2.cell (a:=W.drew) h1))))
     | (go_at_call 200;refine (jR false v2 l2 _ w2 hO2 hd2 ht2 (by omega)).mono ?_;rintro e w3 ⟨aC,mI,v3,l3,rfl,gD,hx3,hl3⟩;have hkeep:=zI (aC.cell (hm2.cell (a:=W.drew) g0)) (zI (aC.cell (hm2.cell (a:=W.drew) g1)) (zI (aC.cell (hm2.cell (a:=W.drew) h0)) (aC.cell (hm2.cell (a:=W.drew) h1))));have eP:=aC.keep (hm2.keep (a:=W.drew) hR0 (fun f=>f)) (fun f=>f);obtain⟨r0,r1⟩:=iX eP;have f0:=dN eP 0;have f1:=dN eP 1;obtain⟨kS,bK,rfl,-⟩:=aj gD.2;have dG:=zI ((ay (w.heap.size+2) w3 (.bool mI) (.slice kS l3.length bK) w.heap.size 0 (by omega)).trans hkeep.1) (zI ((ay (w.heap.size+2) w3 (.bool mI) (.slice kS l3.length bK) w.heap.size 1 (by omega)).trans hkeep.2.1) (zI ((ay (w.heap.size+2) w3 (.bool mI) (.slice kS l3.length bK) (w.heap.size+1) 0 (by omega)).trans hkeep.2.2.1) ((ay (w.heap.size+2) w3 (.bool mI) (.slice kS l3.length bK) (w.heap.size+1) 1 (by omega)).trans hkeep.2.2.2)))))
   have HE:Hid _:=iO (x:=tot) (n:=l.length+m.length) eP (by omega) ((hm0.drew.trans hm2).trans aC) gD.2 gD.1 (hx3.trans (HS.out l2 hv2)) (by omega)
   clear eP aC gD hx3 hR0 hm0 hm2 hO2 hd2 ht2 hv2
   go_wp2_with fail
   obtain⟨k1,q0,q1⟩:=HE.out
   unfold dA at q0 q1
   exact bodyPost_ret (by simp[results,Tryz.results195,go_sem,q0,q1]) rfl k1
  ·go_region_held3 (fun w'=>w'.cell? ⟨w.heap.size,0,none⟩=some (.bool false)/\w'.cell? ⟨w.heap.size,1,none⟩=some (.slice vo l.length dO)/\w'.cell? ⟨w.heap.size+1,0,none⟩=some (.bool true)/\w'.cell? ⟨w.heap.size+1,1,none⟩=some (.slice uo m.length kZ))
    (first | go_keep | (exact hkeep) | (exact dG))
    (first
     | (go_at_call 201;refine hp.mono ?_;rintro e w2 ⟨hm2,v2,l2,rfl,hO2,hd2,ht2,hv2,hl2⟩;have hkeep:=zI (hm2.cell (a:=W.drew) g0) (zI (hm2.cell (a:=W.drew) g1) (zI (hm2.cell (a:=W.drew) h0) (hm2.cell (a:=W.drew) h1))))
     | (go_at_call 200;refine (jR true v2 l2 _ w2 hO2 hd2 ht2 (by omega)).mono ?_;rintro e w3 ⟨aC,mI,v3,l3,rfl,gD,hx3,hl3⟩;have hkeep:=zI (aC.cell (hm2.cell (a:=W.drew) g0)) (zI (aC.cell (hm2.cell (a:=W.drew) g1)) (zI (aC.cell (hm2.cell (a:=W.drew) h0)) (aC.cell (hm2.cell (a:=W.drew) h1))));have eP:=aC.keep (hm2.keep (a:=W.drew) hR0 (fun f=>f)) (fun f=>f);obtain⟨r0,r1⟩:=iX eP;have f0:=dN eP 0;have f1:=dN eP 1;obtain⟨kS,bK,rfl,-⟩:=aj gD.2;have dG:=zI ((ay (w.heap.size+2) w3 (.bool mI) (.slice kS l3.length bK) w.heap.size 0 (by omega)).trans hkeep.1) (zI ((ay (w.heap.size+2) w3 (.bool mI) (.slice kS l3.length bK) w.heap.size 1 (by omega)).trans hkeep.2.1) (zI ((ay (w.heap.size+2) w3 (.bool mI) (.slice kS l3.length bK) (w.heap.size+1) 0 (by omega)).trans hkeep.2.2.1) ((ay (w.heap.size+2) w3 (.bool mI) (.slice kS l3.length bK) (w.heap.size+1) 1 (by omega)).trans hkeep.2.2.2)))))
   have HE:Hid _:=iO (x:=tot) (n:=l.length+m.length) eP (by omega) ((hm0.drew.trans hm2).trans aC) gD.2 gD.1 (hx3.trans (HS.out l2 hv2)) (by omega)
   clear eP aC gD hx3 hR0 hm0 hm2 hO2 hd2 ht2 hv2
   go_wp2_with fail
   obtain⟨k1,q0,q1⟩:=HE.out
   unfold dA at q0 q1
   exact bodyPost_ret (by simp[results,Tryz.results195,go_sem,q0,q1]) rfl k1
 ·cases nc
  ·go_region_held3 (fun w'=>w'.cell? ⟨w.heap.size,0,none⟩=some (.bool true)/\w'.cell? ⟨w.heap.size,1,none⟩=some (.slice vo l.length dO)/\w'.cell? ⟨w.heap.size+1,0,none⟩=some (.bool false)/\w'.cell? ⟨w.heap.size+1,1,none⟩=some (.slice uo m.length kZ))
    (first | go_keep | (exact hkeep) | (exact dG))
    (first
     | (go_at_call 201;refine hp.mono ?_;rintro e w2 ⟨hm2,v2,l2,rfl,hO2,hd2,ht2,hv2,hl2⟩;have hkeep:=zI (hm2.cell (a:=W.drew) g0) (zI (hm2.cell (a:=W.drew) g1) (zI (hm2.cell (a:=W.drew) h0) (hm2.cell (a:=W.drew) h1))))
     | (go_at_call 200;refine (jR true v2 l2 _ w2 hO2 hd2 ht2 (by omega)).mono ?_;rintro e w3 ⟨aC,mI,v3,l3,rfl,gD,hx3,hl3⟩;have hkeep:=zI (aC.cell (hm2.cell (a:=W.drew) g0)) (zI (aC.cell (hm2.cell (a:=W.drew) g1)) (zI (aC.cell (hm2.cell (a:=W.drew) h0)) (aC.cell (hm2.cell (a:=W.drew) h1))));have eP:=aC.keep (hm2.keep (a:=W.drew) hR0 (fun f=>f)) (fun f=>f);obtain⟨r0,r1⟩:=iX eP;have f0:=dN eP 0;have f1:=dN eP 1;obtain⟨kS,bK,rfl,-⟩:=aj gD.2;have dG:=zI ((ay (w.heap.size+2) w3 (.bool mI) (.slice kS l3.length bK) w.heap.size 0 (by omega)).trans hkeep.1) (zI ((ay (w.heap.size+2) w3 (.bool mI) (.slice kS l3.length bK) w.heap.size 1 (by omega)).trans hkeep.2.1) (zI ((ay (w.heap.size+2) w3 (.bool mI) (.slice kS l3.length bK) (w.heap.size+1) 0 (by omega)).trans hkeep.2.2.1) ((ay (w.heap.size+2) w3 (.bool mI) (.slice kS l3.length bK) (w.heap.size+1) 1 (by omega)).trans hkeep.2.2.2)))))
   have HE:Hid _:=iO (x:=tot) (n:=l.length+m.length) eP (by omega) ((hm0.drew.trans hm2).trans aC) gD.2 gD.1 (hx3.trans (HS.out l2 hv2)) (by omega)
   clear eP aC gD hx3 hR0 hm0 hm2 hO2 hd2 ht2 hv2
   go_wp2_with fail
   obtain⟨k1,q0,q1⟩:=HE.out
   unfold dA at q0 q1
   exact bodyPost_ret (by simp[results,Tryz.results195,go_sem,q0,q1]) rfl k1
  ·go_region_held3 (fun w'=>w'.cell? ⟨w.heap.size,0,none⟩=some (.bool true)/\w'.cell? ⟨w.heap.size,1,none⟩=some (.slice vo l.length dO)/\w'.cell? ⟨w.heap.size+1,0,none⟩=some (.bool true)/\w'.cell? ⟨w.heap.size+1,1,none⟩=some (.slice uo m.length kZ))
    (first | go_keep | (exact hkeep) | (exact dG))
    (first
     | (go_at_call 201;refine hp.mono ?_;rintro e w2 ⟨hm2,v2,l2,rfl,hO2,hd2,ht2,hv2,hl2⟩;have hkeep:=zI (hm2.cell (a:=W.drew) g0) (zI (hm2.cell (a:=W.drew) g1) (zI (hm2.cell (a:=W.drew) h0) (hm2.cell (a:=W.drew) h1))))
     | (go_at_call 200;refine (jR false v2 l2 _ w2 hO2 hd2 ht2 (by omega)).mono ?_;rintro e w3 ⟨aC,mI,v3,l3,rfl,gD,hx3,hl3⟩;have hkeep:=zI (aC.cell (hm2.cell (a:=W.drew) g0)) (zI (aC.cell (hm2.cell (a:=W.drew) g1)) (zI (aC.cell (hm2.cell (a:=W.drew) h0)) (aC.cell (hm2.cell (a:=W.drew) h1))));have eP:=aC.keep (hm2.keep (a:=W.drew) hR0 (fun f=>f)) (fun f=>f);obtain⟨r0,r1⟩:=iX eP;have f0:=dN eP 0;have f1:=dN eP 1;obtain⟨kS,bK,rfl,-⟩:=aj gD.2;have dG:=zI ((ay (w.heap.size+2) w3 (.bool mI) (.slice kS l3.length bK) w.heap.size 0 (by omega)).trans hkeep.1) (zI ((ay (w.heap.size+2) w3 (.bool mI) (.slice kS l3.length bK) w.heap.size 1 (by omega)).trans hkeep.2.1) (zI ((ay (w.heap.size+2) w3 (.bool mI) (.slice kS l3.length bK) (w.heap.size+1) 0 (by omega)).trans hkeep.2.2.1) ((ay (w.heap.size+2) w3 (.bool mI) (.slice kS l3.length bK) (w.heap.size+1) 1 (by omega)).trans hkeep.2.2.2)))))
   have HE:Hid _:=iO (x:=tot) (n:=l.length+m.length) eP (by omega) ((hm0.drew.trans hm2).trans aC) gD.2 gD.1 (hx3.trans (HS.out l2 hv2)) (by omega)
   clear eP aC gD hx3 hR0 hm0 hm2 hO2 hd2 ht2 hv2
   go_wp2_with fail
   obtain⟨k1,q0,q1⟩:=HE.out
   unfold dA at q0 q1
   exact bodyPost_ret (by simp[results,Tryz.results195,go_sem,q0,q1]) rfl k1
theorem l9 {fn:Func} {p:Tmp} {ty:TypeId} (h:fn.results=#[.cell p ty]) (tmps:Array Value) (P:Program) (w:World) :
  (results fn tmps).run P w=((asAddr (tmps.getD p undef)).run P w).andThen fun a w₁=>(loadVar ty a).run P w₁:=by
 simp only[results,h]
 simp[Sem.run_bind,Result.andThen]
def AS (w wX:World) (t:Stp) (M:Nat->Bool):Prop :=
 wX.heap[w.heap.size]?=some (.cells #[.int .u8 t.op,.int .u8 t.x,.int .u8 t.y,.int .u8 t.z] 94 (0,0))/\wX.heap[w.heap.size+1]?=some (.cells (aH M) 98 (0,0)) /\
 wX.heap[w.heap.size+1+1]?=some (.cells Tryz.zeroCells98 98 (0,0))/\Mod (fun _=>False) w wX
theorem AS.set {w wX:World} {t:Stp} {M:Nat->Bool} (h:AS w wX t M) (r:Nat) (v:Bool):AS w (wX.setCell ⟨w.heap.size+1,r,none⟩ (.bool v)) t (upd r v M):=by
 obtain⟨h1,h2,h3,h4⟩:=h
 have hm:Mod (fun q=>q=w.heap.size+1) wX (wX.setCell ⟨w.heap.size+1,r,none⟩ (.bool v)):=(Mod.refl _ wX).setCell ⟨w.heap.size+1,r,none⟩ (.bool v) (fun _=>rfl)
 exact⟨hm.keep h1 (by omega),aaW r v h2,hm.keep h3 (by omega),h4.setCell ⟨w.heap.size+1,r,none⟩ (.bool v) (fun h=>absurd h (by show ¬ w.heap.size+1 < w.heap.size;omega))⟩
theorem AS.drew {w wX:World} {t:Stp} {M:Nat->Bool} (h:AS w wX t M):AS w wX.drew t M:=⟨h.1,h.2.1,h.2.2.1,h.2.2.2.drew⟩
theorem AS.mx {w wX:World} {t:Stp} {M:Nat->Bool} (h:AS w wX t M) {r:Nat} (hr:r < 256):wX.cell? ⟨w.heap.size+1,r,none⟩=some (.bool (M r))/\wX.frozen? ⟨w.heap.size+1,r,none⟩=false:=by
 refine⟨?_,dN h.2.1 r⟩
 have:=tQ M hr
 simp only[World.cell?,h.2.1];simpa using this
theorem qB {w:World} {b:Nat} {C C':Array Value} {t:TypeId} (h:w.heap[b]?=some (.cells C t (0,0))):(w.setRow b C').heap[b]?=some (.cells C' t (0,0)):=by
 simp[World.setRow,Array.getElem?_modify,h]
theorem qX (w:World) (b:Nat) (C:Array Value):Mod (fun q=>q=b) w (w.setRow b C) :=
 ⟨rfl,rfl,rfl,by simp[World.setRow],fun k _ hk=>by simp only[World.setRow];rw[Array.getElem?_modify,if_neg (fun h=>hk h.symm)]⟩
theorem oh {w wX:World} {b:Nat} {C:Array Value} (h:Mod (fun _=>False) w wX) (hb:w.heap.size<=b):Mod (fun _=>False) w (wX.setRow b C):=by
 have:=(h.mono (q:=fun q=>q=b) (fun _ _ f=>f.elim)).trans (qX wX b C)
 exact this.mono (fun k hk e=>by omega)
theorem LZ (t:Stp) (M:Nat->Bool) (w:World) (ht:Small t):Calls Tryz.prog 154 #[E8 t,.agg (aH M)] w fun e w'=>e=.returned (.agg (aH (iB t M)))/\Mod (fun _=>False) w w':=by
 obtain⟨h1,h2,h3,h4⟩:=ht
 have ix:(t.x:Int) < 256:=by omega
 have iy:(t.y:Int) < 256:=by omega
 have iz:(t.z:Int) < 256:=by omega
 have hsz:=aU M
 have HZS:Hid (Tryz.zeroCells98.size=256):=Tryz.zeroCells98_size
 have HW:Hid (iB t M=if rz t.op then upd t.z true (if ry t.op then upd t.y true (upd t.x (!decide (t.op<=5)) M) else upd t.x (!decide (t.op<=5)) M)
  else (if ry t.op then upd t.y true (upd t.x (!decide (t.op<=5)) M) else upd t.x (!decide (t.op<=5)) M)):=rfl
 generalize iB t M=A at *
 have hsx:=fun w=>uf t.op w h1
 have hry:=fun w=>Bz t.op w h1
 have hrz:=fun w=>vF t.op w h1
 generalize decide (t.op<=5)=b5 at *
 generalize ry t.op=py at *
 generalize rz t.op=pz at *
 have CV:AS w (((w.alloc (.cells #[.int .u8 t.op,.int .u8 t.x,.int .u8 t.y,.int .u8 t.z] 94)).alloc (.cells (aH M) 98)).alloc (.cells Tryz.zeroCells98 98)) t M:=by
  obtain⟨a1,a2,a3⟩:=pW w (.cells #[.int .u8 t.op,.int .u8 t.x,.int .u8 t.y,.int .u8 t.z] 94) (.cells (aH M) 98) (.cells Tryz.zeroCells98 98)
  exact⟨a1,a2,a3,(((Mod.refl _ w).alloc _).alloc _).alloc _⟩
 go_in
 go_wp2_with fail
 generalize ((w.alloc (.cells #[.int .u8 t.op,.int .u8 t.x,.int .u8 t.y,.int .u8 t.z] 94)).alloc (.cells (aH M) 98)).alloc (.cells Tryz.zeroCells98 98)=w0 at *
 obtain⟨c0,c1,c2,c3⟩:=jD CV.1
 obtain⟨mx,fx⟩:=CV.mx h2
 have hA1:=(CV.set t.x (!b5)).drew
 clear CV
 go_region_held3 (fun w'=>w'.cell? ⟨w.heap.size,0,none⟩=some (.int .u8 t.op)/\w'.cell? ⟨w.heap.size,1,none⟩=some (.int .u8 t.x)) (go_keep) ((go_at_call 55;refine (hsx _).mono ?_;rintro e w3 ⟨rfl,rfl⟩))
 clear c0 c1 c2 c3 mx fx hsx
 generalize (w0.setCell ⟨w.heap.size+1,t.x,none⟩ (.bool !b5)).drew=w1 at *
 generalize upd t.x (!b5) M=M1 at *
 obtain⟨c0,c1,c2,c3⟩:=jD hA1.1
 obtain⟨my,fy⟩:=hA1.mx h3
 have hA2:AS w (if py then w1.setCell ⟨w.heap.size+1,t.y,none⟩ (.bool true) else w1) t (if py then upd t.y true M1 else M1):=by
  cases py
  ·exact hA1
  ·exact hA1.set t.y true
 clear hA1
 have UH:∃ w2 M2,(if py then w1.setCell ⟨w.heap.size+1,t.y,none⟩ (.bool true) else w1)=w2/\(if py then upd t.y true M1 else M1)=M2:=⟨_,_,rfl,rfl⟩
 obtain⟨w2,M2,e2,f2⟩:=UH
 rw[e2,f2]at hA2
 rw[f2]at HW
 have hend:∀ (wF:World) (F:Nat->Bool),AS w wF t F->A=F->Mod (fun _=>False) w (wF.setRow (w.heap.size+1+1) (aH F))/\(loadVar 98 ⟨w.heap.size+1+1,0,none⟩).run Tryz.prog (wF.setRow (w.heap.size+1+1) (aH F))=.ok (.agg (aH A)) (wF.setRow (w.heap.size+1+1) (aH F)):=fun wF F h e=>by
  subst e
  exact⟨oh h.2.2.2 (by omega),run_loadVar_row _ _ _ _ _ (0,0) _ (qB h.2.2.1) Tryz.underlying98 rfl (dH (aU _))⟩
 have TK:Hid _:=hend
 clear hend
 cases py
 ·simp only[Bool.false_eq_true,if_false]at e2
  subst e2
  clear f2 my fy
  go_wp2_with (go_at_call 136;refine (hry _).mono ?_;rintro e w3 ⟨rfl,rfl⟩)
  refine (hrz _).mono ?_
  rintro e w3 ⟨rfl,rfl⟩
  cases pz
  ·simp only[Bool.false_eq_true,if_false]at HW
   have hF:=hA2
   have HQ:Hid _:=TK.out w1 M2 hF HW.out
   have TL:Hid _:=hF.2.1
   have Fa:Hid _:=hF.2.2.1
   clear hF
   go_wp2_with (first
    | (refine wpList_load_row rfl 98 _ rfl _ rfl (aH M2) 98 (0,0) ?hb0 _ Tryz.underlying98 rfl (dH (aU _)) ?_;case hb0=>exact TL.out)
    | (refine wpList_store_row rfl 98 _ _ rfl _ Tryz.zeroCells98 (aH M2) 98 rfl rfl ?hb1 (dH (aU _)) (by rw[aU];exact HZS.out) (lI _) ?_;case hb1=>exact Fa.out))
   refine bodyPost_ret (v:=.agg (aH A)) ?_ rfl ⟨rfl,HQ.out.1⟩
   rw[l9 Tryz.results154]
   simp[asAddr,Result.andThen,HQ.out.2,Act.put]
  ·simp only[if_true]at HW
   obtain⟨mz,fz⟩:=hA2.mx h4
   have hF:=hA2.set t.z true
   have HQ:Hid _:=TK.out (w1.setCell ⟨w.heap.size+1,t.z,none⟩ (.bool true)) (upd t.z true M2) hF HW.out
   have TL:Hid _:=hF.2.1
   have Fa:Hid _:=hF.2.2.1
   clear hF
   go_wp2_with (first
    | (refine wpList_load_row rfl 98 _ rfl _ rfl (aH (upd t.z true M2)) 98 (0,0) ?hb0 _ Tryz.underlying98 rfl (dH (aU _)) ?_;case hb0=>exact TL.out)
    | (refine wpList_store_row rfl 98 _ _ rfl _ Tryz.zeroCells98 (aH (upd t.z true M2)) 98 rfl rfl ?hb1 (dH (aU _)) (by rw[aU];exact HZS.out) (lI _) ?_;case hb1=>exact Fa.out))
   refine bodyPost_ret (v:=.agg (aH A)) ?_ rfl ⟨rfl,HQ.out.1⟩
   rw[l9 Tryz.results154]
   simp[asAddr,Result.andThen,HQ.out.2,Act.put]
 ·simp only[if_true]at e2
  obtain⟨d0,d1,d2,d3⟩:=jD hA2.1
  clear f2
  go_wp2_with (go_at_call 136;refine (hry _).mono ?_;rintro e w3 ⟨rfl,rfl⟩)
  clear e2 my fy c0 c1 c2 c3
  refine (hrz _).mono ?_
  rintro e w3 ⟨rfl,rfl⟩
  cases pz
  ·simp only[Bool.false_eq_true,if_false]at HW
   have hF:=hA2
   have HQ:Hid _:=TK.out w2 M2 hF HW.out
   have TL:Hid _:=hF.2.1
   have Fa:Hid _:=hF.2.2.1
   clear hF
   go_wp2_with (first
    | (refine wpList_load_row rfl 98 _ rfl _ rfl (aH M2) 98 (0,0) ?hb0 _ Tryz.underlying98 rfl (dH (aU _)) ?_;case hb0=>exact TL.out)
    | (refine wpList_store_row rfl 98 _ _ rfl _ Tryz.zeroCells98 (aH M2) 98 rfl rfl ?hb1 (dH (aU _)) (by rw[aU];exact HZS.out) (lI _) ?_;case hb1=>exact Fa.out))
   refine bodyPost_ret (v:=.agg (aH A)) ?_ rfl ⟨rfl,HQ.out.1⟩
   rw[l9 Tryz.results154]
   simp[asAddr,Result.andThen,HQ.out.2,Act.put]
  ·simp only[if_true]at HW
   obtain⟨mz,fz⟩:=hA2.mx h4
   have hF:=hA2.set t.z true
   have HQ:Hid _:=TK.out (w2.setCell ⟨w.heap.size+1,t.z,none⟩ (.bool true)) (upd t.z true M2) hF HW.out
   have TL:Hid _:=hF.2.1
   have Fa:Hid _:=hF.2.2.1
   clear hF
   go_wp2_with (first
    | (refine wpList_load_row rfl 98 _ rfl _ rfl (aH (upd t.z true M2)) 98 (0,0) ?hb0 _ Tryz.underlying98 rfl (dH (aU _)) ?_;case hb0=>exact TL.out)
    | (refine wpList_store_row rfl 98 _ _ rfl _ Tryz.zeroCells98 (aH (upd t.z true M2)) 98 rfl rfl ?hb1 (dH (aU _)) (by rw[aU];exact HZS.out) (lI _) ?_;case hb1=>exact Fa.out))
   refine bodyPost_ret (v:=.agg (aH A)) ?_ rfl ⟨rfl,HQ.out.1⟩
   rw[l9 Tryz.results154]
   simp[asAddr,Result.andThen,HQ.out.2,Act.put]
theorem Rx (v:Value) (l:List Stp) (base:Nat) (w:World) (hl:l.length<=3000) (hL:gM w base v l) (hsm:∀ t∈l,Small t) :
  Calls Tryz.prog 109 #[v] w fun e w'=>Mod (fun _=>False) w w'/\∃ u,e=.returned u/\w'.ownsRow w.heap.size 4 1 u l.length (BS (aV l)):=by
 obtain⟨i0,hi,hz0,hz1,hz2⟩:=info_parts Tryz.info4
 obtain⟨ao,cap,rfl,-⟩:=aj hL
 have IV:Hid (∀ t∈l,Small t):=hsm
 clear hsm
 have HZ:Hid (Tryz.zeroCells98=aH (fun _=>false)):=Tryz.marks0
 go_in
 go_wp2_with (at_make;refine wpList_make_full _ rfl _ _ 111 rfl w.heap.size 4 i0 (.bool false) 1 Tryz.underlying111 hi hz0 hz1 _ _ _ _ l.length rfl rfl (by omega) (by omega) (by rw[hz2];omega) (by unfold maxLen;omega) (by simp) ?_)
 intro W hown0 gK
 have hm0:=(Mod.refl (fun _=>False) w).grown gK (fun k hk _=>by cases hk)
 have hown1:W.ownsRow w.heap.size 4 1 (.slice (some ⟨w.heap.size,0,none⟩) l.length l.length) l.length (BS (kP l l.length)):=by
  rw[EM,<- Ay];simpa using hown0
 have hwl:w.heap.size < W.heap.size:=(hown1.lt w.heap.size rfl).2
 clear gK hown0
 have hown2:=au hown1 ((Mod.refl (fun _=>False) W).alloc (.cells Tryz.zeroCells98 98)) (fun _ _ f=>f)
 have hmb:(W.alloc (.cells Tryz.zeroCells98 98)).heap[W.heap.size]?=some (.cells (aH (fun _=>false)) 98 (0,0)):=by rw[<- HZ.out];exact heap_alloc_new W _
 have hm1:=hm0.alloc (.cells Tryz.zeroCells98 98)
 have HH:Hid _:=zI hown2 (zI hmb hm1)
 have fK:=hm0.size
 clear hown2 hmb hm1 hown1 hm0
 go_wp2_with fail
 go_loopw [5] (fun kv wr=>∃ (k:Nat) (nd:List Bool) (M:Nat->Bool),k<=l.length/\kv=.int .i64 ((k:Int) - 1)/\rD l k nd M/\wr.ownsRow w.heap.size 4 1 (.slice (some ⟨w.heap.size,0,none⟩) l.length l.length) l.length (BS (kP l k))/\wr.heap[W.heap.size]?=some (.cells (aH M) 98 (0,0))/\Mod (fun _=>False) w wr) (fun kv _=>(intOf kv+1).toNat)
 case atStart=>exact⟨l.length,_,_,by omega,rfl,rD.start l,HH.out.1,HH.out.2.1,HH.out.2.2⟩
 case round =>
  clear HH
  obtain⟨k,nd,M,hk,rfl,hN,hown,hM,hm⟩:=hrel
  cases k with
  | zero =>
   clear hM hN
   rw[Ib]at hown
   go_wp2
   go_ret
   exact⟨hm,_,rfl,hown⟩
  | succ k =>
   have hkl:k < l.length:=by omega
   have e1:((k+1:Nat):Int) - 1=(k:Int):=by omega
   rw[e1]
   clear e1
   have qH:=hL.mod hm
   obtain⟨gb,rfl,c0,c1,c2,c3⟩:=qH.cell hkl
   have hs:=IV.out _ (List.getElem_mem hkl)
   obtain⟨gd,hgd,cd⟩:=kQ hown (by rw[BR l _ (by omega)]) (k:=k) (by rw[BR l _ (by omega)];exact hkl)
   injection hgd with hgd
   injection hgd with hgd
   subst hgd
   have fd:=hown.frozenAt k
   have hst:∀ b,(aV l)[k]?=some b->(wr.setCell ⟨w.heap.size,k,none⟩ (.bool b)).ownsRow w.heap.size 4 1 (.slice (some ⟨w.heap.size,0,none⟩) l.length l.length) l.length (BS (kP l k)):=fun b hb=>by
    rw[<- Ia hkl hb,<- uj];exact (hown.stored k (.bool b)).1
   have Xr:Hid ((aV l)[k]?=some (pN l[k] M)):=hN.val hkl
   have OW:Hid (pN l[k] M=true->rD l k (dQ l k nd) (iB l[k] M)):=fun h=>hN.yes hkl h
   have HNO:Hid (pN l[k] M=false->rD l k (dQ l k nd) M):=fun h=>hN.no hkl h
   generalize l[k]=t at *
   have hah:=fun w=>LZ t M w hs
   have hsx:=fun w=>uf t.op w hs.1
   have mx:wr.cell? ⟨W.heap.size,t.x,none⟩=some (.bool (M t.x)):=by
    have:=tQ M hs.2.1
    simp only[World.cell?,hM];simpa using this
   have hWl:=lt_of_block hM
   have ix:(t.x:Int) < 256:=by have:=hs.2.1;omega
   have ZM:Hid (pN t M=(!decide (t.op<=5) || M t.x)):=rfl
   have hne:¬ w.heap.size=W.heap.size:=by omega
   generalize decide (t.op<=5)=b5 at *
   generalize hmx:M t.x=bx at *
   clear hmx qH
   cases b5 with
   | false =>
    have hp:pN t M=true:=by rw[ZM.out];rfl
    have HV:Hid _:=hst true (by rw[Xr.out,hp])
    have FV:=OW.out hp
    have hms:Mod (fun q=>q=w.heap.size) wr (wr.setCell ⟨w.heap.size,k,none⟩ (.bool true)):=(Mod.refl _ wr).setCell ⟨w.heap.size,k,none⟩ (.bool true) (fun _=>rfl)
    have uG:Mod (fun _=>False) w ((wr.setCell ⟨w.heap.size,k,none⟩ (.bool true)).alloc (.cells #[.int .u8 t.op,.int .u8 t.x,.int .u8 t.y,.int .u8 t.z] 94)):=(hm.setCell ⟨w.heap.size,k,none⟩ (.bool true) (fun h=>absurd h (Nat.lt_irrefl _))).alloc _
    have Fg:Hid (((wr.setCell ⟨w.heap.size,k,none⟩ (.bool true)).alloc (.cells #[.int .u8 t.op,.int .u8 t.x,.int .u8 t.y,.int .u8 t.z] 94)).heap[W.heap.size]?=some (.cells (aH M) 98 (0,0))):=(hms.alloc _).keep hM (by omega)
    have hwr:w.heap.size < wr.heap.size:=by omega
    clear hms hst hN hp hown hm OW HNO hM
    go_wp2_with (first
     | (go_at_call 55;refine (hsx _).mono ?_;rintro e w3 ⟨rfl,rfl⟩)
     | (refine wpList_load_row rfl 98 _ rfl _ rfl (aH M) 98 (0,0) ?hb0 _ Tryz.underlying98 rfl (dH (aU _)) ?_;case hb0=>exact Fg.out))
    refine (hah _).mono ?_
    rintro e w3 ⟨rfl,aC⟩
    have Tn:Hid _:=aC.keep Fg.out (fun f=>f)
    have JB:=uG.trans aC
    have hown3:(w3.setRow W.heap.size (aH (iB t M))).ownsRow w.heap.size 4 1 (.slice (some ⟨w.heap.size,0,none⟩) l.length l.length) l.length (BS (kP l k)) :=
     dW (au (au HV.out ((Mod.refl (fun _=>False) _).alloc _) (fun _ _ f=>f)) aC (fun _ _ f=>f)) (qX w3 W.heap.size (aH (iB t M))) (fun g h1 h2=>by injection h1 with h1;subst h1;exact absurd h2 (by show ¬ w.heap.size=W.heap.size;omega))
    have HM4:Hid _:=qB (C':=aH (iB t M)) Tn.out
    have Yw:=oh (C:=aH (iB t M)) JB (b:=W.heap.size) (by omega)
    clear HV Fg aC JB uG
    go_wp2_with (refine wpList_store_row rfl 98 _ _ rfl _ (aH M) (aH (iB t M)) 98 rfl rfl ?hb1 (dH (aU _)) (by rw[aU,aU]) (lI _) ?_;case hb1=>exact Tn.out)
    go_roundw
    case rel=>exact⟨k,_,_,by omega,by go_num,FV,hown3,HM4.out,Yw⟩
    case measure=>simp[intOf]
   | true =>
    cases bx with
    | true =>
     have hp:pN t M=true:=by rw[ZM.out];rfl
     have HV:Hid _:=hst true (by rw[Xr.out,hp])
     have FV:=OW.out hp
     have hms:Mod (fun q=>q=w.heap.size) wr (wr.setCell ⟨w.heap.size,k,none⟩ (.bool true)):=(Mod.refl _ wr).setCell ⟨w.heap.size,k,none⟩ (.bool true) (fun _=>rfl)
     have uG:Mod (fun _=>False) w ((wr.setCell ⟨w.heap.size,k,none⟩ (.bool true)).alloc (.cells #[.int .u8 t.op,.int .u8 t.x,.int .u8 t.y,.int .u8 t.z] 94)):=(hm.setCell ⟨w.heap.size,k,none⟩ (.bool true) (fun h=>absurd h (Nat.lt_irrefl _))).alloc _
     have Fg:Hid (((wr.setCell ⟨w.heap.size,k,none⟩ (.bool true)).alloc (.cells #[.int .u8 t.op,.int .u8 t.x,.int .u8 t.y,.int .u8 t.z] 94)).heap[W.heap.size]?=some (.cells (aH M) 98 (0,0))):=(hms.alloc _).keep hM (by omega)
     have hwr:w.heap.size < wr.heap.size:=by omega
     clear hms hst hN hp hown hm OW HNO hM
     go_wp2_with (first
      | (go_at_call 55;refine (hsx _).mono ?_;rintro e w3 ⟨rfl,rfl⟩)
      | (refine wpList_load_row rfl 98 _ rfl _ rfl (aH M) 98 (0,0) ?hb0 _ Tryz.underlying98 rfl (dH (aU _)) ?_;case hb0=>exact Fg.out))
     refine (hah _).mono ?_
     rintro e w3 ⟨rfl,aC⟩
     have Tn:Hid _:=aC.keep Fg.out (fun f=>f)
     have JB:=uG.trans aC
     have hown3:(w3.setRow W.heap.size (aH (iB t M))).ownsRow w.heap.size 4 1 (.slice (some ⟨w.heap.size,0,none⟩) l.length l.length) l.length (BS (kP l k)) :=
      dW (au (au HV.out ((Mod.refl (fun _=>False) _).alloc _) (fun _ _ f=>f)) aC (fun _ _ f=>f)) (qX w3 W.heap.size (aH (iB t M))) (fun g h1 h2=>by injection h1 with h1;subst h1;exact absurd h2 (by show ¬ w.heap.size=W.heap.size;omega))
     have HM4:Hid _:=qB (C':=aH (iB t M)) Tn.out
     have Yw:=oh (C:=aH (iB t M)) JB (b:=W.heap.size) (by omega)
     clear HV Fg aC JB uG
     go_wp2_with (refine wpList_store_row rfl 98 _ _ rfl _ (aH M) (aH (iB t M)) 98 rfl rfl ?hb1 (dH (aU _)) (by rw[aU,aU]) (lI _) ?_;case hb1=>exact Tn.out)
     go_roundw
     case rel=>exact⟨k,_,_,by omega,by go_num,FV,hown3,HM4.out,Yw⟩
     case measure=>simp[intOf]
    | false =>
     have hp:pN t M=false:=by rw[ZM.out];rfl
     have hV:=hst false (by rw[Xr.out,hp])
     have FV:=HNO.out hp
     have hms:Mod (fun q=>q=w.heap.size) wr (wr.setCell ⟨w.heap.size,k,none⟩ (.bool false)):=(Mod.refl _ wr).setCell ⟨w.heap.size,k,none⟩ (.bool false) (fun _=>rfl)
     have uG:Mod (fun _=>False) w ((wr.setCell ⟨w.heap.size,k,none⟩ (.bool false)).alloc (.cells #[.int .u8 t.op,.int .u8 t.x,.int .u8 t.y,.int .u8 t.z] 94)):=(hm.setCell ⟨w.heap.size,k,none⟩ (.bool false) (fun h=>absurd h (Nat.lt_irrefl _))).alloc _
     have Fg:Hid (((wr.setCell ⟨w.heap.size,k,none⟩ (.bool false)).alloc (.cells #[.int .u8 t.op,.int .u8 t.x,.int .u8 t.y,.int .u8 t.z] 94)).heap[W.heap.size]?=some (.cells (aH M) 98 (0,0))):=(hms.alloc _).keep hM (by omega)
     have hV2:=au hV ((Mod.refl (fun _=>False) _).alloc (.cells #[.int .u8 t.op,.int .u8 t.x,.int .u8 t.y,.int .u8 t.z] 94)) (fun _ _ f=>f)
     have hwr:w.heap.size < wr.heap.size:=by omega
     clear hms hst hN hp hown hm OW HNO hM hV
     go_wp2_with (go_at_call 55;refine (hsx _).mono ?_;rintro e w3 ⟨rfl,rfl⟩)
     go_roundw
     case rel=>exact⟨k,_,_,by omega,by go_num,FV,hV2,Fg.out,uG⟩
     case measure=>simp[intOf]
theorem QB (v:Value) (l:List Stp) (base:Nat) (w:World) (hl:l.length<=3000) (hL:gM w base v l) (hsm:∀ t∈l,Small t) :
  Calls Tryz.prog 67 #[v] w fun e w'=>Mod (fun _=>False) w w'/\∃ u,e=.returned u/\gM w' w.heap.size u (cO l (aV l) l.length):=by
 obtain⟨i0,hi,hz0,hz1,hz2⟩:=info_parts Tryz.infoSt
 obtain⟨ao,cap,rfl,-⟩:=aj hL
 have HN:=Rx _ l base w hl hL hsm
 go_in
 go_wp2_with fail
 refine HN.mono ?_
 rintro e w1 ⟨hm1,u,rfl,hown⟩
 have OU:Hid ((aV l).length=l.length):=lX l
 generalize hnd:aV l=nd at *
 have ZK:Hid (aV l=nd):=hnd
 clear hnd
 obtain⟨uo,kZ,rfl,-⟩:=aj hown
 have hL1:=hL.mod hm1
 have hs1:=hm1.size
 clear HN hsm hL
 go_wp2_with fail
 go_loopw [4,11] (fun v kv wr=>∃ k:Nat,k<=l.length/\kv=.int .i64 k/\gM wr w1.heap.size v (cO l nd k)/\Mod (fun q=>w1.heap.size<=q) w1 wr/\(cO l nd k).length<=k) (fun _ kv _=>l.length - (intOf kv).toNat)
 case atStart=>exact⟨0,by omega,rfl,World.ownsRow_nil _ _ _ _,Mod.refl _ _,Nat.le_refl _⟩
 case round =>
  obtain⟨k,hk,rfl,hP,hm,hq⟩:=hrel
  unfold gM at hP
  obtain⟨po,VF,rfl,-⟩:=aj hP
  have fT:Mod (fun _=>False) w1 wr:=hm.mono (fun q hq h=>by omega)
  by_cases hlt:k < l.length
  ·have hkn:k < nd.length:=by rw[OU.out];exact hlt
   have qH:=hL1.mod fT
   obtain⟨gb,rfl,c0,c1,c2,c3⟩:=qH.cell hlt
   have Qo:=au hown fT (fun _ _ f=>f)
   obtain⟨ub,rfl,ck⟩:=kQ Qo OU.out.symm hkn
   have hul:=(Qo.lt ub rfl).2
   have hma:=hm.alloc (.cells #[.int .u8 l[k].op,.int .u8 l[k].x,.int .u8 l[k].y,.int .u8 l[k].z] 94)
   have hPa:=au hP ((Mod.refl (fun _=>False) wr).alloc (.cells #[.int .u8 l[k].op,.int .u8 l[k].x,.int .u8 l[k].y,.int .u8 l[k].z] 94)) (fun _ _ f=>f)
   have hsr:=hm.size
   clear qH Qo fT
   cases hdk:nd[k] with
   | false =>
    rw[hdk]at ck
    have HK:Hid (cO l nd (k+1)=cO l nd k):=M0 hkn hdk
    have Fb:Hid (gM (wr.alloc (.cells #[.int .u8 l[k].op,.int .u8 l[k].x,.int .u8 l[k].y,.int .u8 l[k].z] 94)) w1.heap.size (.slice po (cO l nd k).length VF) (cO l nd (k+1))):=show gM _ _ _ _ by
     rw[HK.out];exact hPa
    generalize hkl:(cO l nd k).length=kl at *
    have ZI:Hid ((cO l nd (k+1)).length<=k+1):=show _<=_ by rw[HK.out,hkl];omega
    clear hkl hdk
    go_wp2
    go_roundw
    case rel=>exact⟨k+1,by omega,by go_num,Fb.out,hma,ZI.out⟩
    case measure=>simp[intOf];omega
   | true =>
    rw[hdk]at ck
    have HK:Hid (cO l nd (k+1)=cO l nd k++[l[k]]):=JJ hkn hlt hdk
    generalize hkt:cO l nd k=kt at *
    generalize l[k]=t at *
    clear hkt hdk
    go_wp2_with (at_builtin;refine wpList_append_own _ rfl _ _ 61 rfl w1.heap.size 94 i0 _ 4 4 Tryz.underlying61 hi hz0 hz1 hz2 rfl (by decide) _ _ _ rfl (hPa.alloc _) ⟨wr.heap.size+1,0,none⟩ 1 1 (fO t) rfl rfl ?c1 ?c2 ?c3 ?c4 ?c5 ?_)
    case c1=>exact World.news_of_block (cs:=#[.int .u8 t.op,.int .u8 t.x,.int .u8 t.y,.int .u8 t.z]) (t:=94) (fr:=(0,0)) (dJ wr _ _).2
    case c2=>simp[fO,Value.oneCell']
    case c3=>unfold maxLen;omega
    case c4=>omega
    case c5=>simp;omega
    intro v' w4 aG hgrow _
    have hgm:Mod (fun i=>w1.heap.size<=i) wr w4:=(((Mod.refl _ wr).alloc _).alloc _).grown hgrow (fun i hi _=>(hP.lt i hi).1)
    have aO:=hm.trans hgm
    have HP4:Hid (gM w4 w1.heap.size v' (cO l nd (k+1))):=show gM _ _ _ _ by
     rw[HK.out];unfold gM;rw[<- pJ];simpa using aG
    have ZI:Hid ((cO l nd (k+1)).length<=k+1):=show _<=_ by rw[HK.out];simp;omega
    clear aG hgrow hgm hP hPa hm hma
    go_wp2
    go_roundw
    case rel=>exact⟨k+1,by omega,by go_num,HP4.out,aO,ZI.out⟩
    case measure=>simp[intOf];omega
  ·have hks:k=l.length:=by omega
   subst hks
   have hE:gM wr w.heap.size (.slice po (cO l nd l.length).length VF) (cO l nd l.length):=bI hP (by omega)
   have gy:=hm1.trans fT
   go_wp2
   go_ret
   exact⟨gy,_,rfl,by rw[ZK.out];exact hE⟩
end Go.Proofs.YtmnfndpbblpjiabGreatDoor

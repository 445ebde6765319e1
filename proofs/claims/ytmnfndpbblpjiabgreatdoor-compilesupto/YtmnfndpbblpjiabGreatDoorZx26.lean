/- The maker's methods at every word. -/
import Derived.Test.YtmnfndpbblpjiabGreatDoorZx25
set_option maxHeartbeats 3200000
set_option maxRecDepth 100000
namespace Go.Proofs.YtmnfndpbblpjiabGreatDoor
open Go.RowKit Pu
theorem QI (wd:List UInt8) (hw:(fm wd).2=63) (mb:Nat) (L:List Stp) (s i:Nat) (t:Th) (w:World) (hM:dS w mb L s i) (hr:Room L s 54) (h8:xB t) :
  Calls Tryz.prog 48 #[mP mb,S wd,vI t] w fun e w'=>e=.returned (rV (s+(Cg wd s t).2))/\ah w w' mb (L++(Cg wd s t).1) (s+(Cg wd s t).2+1) i:=by
 rcases bW (w:=wd) (by omega) with rfl | rfl | rfl | rfl | rfl | rfl | rfl | rfl | rfl | rfl | rfl | rfl | rfl | rfl | rfl | rfl | rfl | rfl
 ·cases hw
 ·cases hw
 ·cases hw
 ·cases hw
 ·cases hw
 ·cases hw
 ·cases hw
 ·cases hw
 ·cases hw
 ·exact Nl mb L s i t w hM (hr.mono (by omega)) h8
 ·exact QL mb L s i t w hM (hr.mono (by omega)) h8
 ·exact QK mb L s i t w hM (hr.mono (by omega)) h8
 ·exact QJ mb L s i t w hM (hr.mono (by omega)) h8
 ·exact QM mb L s i t w hM (hr.mono (by omega)) h8
 ·exact U0 mb L s i t w hM (hr.mono (by omega)) h8
 ·exact QN mb L s i t w hM (hr.mono (by omega)) h8
 ·exact QO mb L s i t w hM (hr.mono (by omega)) h8
 ·exact UZ mb L s i t w hM (hr.mono (by omega)) h8
theorem QU (wd:List UInt8) (hw:(fm wd).2=80\/(fm wd).2=76) (mb:Nat) (L:List Stp) (s i:Nat) (t:Th) (w:World) (hM:dS w mb L s i) (hr:Room L s 61) (h8:xB t) (hi:i < 100) :
  Calls Tryz.prog 50 #[mP mb,S wd,vI t] w fun e w'=>e=.returned (dZ (o9 wd s i t).2.1)/\ah w w' mb (L++(o9 wd s i t).1) (s+(o9 wd s i t).1.length) (o9 wd s i t).2.2:=by
 rcases bW (w:=wd) (by omega) with rfl | rfl | rfl | rfl | rfl | rfl | rfl | rfl | rfl | rfl | rfl | rfl | rfl | rfl | rfl | rfl | rfl | rfl
 ·exact U1 mb L s i t w hM (hr.mono (by omega)) h8 hi
 ·exact QV mb L s i t w hM (hr.mono (by omega)) h8
 ·exact Np mb L s i t w hM (hr.mono (by omega)) h8
 ·exact QW mb L s i t w hM (hr.mono (by omega)) h8
 ·exact Nr mb L s i t w hM (hr.mono (by omega)) h8
 ·exact Nq mb L s i t w hM (hr.mono (by omega)) h8
 ·exact Nn mb L s i t w hM (hr.mono (by omega)) h8
 ·exact Gv mb L s i t w hM (hr.mono (by omega)) h8
 ·exact Gu mb L s i t w hM (hr.mono (by omega)) h8
 ·rcases hw with hw | hw<;>cases hw
 ·rcases hw with hw | hw<;>cases hw
 ·rcases hw with hw | hw<;>cases hw
 ·rcases hw with hw | hw<;>cases hw
 ·rcases hw with hw | hw<;>cases hw
 ·rcases hw with hw | hw<;>cases hw
 ·rcases hw with hw | hw<;>cases hw
 ·rcases hw with hw | hw<;>cases hw
 ·rcases hw with hw | hw<;>cases hw
theorem Q8 (wd:List UInt8) (hw:(fm wd).2=80\/(fm wd).2=76) (mb:Nat) (L:List Stp) (s i:Nat) (m:Tr) (k:Nat) (w:World) (hM:dS w mb L s i) (hr:Room L s 4) (h8:S8 m) (hk:k < 16) :
  Calls Tryz.prog 51 #[mP mb,S wd,dZ m,.int .i64 k] w fun e w'=>e=.returned (.tuple #[])/\ah w w' mb (L++UE wd s m k) (s+Ju wd) i:=by
 rcases bW (w:=wd) (by omega) with rfl | rfl | rfl | rfl | rfl | rfl | rfl | rfl | rfl | rfl | rfl | rfl | rfl | rfl | rfl | rfl | rfl | rfl
 ·exact U9 mb L s i m k w hM hr h8 hk
 ·exact Q9 mb L s i m k w hM hr h8 hk
 ·exact Nz mb L s i m k w hM hr h8 hk
 ·exact Ra mb L s i m k w hM hr h8 hk
 ·exact NC mb L s i m k w hM hr h8 hk
 ·exact NA mb L s i m k w hM hr h8 hk
 ·exact Ny mb L s i m k w hM hr h8 hk
 ·exact GA mb L s i m k w hM hr h8 hk
 ·exact Gz mb L s i m k w hM hr h8 hk
 ·rcases hw with hw | hw<;>cases hw
 ·rcases hw with hw | hw<;>cases hw
 ·rcases hw with hw | hw<;>cases hw
 ·rcases hw with hw | hw<;>cases hw
 ·rcases hw with hw | hw<;>cases hw
 ·rcases hw with hw | hw<;>cases hw
 ·rcases hw with hw | hw<;>cases hw
 ·rcases hw with hw | hw<;>cases hw
 ·rcases hw with hw | hw<;>cases hw
theorem ND (wd:List UInt8) (hw:(fm wd).2=80\/(fm wd).2=76) (mb:Nat) (L:List Stp) (s i:Nat) (m:Tr) (k:Nat) (w:World) (hM:dS w mb L s i) (hr:Room L s 4) (h8:S8 m) (hk:k < 16) :
  Calls Tryz.prog 52 #[mP mb,S wd,dZ m,.int .i64 k] w fun e w'=>e=.returned (.tuple #[])/\ah w w' mb (L++K9 wd s m k) (s+1) i:=by
 rcases bW (w:=wd) (by omega) with rfl | rfl | rfl | rfl | rfl | rfl | rfl | rfl | rfl | rfl | rfl | rfl | rfl | rfl | rfl | rfl | rfl | rfl
 ·exact Rf mb L s i m k w hM hr h8 hk
 ·exact NG mb L s i m k w hM hr h8 hk
 ·exact JR mb L s i m k w hM hr h8 hk
 ·exact NH mb L s i m k w hM hr h8 hk
 ·exact JV mb L s i m k w hM hr h8 hk
 ·exact JU mb L s i m k w hM hr h8 hk
 ·exact JQ mb L s i m k w hM hr h8 hk
 ·exact Ej mb L s i m k w hM hr h8 hk
 ·exact Ei mb L s i m k w hM hr h8 hk
 ·rcases hw with hw | hw<;>cases hw
 ·rcases hw with hw | hw<;>cases hw
 ·rcases hw with hw | hw<;>cases hw
 ·rcases hw with hw | hw<;>cases hw
 ·rcases hw with hw | hw<;>cases hw
 ·rcases hw with hw | hw<;>cases hw
 ·rcases hw with hw | hw<;>cases hw
 ·rcases hw with hw | hw<;>cases hw
 ·rcases hw with hw | hw<;>cases hw
theorem Ue (wd:List UInt8) (hw:(fm wd).2=63) (t:Th):(Cg wd 48 t).1.length<=60/\(Cg wd 48 t).2<=60:=by
 rcases bW (w:=wd) (by omega) with rfl | rfl | rfl | rfl | rfl | rfl | rfl | rfl | rfl | rfl | rfl | rfl | rfl | rfl | rfl | rfl | rfl | rfl
 ·cases hw
 ·cases hw
 ·cases hw
 ·cases hw
 ·cases hw
 ·cases hw
 ·cases hw
 ·cases hw
 ·cases hw
 ·exact⟨Nat.le_of_ble_eq_true rfl,Nat.le_of_ble_eq_true rfl⟩
 ·exact⟨Nat.le_of_ble_eq_true rfl,Nat.le_of_ble_eq_true rfl⟩
 ·exact⟨Nat.le_of_ble_eq_true rfl,Nat.le_of_ble_eq_true rfl⟩
 ·exact⟨Nat.le_of_ble_eq_true rfl,Nat.le_of_ble_eq_true rfl⟩
 ·exact⟨Nat.le_of_ble_eq_true rfl,Nat.le_of_ble_eq_true rfl⟩
 ·exact⟨Nat.le_of_ble_eq_true rfl,Nat.le_of_ble_eq_true rfl⟩
 ·exact⟨Nat.le_of_ble_eq_true rfl,Nat.le_of_ble_eq_true rfl⟩
 ·exact⟨Nat.le_of_ble_eq_true rfl,Nat.le_of_ble_eq_true rfl⟩
 ·exact⟨Nat.le_of_ble_eq_true rfl,Nat.le_of_ble_eq_true rfl⟩
theorem Uo (wd:List UInt8) (hw:(fm wd).2=80\/(fm wd).2=76) (i:Nat) (t:Th):(o9 wd 48 i t).1.length<=61/\S8 (o9 wd 48 i t).2.1/\(o9 wd 48 i t).2.2<=i+2:=by
 rcases bW (w:=wd) (by omega) with rfl | rfl | rfl | rfl | rfl | rfl | rfl | rfl | rfl | rfl | rfl | rfl | rfl | rfl | rfl | rfl | rfl | rfl
 ·exact⟨Nat.le_of_ble_eq_true rfl,⟨Nat.le_of_ble_eq_true rfl,Nat.le_of_ble_eq_true rfl,Nat.le_of_ble_eq_true rfl⟩,Nat.le_refl _⟩
 ·exact⟨Nat.le_of_ble_eq_true rfl,⟨Nat.le_of_ble_eq_true rfl,Nat.le_of_ble_eq_true rfl,Nat.le_of_ble_eq_true rfl⟩,Nat.le_add_right i 2⟩
 ·exact⟨Nat.le_of_ble_eq_true rfl,⟨Nat.le_of_ble_eq_true rfl,Nat.le_of_ble_eq_true rfl,Nat.le_of_ble_eq_true rfl⟩,Nat.le_add_right i 2⟩
 ·exact⟨Nat.le_of_ble_eq_true rfl,⟨Nat.le_of_ble_eq_true rfl,Nat.le_of_ble_eq_true rfl,Nat.le_of_ble_eq_true rfl⟩,Nat.le_add_right i 2⟩
 ·exact⟨Nat.le_of_ble_eq_true rfl,⟨Nat.le_of_ble_eq_true rfl,Nat.le_of_ble_eq_true rfl,Nat.le_of_ble_eq_true rfl⟩,Nat.le_add_right i 2⟩
 ·exact⟨Nat.le_of_ble_eq_true rfl,⟨Nat.le_of_ble_eq_true rfl,Nat.le_of_ble_eq_true rfl,Nat.le_of_ble_eq_true rfl⟩,Nat.le_add_right i 2⟩
 ·exact⟨Nat.le_of_ble_eq_true rfl,⟨Nat.le_of_ble_eq_true rfl,Nat.le_of_ble_eq_true rfl,Nat.le_of_ble_eq_true rfl⟩,Nat.le_add_right i 2⟩
 ·exact⟨Nat.le_of_ble_eq_true rfl,⟨Nat.le_of_ble_eq_true rfl,Nat.le_of_ble_eq_true rfl,Nat.le_of_ble_eq_true rfl⟩,Nat.le_add_right i 2⟩
 ·exact⟨Nat.le_of_ble_eq_true rfl,⟨Nat.le_of_ble_eq_true rfl,Nat.le_of_ble_eq_true rfl,Nat.le_of_ble_eq_true rfl⟩,Nat.le_add_right i 2⟩
 ·rcases hw with hw | hw<;>cases hw
 ·rcases hw with hw | hw<;>cases hw
 ·rcases hw with hw | hw<;>cases hw
 ·rcases hw with hw | hw<;>cases hw
 ·rcases hw with hw | hw<;>cases hw
 ·rcases hw with hw | hw<;>cases hw
 ·rcases hw with hw | hw<;>cases hw
 ·rcases hw with hw | hw<;>cases hw
 ·rcases hw with hw | hw<;>cases hw
theorem KZ (wd:List UInt8) (hw:(fm wd).2=80\/(fm wd).2=76) (s:Nat) (m:Tr) (k:Nat):(UE wd s m k).length<=4/\Ju wd<=3/\(K9 wd s m k).length=4:=by
 rcases bW (w:=wd) (by omega) with rfl | rfl | rfl | rfl | rfl | rfl | rfl | rfl | rfl | rfl | rfl | rfl | rfl | rfl | rfl | rfl | rfl | rfl
 ·exact⟨Nat.le_of_ble_eq_true rfl,Nat.le_of_ble_eq_true rfl,rfl⟩
 ·exact⟨Nat.le_of_ble_eq_true rfl,Nat.le_of_ble_eq_true rfl,rfl⟩
 ·exact⟨Nat.le_of_ble_eq_true rfl,Nat.le_of_ble_eq_true rfl,rfl⟩
 ·exact⟨Nat.le_of_ble_eq_true rfl,Nat.le_of_ble_eq_true rfl,rfl⟩
 ·exact⟨Nat.le_of_ble_eq_true rfl,Nat.le_of_ble_eq_true rfl,rfl⟩
 ·exact⟨Nat.le_of_ble_eq_true rfl,Nat.le_of_ble_eq_true rfl,rfl⟩
 ·exact⟨Nat.le_of_ble_eq_true rfl,Nat.le_of_ble_eq_true rfl,rfl⟩
 ·exact⟨Nat.le_of_ble_eq_true rfl,Nat.le_of_ble_eq_true rfl,rfl⟩
 ·exact⟨Nat.le_of_ble_eq_true rfl,Nat.le_of_ble_eq_true rfl,rfl⟩
 ·rcases hw with hw | hw<;>cases hw
 ·rcases hw with hw | hw<;>cases hw
 ·rcases hw with hw | hw<;>cases hw
 ·rcases hw with hw | hw<;>cases hw
 ·rcases hw with hw | hw<;>cases hw
 ·rcases hw with hw | hw<;>cases hw
 ·rcases hw with hw | hw<;>cases hw
 ·rcases hw with hw | hw<;>cases hw
 ·rcases hw with hw | hw<;>cases hw
theorem XQ (wd:List UInt8) (hw:(fm wd).2=80\/(fm wd).2=76) (i:Nat) (t:Th):(o9 wd 48 i t).2.2=i+(if (wd == [112,116])=true then 2 else 0):=by
 rcases bW (w:=wd) (by omega) with rfl | rfl | rfl | rfl | rfl | rfl | rfl | rfl | rfl | rfl | rfl | rfl | rfl | rfl | rfl | rfl | rfl | rfl
 ·rfl
 ·rfl
 ·rfl
 ·rfl
 ·rfl
 ·rfl
 ·rfl
 ·rfl
 ·rfl
 ·rcases hw with hw | hw<;>cases hw
 ·rcases hw with hw | hw<;>cases hw
 ·rcases hw with hw | hw<;>cases hw
 ·rcases hw with hw | hw<;>cases hw
 ·rcases hw with hw | hw<;>cases hw
 ·rcases hw with hw | hw<;>cases hw
 ·rcases hw with hw | hw<;>cases hw
 ·rcases hw with hw | hw<;>cases hw
 ·rcases hw with hw | hw<;>cases hw
theorem WY {k:Nat} (h:k < 16):S8 (hm k):=⟨by show 3*k < 256;omega,by show 3*k+1 < 256;omega,by show 3*k+2 < 256;omega⟩
theorem CS:∀ (r r':List eY) (k i:Nat),bZ (r++r') k i=bZ r k i++bZ r' (k+r.length) (i+aY r)
 | [],r',k,i=>by simp[bZ,aY]
 | c :: r,r',k,i=>by
  have ih:=CS r r' (k+1) (i+iZ c)
  simp only[List.cons_append,bZ,ih,List.append_assoc,List.length_cons,aY,List.map_cons,List.sum_cons]
  congr 3<;>omega
def LK (p:List (St × Nat)) (k:Nat):List Stp:=bZ ((cmds (aL p)).take k) 0 0
def IK (p:List (St × Nat)) (k:Nat):Nat:=aY ((cmds (aL p)).take k)
theorem TR {p:List (St × Nat)} (h:Ok p) {k:Nat} (hk:k < p.length):LK p (k+1)=LK p k++yJ (aL p) k (IK p k) p[k].1/\IK p (k+1)=IK p k+(if (p[k].1.word == [112,116])=true then 2 else 0):=by
 have hk2:k < (cmds (aL p)).length:=by rw[iE];exact hk
 have e:(cmds (aL p)).take (k+1)=(cmds (aL p)).take k++[aT (aL p) p[k].1]:=by rw[List.take_succ_eq_append_getElem hk2,tO hk]
 constructor
 ·unfold LK IK
  rw[e,CS,List.length_take,Nat.min_eq_left (Nat.le_of_lt hk2),Zd h hk]
  simp[bZ]
 ·unfold IK
  rw[e,<- UU h hk]
  simp[aY]
theorem Xz (p:List (St × Nat)) (k:Nat):(LK p k).length<=70*k:=by
 unfold LK
 have h1:=xM ((cmds (aL p)).take k) 0 0
 have h2:((cmds (aL p)).take k).length<=k:=List.length_take_le _ _
 omega
theorem Xx (p:List (St × Nat)) (k:Nat):IK p k<=2*k:=by
 unfold IK
 have h1:=zF ((cmds (aL p)).take k)
 have h2:((cmds (aL p)).take k).length<=k:=List.length_take_le _ _
 omega
theorem Xy (p:List (St × Nat)):LK p p.length=bZ (cmds (aL p)) 0 0/\IK p p.length=aY (cmds (aL p)):=by
 unfold LK IK
 rw[List.take_of_length_le (by rw[iE];exact Nat.le_refl _)]
 exact⟨rfl,rfl⟩
theorem Se.kp {w w':World} {mb sb n:Nat} {wd:List UInt8} {av:Value} {wt:Int} (h:Se w sb n wd av wt) (hk:Kp mb w w'):Se w' sb n wd av wt:=hk.keep h (by decide) (by decide)
theorem dS.nil {w:World} {mb:Nat} (h:w.heap[mb]?=some (.cells #[.slice none 0 0,.int .u8 0,.int .u8 0] 82 (0,0))):dS w mb [] 0 0:=⟨.slice none 0 0,h,World.ownsRow_nil _ _ _ _⟩
theorem Mod.trans' {w a b:World} {mb:Nat} (h:Mod (fun _=>False) w a) (k:Kp mb a b) (hb:w.heap.size<=mb:=by omega):Mod (fun _=>False) w b :=
 ⟨k.os.trans h.os,k.tape.trans h.tape,k.output.trans h.output,Nat.le_trans h.size k.size,fun i hi _=>(k.block i (Nat.lt_of_lt_of_le hi h.size) (fun f=>by have:=f.2;omega)).trans (h.block i hi (fun f=>f))⟩
structure StK (q:List It) (k:Nat) (hk:k < q.length):Prop where
 ar:q[k].x.args.length<=4
 gv:∀ i (hi:i < q[k].x.args.length),∃ j,j < 16/\gN (q.map It.x) q[k].x.args[i].toNat=((j:Nat):Int)
 s12:xB (uJ (q.map It.x) q[k].x)
 qs:q[k].x.name=0->(fm q[k].x.word).2=63
 cs:q[k].x.name≠0->(fm q[k].x.word).2=80\/(fm q[k].x.word).2=76
theorem Uz (w:List UInt8):(fm w).2=80\/(fm w).2=76\/(fm w).2=63\/(fm w).2=0:=by
 by_cases h:(fm w).2=0
 ·exact .inr (.inr (.inr h))
 ·rcases bW h with rfl | rfl | rfl | rfl | rfl | rfl | rfl | rfl | rfl | rfl | rfl | rfl | rfl | rfl | rfl | rfl | rfl | rfl<;>decide
theorem stK {q:List It} (h:Ok (pq q)) (hq:q.length<=16) {k:Nat} (hk:k < q.length):StK q k hk:=by
 have hk2:k < (pq q).length:=by simpa [pq] using hk
 have hx:(pq q)[k].1=q[k].x:=by simp[pq]
 obtain⟨he,-⟩:=h k hk2
 obtain⟨hkn,hl,-,-,-⟩:=fQ he
 rw[hx]at hkn hl
 have h4:=uV q[k].x.word
 have hgv:∀ i (hi:i < q[k].x.args.length),∃ j,j < 16/\ix (q.map It.x) q[k].x i=j/\gN (q.map It.x) q[k].x.args[i].toNat=((j:Nat):Int):=fun i hi=>by
  obtain⟨j,hj,e1,e2,-,-⟩:=DF h hk2 (i:=i) (by rw[hx];exact hi)
  rw[hx,fH]at e1 e2
  have hag:ag q[k].x i=q[k].x.args[i].toNat:=by simp[ag,hi]
  exact⟨j,by omega,e1,by rw[<- hag];exact e2⟩
 have h8:∀ i,S8 (E9 (q.map It.x) q[k].x i):=fun i=>by
  unfold E9
  split
  ·rename_i hi
   obtain⟨j,hj,e,-⟩:=hgv i hi
   rw[e];exact WY hj
  ·exact⟨by decide,by decide,by decide⟩
 unfold known at hkn
 rw[Bool.and_eq_true]at hkn
 have h0:(fm q[k].x.word).2≠0:=by simpa using hkn.1
 have hb:=hkn.2
 refine⟨by omega,fun i hi=>?_,⟨h8 0,h8 1,h8 2,h8 3⟩,fun e=>?_,fun e=>?_⟩
 ·obtain⟨j,hj,-,e⟩:=hgv i hi
  exact⟨j,hj,e⟩
 ·simpa [e] using hb
 ·have:¬ (fm q[k].x.word).2=63:=by simpa [e] using hb
  rcases Uz q[k].x.word with h | h | h | h
  ·exact .inl h
  ·exact .inr h
  ·exact absurd h this
  ·exact absurd h h0
def ZX (q:List It) (w:World) (e:Ending) (w':World):Prop :=
 Mod (fun _=>False) w w'/\∃ ao n cap,e=.returned (.agg #[.int .u8 128,.int .u8 (aY (cmds (q.map It.x)):Nat),.slice ao n cap])/\gM w' w.heap.size (.slice ao n cap) (bZ (cmds (q.map It.x)) 0 0)
theorem Dt (v:Value) (q:List It) (base:Nat) (w:World) (hq:q.length<=16) (hL:vM w base v q) (hok:Ok (pq q)):Calls Tryz.prog 32 #[v] w (ZX q w):=by
 obtain⟨ao,cap,rfl,-⟩:=hL.form
 have HOK:Hid (Ok (pq q)):=hok
 have EY:Hid ((pq q).length=q.length):=show (pq q).length=q.length by simp[pq]
 clear hok
 have hm0:Mod (fun _=>False) w ((w.alloc (.cells #[.int .u8 0,.int .u8 0,.slice none 0 0] 63)).alloc (.cells #[.slice none 0 0,.int .u8 0,.int .u8 0] 82)):=((Mod.refl _ w).alloc _).alloc _
 have ow:((w.alloc (.cells #[.int .u8 0,.int .u8 0,.slice none 0 0] 63)).alloc (.cells #[.slice none 0 0,.int .u8 0,.int .u8 0] 82)).heap[w.heap.size]?=some (.cells #[.int .u8 0,.int .u8 0,.slice none 0 0] 63 (0,0)):=(dJ w _ _).1
 have gq:dS ((w.alloc (.cells #[.int .u8 0,.int .u8 0,.slice none 0 0] 63)).alloc (.cells #[.slice none 0 0,.int .u8 0,.int .u8 0] 82)) (w.heap.size+1) [] 0 0:=dS.nil (dJ w _ _).2
 have HH:Hid _:=zI hm0 (zI ow gq)
 clear hm0 ow gq
 go_in
 go_wp2_with fail
 generalize (w.alloc (.cells #[.int .u8 0,.int .u8 0,.slice none 0 0] 63)).alloc (.cells #[.slice none 0 0,.int .u8 0,.int .u8 0] 82)=w0 at *
 obtain⟨hm0,ow,gq⟩:=HH.out
 clear HH
 go_loopw [11] (fun i wr=>∃ k sp:Nat,k<=q.length/\i=.int .i64 k/\Mod (fun _=>False) w wr/\wr.heap[w.heap.size]?=some (.cells #[.int .u8 0,.int .u8 0,.slice none 0 0] 63 (0,0))/\dS wr (w.heap.size+1) (LK (pq q) k) sp (IK (pq q) k)) (fun i _=>q.length - (intOf i).toNat)
 case atStart=>exact⟨0,0,by omega,rfl,hm0,ow,gq⟩
 case round =>
  clear hm0 ow gq
  obtain⟨k,sp,hk,rfl,hm1,ow,gq⟩:=hrel
  by_cases hlt:k < q.length
  ·have hK:=stK HOK.out hq hlt
   have hlen:=Xz (pq q) k
   have hins:=Xx (pq q) k
   have HN:Hid _:=TR HOK.out (show k < (pq q).length by rw[EY.out];exact hlt)
   have hx:(pq q)[k]'(by rw[EY.out];exact hlt)=(q[k].x,q[k].wt):=by simp[pq]
   have HN:Hid (LK (pq q) (k+1)=LK (pq q) k++yJ (q.map It.x) k (IK (pq q) k) q[k].x/\IK (pq q) (k+1)=IK (pq q) k+(if (q[k].x.word == [112,116])=true then 2 else 0)):=by
    have h:=HN.out
    rw[hx,fH]at h
    exact h
   clear hx
   generalize LK (pq q) k=LL at *
   generalize IK (pq q) k=II at *
   have qH:=hL.mod hm1 (fun _ _ _ f=>f)
   obtain⟨gb,rfl,c0,c1,c2,c3⟩:=qH.cell hlt
   have hAk:=hL.2 q[k] (List.getElem_mem hlt)
   obtain⟨aa,aK,hae,-⟩:=aj hAk
   obtain⟨kar,kgv,k12,kqs,kcs⟩:=hK
   have KGV:Hid _:=kgv
   clear kgv
   have MU:=(qH.1.lt gb rfl).2
   generalize hxe:q[k].x=x at *
   generalize hve:q[k].av=av at *
   generalize hwe:(q[k].wt:Int)=IQ at *
   subst hae
   clear hxe hve hwe
   have acP:=gq.lt
   have aaj:=gq.alloc (.cells #[.int .u8 x.name,S x.word,.slice aa x.args.length aK,.int .i64 IQ] 72)
   obtain⟨m1,-,mf⟩:=aaj.cells
   have mf1:=mf 1
   obtain⟨aai,kB⟩:=gq.set1 48
   have PZ:=aai.alloc (.cells #[.int .u8 x.name,S x.word,.slice aa x.args.length aK,.int .i64 IQ] 72)
   have kAB:Kp (w.heap.size+1) wr ((wr.setCell ⟨w.heap.size+1,1,none⟩ (.int .u8 (48:Nat))).alloc (.cells #[.int .u8 x.name,S x.word,.slice aa x.args.length aK,.int .i64 IQ] 72)):=kB.alloc _
   have UL:Se ((wr.setCell ⟨w.heap.size+1,1,none⟩ (.int .u8 (48:Nat))).alloc (.cells #[.int .u8 x.name,S x.word,.slice aa x.args.length aK,.int .i64 IQ] 72)) wr.heap.size x.name x.word (.slice aa x.args.length aK) IQ:=by
    have h:=heap_alloc_new (wr.setCell ⟨w.heap.size+1,1,none⟩ (.int .u8 (48:Nat))) (.cells #[.int .u8 x.name,S x.word,.slice aa x.args.length aK,.int .i64 IQ] 72)
    rw[show (wr.setCell ⟨w.heap.size+1,1,none⟩ (.int .u8 (48:Nat))).heap.size=wr.heap.size by simp]at h
    exact h
   have uF:Mod (fun _=>False) w ((wr.setCell ⟨w.heap.size+1,1,none⟩ (.int .u8 (48:Nat))).alloc (.cells #[.int .u8 x.name,S x.word,.slice aa x.args.length aK,.int .i64 IQ] 72)):=hm1.trans' kAB
   have P6:=kAB.keep ow (by decide) (by decide)
   have s0:=UL.c0
   have s1:=UL.c1
   have s2:=UL.c2
   have s3:=UL.c3
   have HH:Hid _:=zI uF (zI P6 (zI PZ UL))
   clear aaj mf PZ kB kAB aai UL uF P6 hm1 ow gq qH
   go_wp2_with fail
   generalize (wr.setCell ⟨w.heap.size+1,1,none⟩ (.int .u8 48)).alloc (.cells #[.int .u8 x.name,S x.word,.slice aa x.args.length aK,.int .i64 IQ] 72)=wB at *
   clear c0 c1 c2 c3 m1 mf1 s0 s1 s2 s3
   obtain⟨uF,P6,PZ,UL⟩:=HH.out
   clear HH
   have hLB:=hL.mod uF (fun _ _ _ f=>f)
   have hAB:=au hAk uF (fun _ _ f=>f)
   refine (I6 _ q base x (.slice aa x.args.length aK) IQ wB hq kar hLB hAB KGV.out).mono ?_
   rintro e w2 ⟨he,k2⟩
   obtain⟨TT,hTT⟩:∃ TT,TT=uJ (q.map It.x) x:=⟨_,rfl⟩
   rw[<- hTT]at he k12
   have HTT:Hid (TT=uJ (q.map It.x) x):=hTT
   subst he
   clear hTT hLB hAB
   have aC:=(uF.trans k2).alloc (.cells #[rV TT.a.x,rV TT.a.y,rV TT.a.w,rV TT.b.x,rV TT.b.y,rV TT.b.w,rV TT.c.x,rV TT.c.y,rV TT.c.w,rV TT.d.x,rV TT.d.y,rV TT.d.w] 86)
   have P5:=(k2.alloc (.cells #[rV TT.a.x,rV TT.a.y,rV TT.a.w,rV TT.b.x,rV TT.b.y,rV TT.b.w,rV TT.c.x,rV TT.c.y,rV TT.c.w,rV TT.d.x,rV TT.d.y,rV TT.d.w] 86)).keep P6 (fun f=>f)
   have PX:=(PZ.mod k2).alloc (.cells #[rV TT.a.x,rV TT.a.y,rV TT.a.w,rV TT.b.x,rV TT.b.y,rV TT.b.w,rV TT.c.x,rV TT.c.y,rV TT.c.w,rV TT.d.x,rV TT.d.y,rV TT.d.w] 86)
   have uD:=UL.keep (k2.alloc (.cells #[rV TT.a.x,rV TT.a.y,rV TT.a.w,rV TT.b.x,rV TT.b.y,rV TT.b.w,rV TT.c.x,rV TT.c.y,rV TT.c.w,rV TT.d.x,rV TT.d.y,rV TT.d.w] 86)) (fun f=>f)
   have iN:=iC.new w2 TT
   have s0:=uD.c0
   have s1:=uD.c1
   have s2:=uD.c2
   have s3:=uD.c3
   have HH:Hid _:=zI aC (zI P5 (zI PX (zI uD iN)))
   clear aC P5 PX uD iN k2 uF P6 PZ UL
   go_wp2_with fail
   generalize w2.alloc (.cells #[rV TT.a.x,rV TT.a.y,rV TT.a.w,rV TT.b.x,rV TT.b.y,rV TT.b.w,rV TT.c.x,rV TT.c.y,rV TT.c.w,rV TT.d.x,rV TT.d.y,rV TT.d.w] 86)=w3 at *
   obtain⟨aC,P5,PX,uD,iN⟩:=HH.out
   clear HH s0 s1 s2 s3
   refine (fu x.name x.word (.slice aa x.args.length aK) IQ w3 rfl).mono ?_
   rintro e w4 ⟨rfl,k4⟩
   have aO:=aC.trans k4
   have pY:=k4.keep P5 (fun f=>f)
   have FM:=PX.mod k4
   have xP:=uD.keep k4 (fun f=>f)
   have nK:=iN.md k4
   clear aC P5 PX uD iN k4
   obtain⟨t0,t1,t2,t3,t4,t5,t6,t7,t8,t9,t10,t11⟩:=nK.cs
   have s1:=xP.c1
   have HH:Hid _:=zI aO (zI pY (zI FM (zI xP nK)))
   clear aO pY FM xP nK
   by_cases hn:x.name=0
   ·have hb:(x.name == 0)=true:=by simpa using hn
    have h63:=kqs hn
    have Ce:Hid (LK (pq q) (k+1)=LL++OQ x.word TT/\IK (pq q) (k+1)=II):=by
     obtain⟨a,b⟩:=HN.out
     refine⟨?_,?_⟩
     ·rw[a,yJ,if_pos hn,HTT.out]
     ·rw[b,if_neg (fun e=>?_)];rfl
      have e:x.word=[112,116]:=by simpa using e
      rw[e]at h63;cases h63
    clear HN kqs kcs hn
    go_wp2_with fail
    clear t0 t1 t2 t3 t4 t5 t6 t7 t8 t9 t10 t11 s1
    obtain⟨aO,pY,FM,xP,nK⟩:=HH.out
    clear HH
    obtain⟨la1,la2⟩:=Ue x.word h63 TT
    refine (QI x.word h63 (w.heap.size+1) LL 48 II TT w4 FM ⟨by omega,by omega⟩ k12).mono ?_
    rintro e w5 ⟨he,k5⟩
    obtain⟨vv,hvv⟩:∃ vv,vv=48+(Cg x.word 48 TT).2:=⟨_,rfl⟩
    have he2:e=.returned (rV vv):=by rw[hvv];exact he
    have Z7:vv < 256:=by omega
    have HV:Hid (vv=48+(Cg x.word 48 TT).2):=hvv
    subst he2
    clear he hvv
    have jH:=aO.trans' k5.1
    have Ab:=k5.1.keep pY (by decide) (by decide)
    have HH:Hid _:=zI jH (zI Ab k5.2)
    clear jH Ab k5 aO pY FM xP nK
    go_wp2_with fail
    obtain⟨jH,Ab,FN⟩:=HH.out
    clear HH
    refine (lV (w.heap.size+1) _ _ II ⟨6,vv,0,0⟩ w5 FN (by simp;omega) ⟨by show 6 < 256;omega,Z7,by show 0 < 256;omega,by show 0 < 256;omega⟩).mono ?_
    rintro e w6 ⟨rfl,k6,MG⟩
    have uN:=jH.trans' k6
    have FP:=k6.keep Ab (by decide) (by decide)
    have PY:dS w6 (w.heap.size+1) (LK (pq q) (k+1)) (48+(Cg x.word 48 TT).2+1) (IK (pq q) (k+1)):=by
     rw[Ce.out.1,Ce.out.2,OQ,<- HV.out,<- List.append_assoc]
     rw[HV.out]at MG ⊢
     exact MG
    have HX:Hid _:=zI uN (zI FP PY)
    clear jH Ab FN k6 MG uN FP PY
    go_wp2
    go_roundw
    case rel=>exact⟨k+1,_,by omega,by go_num,HX.out.1,HX.out.2.1,HX.out.2.2⟩
    case measure=>simp[intOf];omega
   ·have hb:(x.name == 0)=false:=by simpa using hn
    have hcs:=kcs hn
    have Ce:Hid (LK (pq q) (k+1)=LL++OJ x.word II k TT/\IK (pq q) (k+1)=II+(if (x.word == [112,116])=true then 2 else 0)):=by
     obtain⟨a,b⟩:=HN.out
     exact⟨by rw[a,yJ,if_neg hn,HTT.out],b⟩
    clear HN kqs kcs hn
    go_wp2_with fail
    clear t0 t1 t2 t3 t4 t5 t6 t7 t8 t9 t10 t11 s1
    obtain⟨aO,pY,FM,xP,nK⟩:=HH.out
    clear HH
    obtain⟨lc1,lc2,lc3⟩:=Uo x.word hcs II TT
    have HI:Hid _:=XQ x.word hcs II TT
    refine (QU x.word hcs (w.heap.size+1) LL 48 II TT w4 FM ⟨by omega,by omega⟩ k12 (by omega)).mono ?_
    rintro e w5 ⟨he,k5⟩
    have HCS:Hid (OJ x.word II k TT=(o9 x.word 48 II TT).1++(UE x.word (48+(o9 x.word 48 II TT).1.length) (o9 x.word 48 II TT).2.1 k++K9 x.word (48+(o9 x.word 48 II TT).1.length+Ju x.word) (o9 x.word 48 II TT).2.1 k)):=rfl
    generalize (o9 x.word 48 II TT).1=CL at *
    generalize (o9 x.word 48 II TT).2.1=m at *
    generalize (o9 x.word 48 II TT).2.2=I2 at *
    subst he
    obtain⟨lg1,lg2,lg3⟩:=KZ x.word hcs (48+CL.length) m k
    obtain⟨-,-,lg4⟩:=KZ x.word hcs (48+CL.length+Ju x.word) m k
    have jH:=(aO.trans' k5.1).alloc (.cells #[rV m.x,rV m.y,rV m.w] 84)
    have Ab:=(k5.1.alloc (.cells #[rV m.x,rV m.y,rV m.w] 84)).keep pY (by decide) (by decide)
    have FN:=k5.2.alloc (.cells #[rV m.x,rV m.y,rV m.w] 84)
    have hS5:=xP.kp (k5.1.alloc (.cells #[rV m.x,rV m.y,rV m.w] 84))
    have MF:kT (w5.alloc (.cells #[rV m.x,rV m.y,rV m.w] 84)) w5.heap.size m:=heap_alloc_new w5 _
    obtain⟨d0,d1,d2⟩:=cells3 MF
    have s1:=hS5.c1
    have HH:Hid _:=zI jH (zI Ab (zI FN (zI hS5 MF)))
    clear jH Ab FN hS5 MF k5 aO pY FM xP nK
    go_wp2_with fail
    generalize w5.alloc (.cells #[rV m.x,rV m.y,rV m.w] 84)=w5b at *
    clear d0 d1 d2 s1
    obtain⟨jH,Ab,FN,hS5,MF⟩:=HH.out
    clear HH
    refine (Q8 x.word hcs (w.heap.size+1) (LL++CL) (48+CL.length) I2 m k w5b FN ⟨by simp;omega,by omega⟩ lc2 (by omega)).mono ?_
    rintro e w6 ⟨rfl,k6⟩
    have uN:=jH.trans' k6.1
    have FP:=k6.1.keep Ab (by decide) (by decide)
    have Yj:=hS5.kp k6.1
    have aah:=aB.kp MF k6.1
    obtain⟨d0,d1,d2⟩:=cells3 aah
    have s1:=Yj.c1
    have HH:Hid _:=zI uN (zI FP k6.2)
    clear jH Ab FN hS5 MF uN FP k6 Yj aah
    go_wp2_with fail
    clear d0 d1 d2 s1
    obtain⟨uN,FP,MG⟩:=HH.out
    clear HH
    refine (ND x.word hcs (w.heap.size+1) _ (48+CL.length+Ju x.word) I2 m k w6 MG ⟨by simp;omega,by omega⟩ lc2 (by omega)).mono ?_
    rintro e w7 ⟨rfl,k7⟩
    have xS:=uN.trans' k7.1
    have aak:=k7.1.keep FP (by decide) (by decide)
    have PY:dS w7 (w.heap.size+1) (LK (pq q) (k+1)) (48+CL.length+Ju x.word+1) (IK (pq q) (k+1)):=by
     rw[Ce.out.1,Ce.out.2,<- HI.out,HCS.out,<- List.append_assoc,<- List.append_assoc]
     exact k7.2
    have HX:Hid _:=zI xS (zI aak PY)
    clear uN FP MG k7 xS aak PY
    go_wp2
    go_roundw
    case rel=>exact⟨k+1,_,by omega,by go_num,HX.out.1,HX.out.2.1,HX.out.2.2⟩
    case measure=>simp[intOf];omega
  ·have hks:k=q.length:=by omega
   subst hks
   obtain⟨e1,e2⟩:=Xy (pq q)
   rw[EY.out,fH]at e1 e2
   rw[e1,e2]at gq
   clear e1 e2
   have hN:aY (cmds (q.map It.x))<=32:=by
    have h1:=zF (cmds (q.map It.x))
    have h2:(cmds (q.map It.x)).length=q.length:=by simp[cmds]
    omega
   obtain⟨sv,hb,hP⟩:=gq
   obtain⟨so,Sw,rfl,-⟩:=aj hP
   obtain⟨c0,c1,c2⟩:=cells3 hb
   obtain⟨y0,y1,y2⟩:=cells3 ow
   have z0:=dN ow 0
   have z1:=dN ow 1
   have z2:=dN ow 2
   have hlt2:=lt_of_block hb
   obtain⟨NN,hNN⟩:∃ NN,NN=aY (cmds (q.map It.x)):=⟨_,rfl⟩
   rw[<- hNN]at hb c2 hN
   have KP:Hid (NN=aY (cmds (q.map It.x))):=hNN
   clear hNN
   have HC:Hid _:=cells3 (dD (x':=.int .u8 128) (y':=.int .u8 (NN:Nat)) (z':=.slice so (bZ (cmds (q.map It.x)) 0 0).length Sw) ow)
   have gy:=qz hm1 w.heap.size (.int .u8 128) (.int .u8 (NN:Nat)) (.slice so (bZ (cmds (q.map It.x)) 0 0).length Sw) (Nat.le_refl _)
   have hPE:=bI (base':=w.heap.size) (au hP (wU wr w.heap.size (.int .u8 128) (.int .u8 (NN:Nat)) (.slice so (bZ (cmds (q.map It.x)) 0 0).length Sw)) (fun g h1 h2=>by omega)) (by omega)
   have HE:Hid _:=zI gy hPE
   clear gy hPE hm1 ow hb hP
   go_wp2_with fail
   obtain⟨g0,g1,g2⟩:=HC.out
   unfold gL at g0 g1 g2
   exact bodyPost_ret (v:=.agg #[.int .u8 128,.int .u8 (NN:Nat),.slice so (bZ (cmds (q.map It.x)) 0 0).length Sw]) (by simp[results,Tryz.results32,go_sem,g0,g1,g2]) rfl ⟨HE.out.1,so,_,Sw,by rw[KP.out],HE.out.2⟩
end Go.Proofs.YtmnfndpbblpjiabGreatDoor

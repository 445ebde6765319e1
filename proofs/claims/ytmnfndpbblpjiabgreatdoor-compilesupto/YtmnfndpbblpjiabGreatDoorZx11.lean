/- Needs and Weight, on both sides. -/
import Derived.Test.YtmnfndpbblpjiabGreatDoorZx10
set_option maxHeartbeats 800000
set_option maxRecDepth 100000
namespace Go.Proofs.YtmnfndpbblpjiabGreatDoor
open Go.RowKit Pu
def IE (x:St):Nat:=if (x.name != 0 && x.word == [112,116])=true then 2 else 0
def RY (x:St):Nat:=if (x.word == [112,116])=true then 2 else 0
def JY (l:List St):Nat:=(l.map IE).sum
def Rw (l:List St):Nat:=(l.map RY).sum
theorem AP (l:List St) (x:St):JY (l++[x])=JY l+IE x:=by simp[JY]
theorem GQ (l:List St) (x:St):Rw (l++[x])=Rw l+RY x:=by simp[Rw]
theorem YJ (l:List St):JY l<=2*l.length:=by
 induction l with
 | nil=>simp[JY]
 | cons x l ih =>
  simp only[JY,List.map_cons,List.sum_cons,List.length_cons]at *
  have:IE x<=2:=by unfold IE;split<;>omega
  omega
theorem YI (l:List St):Rw l<=2*l.length:=by
 induction l with
 | nil=>simp[Rw]
 | cons x l ih =>
  simp only[Rw,List.map_cons,List.sum_cons,List.length_cons]at *
  have:RY x<=2:=by unfold RY;split<;>omega
  omega
theorem Vb {p:List (St × Nat)} (h:Ok p):Rw (aL p)=JY (aL p):=by
 unfold Rw JY
 congr 1
 refine List.map_congr_left fun x hx=>?_
 obtain⟨j,hj,rfl⟩:=List.getElem_of_mem hx
 have hj':j < p.length:=by simpa [aL] using hj
 have hk:=(fQ (h j hj').1).1
 have he:(aL p)[j]=p[j].1:=by simp[aL]
 rw[he]
 unfold RY IE
 by_cases hw:(p[j].1.word == [112,116])=true
 ·have hw':p[j].1.word=[112,116]:=by simpa using hw
  have hn:p[j].1.name≠0:=by
   intro h0
   unfold known at hk
   rw[hw',h0]at hk
   revert hk;decide
  simp[hw',hn]
 ·simp[hw]
theorem EW.zero {s:ByteArray} {b:Nat} (h:EW s 0 b):Whole s/\b=0/\∃ p,Ok p/\aL p=(bF s s.size).l:=by
 rcases h with ⟨_,h⟩ | ⟨_,p,hk,_,_,he,h⟩ | ⟨hw,_,hb,p,hok,hp⟩
 ·omega
 ·exact absurd h.symm he
 ·exact⟨hw,hb,p,hok,hp⟩
def TS (s:ByteArray) (n a:Nat):Prop:=∃ b,EW s a b/\((a≠0/\n=0)\/(a=0/\n=JY (bF s s.size).l))
theorem TS.unique {s:ByteArray} {n a m c:Nat} (h:TS s n a) (k:TS s m c):n=m/\a=c:=by
 obtain⟨b,hA,h⟩:=h
 obtain⟨d,kA,k⟩:=k
 obtain⟨rfl,rfl⟩:=hA.unique kA
 refine⟨?_,rfl⟩
 rcases h with h | h<;>rcases k with k | k<;>first | omega | exact absurd k.1 h.1 | exact absurd h.1 k.1
def OY (s:ByteArray) (i:Int) (n a:Nat):Prop:=∃ c b,EW s c b/\((c≠0/\n=0/\a=c)\/(c=0/\(i < 0\/((bF s s.size).l.length:Int)<=i)/\n=0/\a=4) \/
 (c=0/\a=0/\∃ (j:Nat) (p:List (St × Nat)) (hj:j < p.length),i=(j:Int)/\Ok p/\aL p=(bF s s.size).l/\n=p[j].2))
theorem OY.unique {s:ByteArray} {i:Int} {n a m c:Nat} (h:OY s i n a) (k:OY s i m c):n=m/\a=c:=by
 obtain⟨x,b,hA,h⟩:=h
 obtain⟨y,d,kA,k⟩:=k
 obtain⟨rfl,rfl⟩:=hA.unique kA
 have len:∀ {p:List (St × Nat)},aL p=(bF s s.size).l->p.length=(bF s s.size).l.length:=fun {p} hp=>by have:=congrArg List.length hp;simpa [aL] using this
 rcases h with ⟨h0,rfl,rfl⟩ | ⟨h0,hi,rfl,rfl⟩ | ⟨h0,rfl,j,p,hj,rfl,hok,hp,rfl⟩<;>rcases k with ⟨k0,rfl,rfl⟩ | ⟨k0,ki,rfl,rfl⟩ | ⟨k0,rfl,j',p',hj',hji,hok',hp',rfl⟩
 ·exact⟨rfl,rfl⟩
 ·exact absurd k0 h0
 ·exact absurd k0 h0
 ·exact absurd h0 k0
 ·exact⟨rfl,rfl⟩
 ·have:=len hp';omega
 ·exact absurd h0 k0
 ·have:=len hp;omega
 ·have hjj:j=j':=by omega
  subst hjj
  have e1:=len hp
  have e2:=len hp'
  have:=Ok.unique hok hok' p.length (Nat.le_refl _) (by omega) (by rw[hp,hp'])
  rw[List.take_length,List.take_of_length_le (by omega)]at this
  subst this
  exact⟨rfl,rfl⟩
theorem J2 (s:ByteArray) (w:World) (hs:300 < s.size) (hm:s.size<=maxLen):Calls Tryz.prog 28 #[.string s] w fun e w'=>e=.returned (.tuple #[.int .i64 0,.int .i64 1])/\w=w':=by
 go_in
 go_wp2_with fail
 refine (xk s w hs hm).mono ?_
 rintro e w2 ⟨rfl,rfl⟩
 go_wp2
 go_ret2
 exact⟨rfl,rfl⟩
theorem Il (s:ByteArray) (i:Int) (w:World) (hs:300 < s.size) (hm:s.size<=maxLen):Calls Tryz.prog 62 #[.string s,.int .i64 i] w fun e w'=>e=.returned (.tuple #[.int .i64 0,.int .i64 1])/\w=w':=by
 go_in
 go_wp2_with fail
 refine (xk s w hs hm).mono ?_
 rintro e w2 ⟨rfl,rfl⟩
 go_wp2
 go_ret2
 exact⟨rfl,rfl⟩
theorem NM (s:ByteArray) (w:World) (hs:s.size<=300):Calls Tryz.prog 28 #[.string s] w fun e w'=>(∃ n a:Nat,TS s n a/\e=.returned (.tuple #[.int .i64 n,.int .i64 a]))/\Mod (fun _=>False) w w':=by
 go_in
 go_wp2_with fail
 refine (xg s w hs).mono ?_
 rintro e w2 ⟨hm,⟨k,hst,rfl⟩ | ⟨hw,p,k,hk,hok,hp,he,rfl⟩ | ⟨hw,v,q,hok,hq,hL,hle,rfl⟩⟩
 ·go_wp2
  go_ret2
  exact⟨⟨0,2,⟨k,.inl ⟨hst,rfl⟩,.inl ⟨by omega,rfl⟩⟩,rfl⟩,hm⟩
 ·have HA:Hid (TS s 0 (err p (bF s s.size).l[k])):=⟨k,.inr (.inl ⟨hw,p,hk,hok,hp,he,rfl⟩),.inl ⟨he,rfl⟩⟩
  generalize err p (bF s s.size).l[k]=er at *
  clear hp
  have hb:((er:Int) != 0)=true:=by rw[bne_iff_ne];omega
  go_wp2
  go_ret2
  exact⟨⟨0,er,HA.out,rfl⟩,hm⟩
 ·have HA:Hid (TS s (Rw (q.map It.x)) 0):=⟨0,.inr (.inr ⟨hw,rfl,rfl,pq q,hok,by rw[fH];exact hq⟩),.inr ⟨rfl,by rw[<- hq,<- fH,Vb hok]⟩⟩
  clear hq
  obtain⟨ao,cap,rfl,-⟩:=hL.form
  go_wp2_with fail
  go_loop [7,20] (fun a i=>∃ k:Nat,k<=q.length/\i=.int .i64 k/\a=.int .i64 (Rw ((q.map It.x).take k))) (fun _ i=>q.length - (intOf i).toNat)
  case atStart=>exact⟨0,by omega,rfl,rfl⟩
  case round =>
   obtain⟨k,hk,rfl,rfl⟩:=hrel
   have b1:=YI ((q.map It.x).take k)
   have b2:((q.map It.x).take k).length<=k:=List.length_take_le _ _
   by_cases hlt:k < q.length
   ·have HT:Hid ((q.map It.x).take (k+1)=(q.map It.x).take k++[q[k].x]):=show (q.map It.x).take (k+1)=(q.map It.x).take k++[q[k].x] by rw[take_snoc' _ _ (by simpa using hlt)];simp
    obtain⟨gb,rfl,-,c1,-⟩:=hL.cell hlt
    cases hpt:(q[k].x.word == [112,116]) with
    | true =>
     have HP:Hid (RY q[k].x=2):=show RY q[k].x=2 by simp[RY,hpt]
     go_wp2
     go_round
     case rel=>exact⟨k+1,by omega,by go_num,by rw[HT.out,GQ,HP.out];go_num⟩
     case measure=>simp[intOf];omega
    | false =>
     have HP:Hid (RY q[k].x=0):=show RY q[k].x=0 by simp[RY,hpt]
     go_wp2
     go_round
     case rel=>exact⟨k+1,by omega,by go_num,by rw[HT.out,GQ,HP.out];rfl⟩
     case measure=>simp[intOf];omega
   ·have HT:Hid ((q.map It.x).take k=q.map It.x):=show (q.map It.x).take k=q.map It.x by rw[List.take_of_length_le (by simp;omega)]
    go_wp2
    go_ret2
    exact⟨⟨Rw (q.map It.x),0,HA.out,by rw[HT.out];rfl⟩,hm⟩
theorem Io (s:ByteArray) (i:Int) (w:World) (hs:s.size<=300):Calls Tryz.prog 62 #[.string s,.int .i64 i] w fun e w'=>(∃ n a:Nat,OY s i n a/\e=.returned (.tuple #[.int .i64 n,.int .i64 a]))/\Mod (fun _=>False) w w':=by
 go_in
 go_wp2_with fail
 refine (xg s w hs).mono ?_
 rintro e w2 ⟨hm,⟨k,hst,rfl⟩ | ⟨hw,p,k,hk,hok,hp,he,rfl⟩ | ⟨hw,v,q,hok,hq,hL,hle,rfl⟩⟩
 ·go_wp2
  go_ret2
  exact⟨⟨0,2,⟨2,k,.inl ⟨hst,rfl⟩,.inl ⟨by omega,rfl,rfl⟩⟩,rfl⟩,hm⟩
 ·have HA:Hid (OY s i 0 (err p (bF s s.size).l[k])):=⟨_,k,.inr (.inl ⟨hw,p,hk,hok,hp,he,rfl⟩),.inl ⟨he,rfl,rfl⟩⟩
  generalize err p (bF s s.size).l[k]=er at *
  clear hp
  have hb:((er:Int) != 0)=true:=by rw[bne_iff_ne];omega
  go_wp2
  go_ret2
  exact⟨⟨0,er,HA.out,rfl⟩,hm⟩
 ·have hA:EW s 0 0:=.inr (.inr ⟨hw,rfl,rfl,pq q,hok,by rw[fH];exact hq⟩)
  have hlq:(bF s s.size).l.length=q.length:=by rw[<- hq];simp
  have HN:Hid (i < 0\/(q.length:Int)<=i->OY s i 0 4):=fun h=>⟨0,0,hA,.inr (.inl ⟨rfl,by rw[hlq];exact h,rfl,rfl⟩)⟩
  have HY:Hid (∀ (j:Nat) (hj:j < q.length),i=(j:Int)->OY s i q[j].wt 0):=fun j hj hi=>⟨0,0,hA,.inr (.inr ⟨rfl,rfl,j,pq q,by simpa [pq] using hj,hi,hok,by rw[fH];exact hq,by simp[pq]⟩)⟩
  clear hq hA hlq
  obtain⟨ao,cap,rfl,-⟩:=hL.form
  by_cases h0:i < 0
  ·go_wp2
   go_ret2
   exact⟨⟨0,4,HN.out (.inl h0),rfl⟩,hm⟩
  ·by_cases h1:(q.length:Int)<=i
   ·go_wp2
    go_ret2
    exact⟨⟨0,4,HN.out (.inr h1),rfl⟩,hm⟩
   ·obtain⟨j,rfl⟩:∃ j:Nat,i=(j:Int):=⟨i.toNat,by omega⟩
    have hj:j < q.length:=by omega
    obtain⟨gb,rfl,-,-,-,c3⟩:=hL.cell hj
    go_wp2
    go_ret2
    exact⟨⟨q[j].wt,0,HY.out j hj rfl,rfl⟩,hm⟩
theorem Hg (s:ByteArray) (w:World) (hs:300 < s.size) (hm:s.size<=maxLen):Calls Tryz.prog 61 #[.string s] w fun e w'=>e=.returned (.tuple #[.int .i64 0,.int .i64 1])/\w=w':=by
 go_in
 go_wp2_with fail
 refine (oW s w hs hm).mono ?_
 rintro e w2 ⟨rfl,rfl⟩
 go_wp2
 go_ret2
 exact⟨rfl,rfl⟩
theorem Ez (s:ByteArray) (i:Int) (w:World) (hs:300 < s.size) (hm:s.size<=maxLen):Calls Tryz.prog 63 #[.string s,.int .i64 i] w fun e w'=>e=.returned (.tuple #[.int .i64 0,.int .i64 1])/\w=w':=by
 go_in
 go_wp2_with fail
 refine (oW s w hs hm).mono ?_
 rintro e w2 ⟨rfl,rfl⟩
 go_wp2
 go_ret2
 exact⟨rfl,rfl⟩
theorem yE (v:Value) (l:List St) (base:Nat) (w:World) (hl:l.length<=1000) (hL:mE w base v l):Calls Tryz.prog 70 #[v] w fun e w'=>e=.returned (.int .i64 (JY l))/\w=w':=by
 obtain⟨ao,cap,rfl,-⟩:=aj hL
 go_in
 go_wp2_with fail
 go_loop [3,4] (fun a i=>∃ k:Nat,k<=l.length/\i=.int .i64 k/\a=.int .i64 (JY (l.take k))) (fun _ i=>l.length - (intOf i).toNat)
 case atStart=>exact⟨0,by omega,rfl,rfl⟩
 case round =>
  obtain⟨k,hk,rfl,rfl⟩:=hrel
  have b1:=YJ (l.take k)
  have b2:(l.take k).length<=k:=List.length_take_le _ _
  by_cases hlt:k < l.length
  ·have HT:Hid (l.take (k+1)=l.take k++[l[k]]):=take_snoc' _ _ hlt
   obtain⟨gb,rfl,c0,c1,-⟩:=hL.cell hlt
   by_cases hn:l[k].name=0
   ·have HP:Hid (IE l[k]=0):=show IE l[k]=0 by simp[IE,hn]
    have hb:((l[k].name:Int) != 0)=false:=by rw[hn];rfl
    clear hn
    go_wp2
    go_round
    case rel=>exact⟨k+1,by omega,by go_num,by rw[HT.out,AP,HP.out];rfl⟩
    case measure=>simp[intOf];omega
   ·have hb:((l[k].name:Int) != 0)=true:=by rw[bne_iff_ne];omega
    cases hpt:(l[k].word == [112,116]) with
    | true =>
     have HP:Hid (IE l[k]=2):=show IE l[k]=2 by simp[IE,hpt,hn]
     go_wp2
     go_round
     case rel=>exact⟨k+1,by omega,by go_num,by rw[HT.out,AP,HP.out];go_num⟩
     case measure=>simp[intOf];omega
    | false =>
     have HP:Hid (IE l[k]=0):=show IE l[k]=0 by simp[IE,hpt]
     go_wp2
     go_round
     case rel=>exact⟨k+1,by omega,by go_num,by rw[HT.out,AP,HP.out];rfl⟩
     case measure=>simp[intOf];omega
  ·have HT:Hid (l.take k=l):=List.take_of_length_le (by omega)
   go_wp2
   go_ret
   exact⟨by rw[HT.out];rfl,rfl⟩
theorem Ko (s:ByteArray) (w:World) (hs:s.size<=300):Calls Tryz.prog 61 #[.string s] w fun e w'=>(∃ n a:Nat,TS s n a/\e=.returned (.tuple #[.int .i64 n,.int .i64 a]))/\Mod (fun _=>False) w w':=by
 go_in
 go_wp2_with fail
 refine (og s w hs).mono ?_
 rintro e w2 ⟨⟨a,b,hA,rfl⟩,hm⟩
 by_cases h0:a=0
 ·subst h0
  obtain⟨hw,-,-⟩:=hA.zero
  have HN:Hid (TS s (JY (bF s s.size).l) 0):=⟨b,hA,.inr ⟨rfl,rfl⟩⟩
  clear hA
  go_wp2_with fail
  refine (qC s w2 hs (ou hw)).mono ?_
  rintro e w3 ⟨aC,v,rfl,hL⟩
  have hll:=(D7 s s.size).1
  generalize (bF s s.size).l=l at *
  go_wp2_with fail
  refine (yE v l _ _ (by omega) hL).mono ?_
  rintro e w4 ⟨rfl,rfl⟩
  go_wp2
  go_ret2
  exact⟨⟨JY l,0,HN.out,rfl⟩,hm.trans aC⟩
 ·have HN:Hid (TS s 0 a):=⟨b,hA,.inl ⟨h0,rfl⟩⟩
  have hb:((a:Int) != 0)=true:=by rw[bne_iff_ne];omega
  go_wp2
  go_ret2
  exact⟨⟨0,a,HN.out,rfl⟩,hm⟩
theorem EA (s:ByteArray) (i:Int) (w:World) (hs:s.size<=300):Calls Tryz.prog 63 #[.string s,.int .i64 i] w fun e w'=>(∃ n a:Nat,OY s i n a/\e=.returned (.tuple #[.int .i64 n,.int .i64 a]))/\Mod (fun _=>False) w w':=by
 go_in
 go_wp2_with fail
 refine (og s w hs).mono ?_
 rintro e w2 ⟨⟨a,b,hA,rfl⟩,hm⟩
 by_cases h0:a=0
 ·subst h0
  obtain⟨hw,-,p,hok,hp⟩:=hA.zero
  have hpl:p.length=(bF s s.size).l.length:=by have:=congrArg List.length hp;simpa [aL] using this
  have HN:Hid (i < 0\/((bF s s.size).l.length:Int)<=i->OY s i 0 4):=fun h=>⟨0,b,hA,.inr (.inl ⟨rfl,h,rfl,rfl⟩)⟩
  have HY:Hid (∀ (j:Nat) (hj:j < p.length),i=(j:Int)->OY s i p[j].2 0):=fun j hj hi=>⟨0,b,hA,.inr (.inr ⟨rfl,rfl,j,p,hj,hi,hok,hp,rfl⟩)⟩
  have HP:Hid (aL p=(bF s s.size).l):=hp
  have EY:Hid (p.length=(bF s s.size).l.length):=hpl
  clear hA hp hpl
  go_wp2_with fail
  refine (qC s w2 hs (ou hw)).mono ?_
  rintro e w3 ⟨aC,v,rfl,hL⟩
  have hll:=(D7 s s.size).1
  generalize (bF s s.size).l=l at *
  have hL':=hL
  obtain⟨ao,cap,rfl,-⟩:=aj hL'
  clear hL'
  by_cases h0:i < 0
  ·go_wp2
   go_ret2
   exact⟨⟨0,4,HN.out (.inl h0),rfl⟩,hm.trans aC⟩
  ·by_cases h1:(l.length:Int)<=i
   ·go_wp2
    go_ret2
    exact⟨⟨0,4,HN.out (.inr h1),rfl⟩,hm.trans aC⟩
   ·obtain⟨j,rfl⟩:∃ j:Nat,i=(j:Int):=⟨i.toNat,by omega⟩
    have hj:j < p.length:=by have:=EY.out;omega
    have hwt:=Dw (.slice ao l.length cap) l _ w3 p (by omega) hL hok (by rw[HP.out,EY.out,List.take_length]) (by have:=EY.out;omega) (j+1) j hj (by omega)
    have HW:Hid (Calls Tryz.prog 103 #[.slice ao l.length cap,.int .i64 j] w3 fun e w'=>e=.returned (.int .i64 p[j].2)/\w3=w'):=hwt
    clear hwt
    go_wp2_with fail
    refine HW.out.mono ?_
    rintro e w4 ⟨rfl,rfl⟩
    go_wp2
    go_ret2
    exact⟨⟨p[j].2,0,HY.out j hj rfl,rfl⟩,hm.trans aC⟩
 ·have HN:Hid (OY s i 0 a):=⟨a,b,hA,.inl ⟨h0,rfl,rfl⟩⟩
  have hb:((a:Int) != 0)=true:=by rw[bne_iff_ne];omega
  go_wp2
  go_ret2
  exact⟨⟨0,a,HN.out,rfl⟩,hm⟩
theorem H8 (n:Int) (a b:ByteArray) (w:World) (ha:a.size<=maxLen):Calls Tryz.prog 37 #[op4 2 n a b] w fun e w'=>e=.returned (.bool true)/\Mod (fun _=>False) w w':=by
 have hO:=qQ w 2 n a b
 have hm0:Mod (fun _=>False) w (w.alloc (.cells #[.int .i64 2,.int .i64 n,.string a,.string b] 56)):=(Mod.refl _ w).alloc _
 by_cases hs:a.size<=300
 ·go_in
  go_wp2_with fail
  refine (NM a _ hs).mono ?_
  rintro e w1 ⟨⟨x,y,hA,rfl⟩,hm1⟩
  have mZ:=hO.keep hm1 (fun f=>f)
  have c2:=mZ.c2
  go_wp2_with fail
  refine (Ko a _ hs).mono ?_
  rintro e w2 ⟨⟨x',y',hA',rfl⟩,hm2⟩
  obtain⟨rfl,rfl⟩:=hA.unique hA'
  have hO2:=mZ.keep hm2 (fun f=>f)
  have hm:=hm0.trans (hm1.trans hm2)
  clear hA hA' hm0 hm1 hm2 c2 mZ hO
  have c1:=hO2.c1
  have c2:=hO2.c2
  go_wp2_with fail
  refine (fV _ _).mono ?_
  rintro e w' ⟨rfl,rfl⟩
  go_wp2_with fail
  refine (Io a n _ hs).mono ?_
  rintro e w3 ⟨⟨z,t,hB,rfl⟩,aC⟩
  have hO3:=hO2.keep aC (fun f=>f)
  clear c1 c2 hO2
  have c1:=hO3.c1
  have c2:=hO3.c2
  go_wp2_with fail
  refine (EA a n _ hs).mono ?_
  rintro e w4 ⟨⟨z',t',hB',rfl⟩,aO⟩
  obtain⟨rfl,rfl⟩:=hB.unique hB'
  have hmm:=hm.trans (aC.trans aO)
  clear hB hB' hm aC aO c1 c2 hO3
  go_wp2_with (go_at_call 39;refine (fV _ _).mono ?_;rintro e w' ⟨rfl,rfl⟩)
  go_ret
  exact⟨rfl,hmm⟩
 ·have c1:=hO.c1
  have c2:=hO.c2
  go_in
  go_wp2_with fail
  refine (J2 a _ (by omega) ha).mono ?_
  rintro e w1 ⟨rfl,rfl⟩
  go_wp2_with fail
  refine (Hg a _ (by omega) ha).mono ?_
  rintro e w2 ⟨rfl,rfl⟩
  go_wp2_with fail
  refine (fV _ _).mono ?_
  rintro e w' ⟨rfl,rfl⟩
  go_wp2_with fail
  refine (Il a n _ (by omega) ha).mono ?_
  rintro e w1 ⟨rfl,rfl⟩
  go_wp2_with fail
  refine (Ez a n _ (by omega) ha).mono ?_
  rintro e w2 ⟨rfl,rfl⟩
  go_wp2_with (go_at_call 39;refine (fV _ _).mono ?_;rintro e w' ⟨rfl,rfl⟩)
  go_ret
  exact⟨rfl,hm0⟩
theorem yZ:uK 2 2:=by
 intro kd n a b w h1 h2 ha hb hn
 obtain rfl:kd=2:=by omega
 have hm0:Mod (fun _=>False) w (w.alloc (.cells #[.int .i64 2,.int .i64 n,.string a,.string b] 56)):=(Mod.refl _ w).alloc _
 clear h1 h2 hb hn
 go_in
 go_wp2_with fail
 refine (H8 n a b _ ha).mono ?_
 rintro e w1 ⟨rfl,hm1⟩
 go_wp2
 go_ret
 exact⟨rfl,hm0.trans hm1⟩
end Go.Proofs.YtmnfndpbblpjiabGreatDoor

/- The program's joinCode. -/
import Derived.Lib.AppendStr
import Derived.Deep.RegionWith
import Derived.Test.YtmnfndpbblpjiabGreatDoorZx17
set_option maxHeartbeats 1600000
set_option maxRecDepth 4000
namespace Go.Proofs.YtmnfndpbblpjiabGreatDoor
open Go.RowKit Pu
theorem XI {t:Stp} (h:Small t):bvs (wW t)=fO t:=by
 obtain⟨h1,h2,h3,h4⟩:=h
 simp[bvs,wW,fO]
 omega
theorem Ke {w:World} {b e:Nat} {c:Array Value} (h:w.heap[b]?=some (.cells c e (0,0))) (hc:c.size<=1000):w.ownsRow b e 1 (.slice (some ⟨b,0,none⟩) c.size c.size) c.size c.toList :=
 ⟨by simp,.inr ⟨b,c.size,c,rfl,Nat.le_refl _,h,Nat.le_refl _,by unfold maxLen;omega,by simp,by simpa using List.take_of_length_le (by simp)⟩⟩
theorem Gn {r i n:Nat} (hr:r < 256) (hi:i < 256) (hn:n<=3000):bvs [82,85,UInt8.ofNat r,UInt8.ofNat i,UInt8.ofNat (n % 256),UInt8.ofNat (n / 256)]=[.int .u8 82,.int .u8 85,.int .u8 r,.int .u8 i,.int .u8 ((n:Int) % 256),.int .u8 ((n:Int) / 256)]:=by
 simp[bvs]
 omega
theorem Gl (v:Value) (l:List Stp) (r i base:Nat) (w:World) (hl:l.length<=3000) (hL:gM w base v l) (hsm:∀ t∈l,Small t) (hr:r < 256) (hi:i < 256) :
  Calls Tryz.prog 33 #[.agg #[.int .u8 r,.int .u8 i,v]] w fun e w'=>e=.returned (S (joined r i l))/\Mod (fun _=>False) w w':=by
 obtain⟨i0,hii,hz0,hz1,hz2⟩:=info_parts Tryz.info5
 obtain⟨ao,cap,rfl,-⟩:=aj hL
 have IV:Hid (∀ t∈l,Small t):=hsm
 clear hsm
 go_in
 go_wp2_with fail
 obtain⟨a1,a2⟩:=dJ w (.cells #[.int .u8 r,.int .u8 i,.slice ao l.length cap] 63) (.cells #[.int .u8 82,.int .u8 85,.int .u8 r,.int .u8 i,.int .u8 ((l.length:Int) % 256),.int .u8 ((l.length:Int) / 256)] 5)
 have hm0:Mod (fun _=>False) w ((w.alloc (.cells #[.int .u8 r,.int .u8 i,.slice ao l.length cap] 63)).alloc (.cells #[.int .u8 82,.int .u8 85,.int .u8 r,.int .u8 i,.int .u8 ((l.length:Int) % 256),.int .u8 ((l.length:Int) / 256)] 5)):=((Mod.refl _ w).alloc _).alloc _
 have Qe:=Ke a2 (by simp)
 have mZ:((w.alloc (.cells #[.int .u8 r,.int .u8 i,.slice ao l.length cap] 63)).alloc (.cells #[.int .u8 82,.int .u8 85,.int .u8 r,.int .u8 i,.int .u8 ((l.length:Int) % 256),.int .u8 ((l.length:Int) / 256)] 5)).ownsRow (w.heap.size+1) 5 1 (.slice (some ⟨w.heap.size+1,0,none⟩) 6 6) ([82,85,UInt8.ofNat r,UInt8.ofNat i,UInt8.ofNat (l.length % 256),UInt8.ofNat (l.length / 256)]++(l.take 0).flatMap wW).length (bvs ([82,85,UInt8.ofNat r,UInt8.ofNat i,UInt8.ofNat (l.length % 256),UInt8.ofNat (l.length / 256)]++(l.take 0).flatMap wW)):=by
  simp only[List.take_zero,List.flatMap_nil,List.append_nil]
  rw[Gn hr hi hl]
  exact Qe
 have hmw:w.heap.size < ((w.alloc (.cells #[.int .u8 r,.int .u8 i,.slice ao l.length cap] 63)).alloc (.cells #[.int .u8 82,.int .u8 85,.int .u8 r,.int .u8 i,.int .u8 ((l.length:Int) % 256),.int .u8 ((l.length:Int) / 256)] 5)).heap.size:=by simp;omega
 clear Qe a1 a2
 generalize ((w.alloc (.cells #[.int .u8 r,.int .u8 i,.slice ao l.length cap] 63)).alloc (.cells #[.int .u8 82,.int .u8 85,.int .u8 r,.int .u8 i,.int .u8 ((l.length:Int) % 256),.int .u8 ((l.length:Int) / 256)] 5))=w1 at *
 go_loopw [4,24] (fun v kv wr=>∃ k:Nat,k<=l.length/\kv=.int .i64 k/\wr.ownsRow (w.heap.size+1) 5 1 v ([82,85,UInt8.ofNat r,UInt8.ofNat i,UInt8.ofNat (l.length % 256),UInt8.ofNat (l.length / 256)]++(l.take k).flatMap wW).length (bvs ([82,85,UInt8.ofNat r,UInt8.ofNat i,UInt8.ofNat (l.length % 256),UInt8.ofNat (l.length / 256)]++(l.take k).flatMap wW))/\Mod (fun _=>False) w wr/\w.heap.size < wr.heap.size) (fun _ kv _=>l.length - (intOf kv).toNat)
 case atStart=>exact⟨0,by omega,rfl,mZ,hm0,by omega⟩
 case round =>
  clear mZ hm0 hmw
  obtain⟨k,hk,rfl,hown,hm,hwl⟩:=hrel
  have HJ:Hid (∀ h:k < l.length,[82,85,UInt8.ofNat r,UInt8.ofNat i,UInt8.ofNat (l.length % 256),UInt8.ofNat (l.length / 256)]++(l.take (k+1)).flatMap wW=([82,85,UInt8.ofNat r,UInt8.ofNat i,UInt8.ofNat (l.length % 256),UInt8.ofNat (l.length / 256)]++(l.take k).flatMap wW)++wW l[k]):=fun h=>by
   rw[List.take_succ_eq_append_getElem h,List.flatMap_append,<- List.append_assoc,List.flatMap_cons,List.flatMap_nil,List.append_nil]
  have HJE:Hid (k=l.length->[82,85,UInt8.ofNat r,UInt8.ofNat i,UInt8.ofNat (l.length % 256),UInt8.ofNat (l.length / 256)]++(l.take k).flatMap wW=joined r i l):=fun h=>by
   subst h;rw[List.take_length];rfl
  have hjl:([82,85,UInt8.ofNat r,UInt8.ofNat i,UInt8.ofNat (l.length % 256),UInt8.ofNat (l.length / 256)]++(l.take k).flatMap wW).length<=20000:=by
   have:∀ q:List Stp,(q.flatMap wW).length=4*q.length:=fun q=>by
    induction q with
    | nil=>rfl
    | cons t q ih=>simp[ih,wW];omega
   simp[this];omega
  generalize hjs:[82,85,UInt8.ofNat r,UInt8.ofNat i,UInt8.ofNat (l.length % 256),UInt8.ofNat (l.length / 256)]++(l.take k).flatMap wW=js at *
  clear hjs
  obtain⟨jo,acT,rfl,-⟩:=aj hown
  by_cases hlt:k < l.length
  ·have qH:=hL.mod hm
   obtain⟨gb,rfl,c0,c1,c2,c3⟩:=qH.cell hlt
   have HB4:Hid (bvs (wW l[k])=fO l[k]):=XI (IV.out _ (List.getElem_mem hlt))
   have HJ1:Hid _:=HJ.out hlt
   generalize l[k]=t at *
   clear qH HJ HJE
   have hOa:=au hown ((Mod.refl (fun _=>False) wr).alloc (.cells #[.int .u8 t.op,.int .u8 t.x,.int .u8 t.y,.int .u8 t.z] 94)) (fun _ _ f=>f)
   go_wp2_with (at_builtin;refine wpList_append_own _ rfl _ _ 70 rfl (w.heap.size+1) 5 i0 _ 1 1 Tryz.underlying70 hii hz0 hz1 hz2 rfl (by decide) _ _ _ rfl (hOa.alloc _) ⟨wr.heap.size+1,0,none⟩ 4 4 (fO t) rfl rfl ?c1 ?c2 ?c3 ?c4 ?c5 ?_)
   case c1=>exact World.news_of_block (cs:=#[.int .u8 t.op,.int .u8 t.x,.int .u8 t.y,.int .u8 t.z]) (t:=5) (fr:=(0,0)) (dJ wr _ _).2
   case c2=>simp[fO,Value.oneCell']
   case c3=>unfold maxLen;omega
   case c4=>omega
   case c5=>simp;omega
   intro v' w4 aG hgrow _
   have hgm:Mod (fun i=>w.heap.size+1<=i) wr w4:=(((Mod.refl _ wr).alloc _).alloc _).grown hgrow (fun i hi _=>(hown.lt i hi).1)
   have aO:Mod (fun _=>False) w w4:=⟨hgm.os.trans hm.os,hgm.tape.trans hm.tape,hgm.output.trans hm.output,Nat.le_trans hm.size hgm.size,fun i hi _=>(hgm.block i (by omega) (by omega)).trans (hm.block i hi (fun f=>f))⟩
   have aci:w.heap.size < w4.heap.size:=by have:=hgm.size;omega
   have ZL:Hid (w4.ownsRow (w.heap.size+1) 5 1 v' (js++wW t).length (bvs (js++wW t))):=show w4.ownsRow _ _ _ _ _ _ by
    have e:bvs (js++wW t)=bvs js++fO t:=by rw[<- HB4.out];simp[bvs]
    rw[e]
    simpa [wW] using aG
   clear aG hgrow hgm hown hOa hm hwl
   go_wp2
   go_roundw
   case rel=>exact⟨k+1,by omega,by go_num,by rw[HJ1.out];exact ZL.out,aO,aci⟩
   case measure=>simp[intOf];omega
  ·have HE:Hid (js=joined r i l):=HJE.out (by omega)
   have hcv:=jG (P:=Tryz.prog) hown rfl Tryz.underlying70 Tryz.underlying5 Tryz.underlying9
   go_wp2
   go_ret
   exact⟨by rw[<- HE.out];rfl,hm⟩
theorem Oi (n:Nat) (w:World) (hn:n < 16):Calls Tryz.prog 143 #[.int .i64 (n:Int)] w fun e w'=>e=.returned (.string (dec (n:Int)))/\w=w':=by
 have:n=0\/n=1\/n=2\/n=3\/n=4\/n=5\/n=6\/n=7\/n=8\/n=9\/n=10\/n=11\/n=12\/n=13\/n=14\/n=15:=by omega
 rcases this with rfl | rfl | rfl | rfl | rfl | rfl | rfl | rfl | rfl | rfl | rfl | rfl | rfl | rfl | rfl | rfl
 all_goals
  go_in
  go_wp2
  go_ret
  exact⟨by rfl,rfl⟩
theorem Qx (n:Nat) (w:World) (hn:n < 16):Calls Tryz.prog 36 #[.int .i64 (n:Int)] w fun e w'=>e=.returned (.string (dec (n:Int)))/\w=w':=by
 have hs:=fun w=>Oi n w hn
 generalize dec (n:Int)=dn at *
 have h1:Calls Tryz.prog 98 #[.int .i64 (n:Int),.int .i64 10] w fun e w'=>e=.returned (.string dn)/\w=w':=by
  have q1:(0:Int)<=(n:Int):=by omega
  have q2:(n:Int) < 100:=by omega
  go_in
  go_wp2_with (go_at_call 143;refine (hs _).mono ?_;rintro e w1 ⟨rfl,rfl⟩)
  go_ret
  exact⟨rfl,rfl⟩
 have h2:Calls Tryz.prog 58 #[.int .i64 (n:Int)] w fun e w'=>e=.returned (.string dn)/\w=w':=by
  go_in
  go_wp2_with (go_at_call 98;refine h1.mono ?_;rintro e w1 ⟨rfl,rfl⟩)
  go_ret
  exact⟨rfl,rfl⟩
 go_in
 go_wp2_with (go_at_call 58;refine h2.mono ?_;rintro e w1 ⟨rfl,rfl⟩)
 go_ret
 exact⟨rfl,rfl⟩
def XA (w:World) (base:Nat) (rv:Value) (bs:List UInt8) (e:Ending) (w':World):Prop :=
 Mod (fun q=>rv.ownBlock=some q) w w'/\∃ v',e=.returned v'/\w'.ownsRow base 5 1 v' bs.length (bvs bs)
theorem I5 (rv:Value) (bs:List UInt8) (so:Bool) (base:Nat) (w:World) (hO:w.ownsRow base 5 1 rv bs.length (bvs bs)) (hl:bs.length<=10000) (hb:base<=w.heap.size) :
  Calls Tryz.prog 140 #[rv,.bool so] w (XA w base rv (bs++[if so then 49 else 48])):=by
 obtain⟨i0,hii,hz0,hz1,hz2⟩:=info_parts Tryz.info5
 obtain⟨ro,lN,rfl,-⟩:=aj hO
 cases so
 ·go_in
  go_wp2_with (at_builtin;refine wpList_append_own _ rfl _ _ 70 rfl base 5 i0 _ 1 1 Tryz.underlying70 hii hz0 hz1 hz2 rfl (by decide) _ _ _ rfl (hO.alloc _) ⟨w.heap.size,0,none⟩ 1 1 [.int .u8 48] rfl rfl ?c1 ?c2 ?c3 ?c4 ?c5 ?_)
  case c1=>exact World.news_of_block (cs:=#[.int .u8 48]) (t:=5) (fr:=(0,0)) (heap_alloc_new w _)
  case c2=>simp[Value.oneCell']
  case c3=>unfold maxLen;omega
  case c4=>omega
  case c5=>simp;omega
  intro v' w4 aG hgrow _
  have hgm:Mod (fun q=>(Value.slice ro bs.length lN).ownBlock=some q) w w4:=((Mod.refl _ w).alloc _).grown hgrow (fun i hi _=>hi)
  have ZL:Hid (w4.ownsRow base 5 1 v' (bs++[48]).length (bvs (bs++[48]))):=show w4.ownsRow _ _ _ _ _ _ by
   rw[<- rQ];simpa using aG
  clear aG hgrow hO
  go_wp2
  go_ret
  exact⟨hgm,_,rfl,ZL.out⟩
 ·go_in
  go_wp2_with (at_builtin;refine wpList_append_own _ rfl _ _ 70 rfl base 5 i0 _ 1 1 Tryz.underlying70 hii hz0 hz1 hz2 rfl (by decide) _ _ _ rfl (hO.alloc _) ⟨w.heap.size,0,none⟩ 1 1 [.int .u8 49] rfl rfl ?c1 ?c2 ?c3 ?c4 ?c5 ?_)
  case c1=>exact World.news_of_block (cs:=#[.int .u8 49]) (t:=5) (fr:=(0,0)) (heap_alloc_new w _)
  case c2=>simp[Value.oneCell']
  case c3=>unfold maxLen;omega
  case c4=>omega
  case c5=>simp;omega
  intro v' w4 aG hgrow _
  have hgm:Mod (fun q=>(Value.slice ro bs.length lN).ownBlock=some q) w w4:=((Mod.refl _ w).alloc _).grown hgrow (fun i hi _=>hi)
  have ZL:Hid (w4.ownsRow base 5 1 v' (bs++[49]).length (bvs (bs++[49]))):=show w4.ownsRow _ _ _ _ _ _ by
   rw[<- rQ];simpa using aG
  clear aG hgrow hO
  go_wp2
  go_ret
  exact⟨hgm,_,rfl,ZL.out⟩
theorem Fp (rv:Value) (bs:List UInt8) (c:UInt8) (n:Nat) (base:Nat) (w:World) (hO:w.ownsRow base 5 1 rv bs.length (bvs bs)) (hl:bs.length<=10000) (hb:base<=w.heap.size) (hn:n < 16) :
  Calls Tryz.prog 176 #[rv,.int .u8 (c.toNat:Int),.int .i64 (n:Int)] w fun e w'=>Mod (fun q=>base<=q) w w'/\∃ v',e=.returned v'/\w'.ownsRow base 5 1 v' (bs++[c]++(dec (n:Int)).data.toList).length (bvs (bs++[c]++(dec (n:Int)).data.toList)):=by
 obtain⟨i0,hii,hz0,hz1,hz2⟩:=info_parts Tryz.info5
 obtain⟨ro,lN,rfl,-⟩:=aj hO
 have hit:=fun w=>Qx n w hn
 have hds:=zY (n:Int)
 generalize dec (n:Int)=dn at *
 have hc8:=c.toNat_lt
 go_in
 go_wp2_with (at_builtin;refine wpList_append_own _ rfl _ _ 70 rfl base 5 i0 _ 1 1 Tryz.underlying70 hii hz0 hz1 hz2 rfl (by decide) _ _ _ rfl (hO.alloc _) ⟨w.heap.size,0,none⟩ 1 1 [.int .u8 (c.toNat:Int)] rfl rfl ?c1 ?c2 ?c3 ?c4 ?c5 ?_)
 case c1=>exact World.news_of_block (cs:=#[.int .u8 (c.toNat:Int)]) (t:=5) (fr:=(0,0)) (heap_alloc_new w _)
 case c2=>simp[Value.oneCell']
 case c3=>unfold maxLen;omega
 case c4=>omega
 case c5=>simp;omega
 intro v1 w1 hown1 hgrow1 _
 have hg1:Mod (fun q=>(Value.slice ro bs.length lN).ownBlock=some q) w w1:=((Mod.refl _ w).alloc _).grown hgrow1 (fun i hi _=>hi)
 have mZ:w1.ownsRow base 5 1 v1 (bs.length+1) (bvs (bs++[c])):=by rw[<- rQ];simpa using hown1
 obtain⟨vo1,abr,rfl,-⟩:=aj mZ
 have hs1:=hg1.size
 clear hown1 hgrow1
 go_wp2_with (first
  | (go_at_call 36;refine (hit _).mono ?_;rintro e w2 ⟨rfl,rfl⟩)
  | (at_builtin;refine Go.Lib.wpList_append_own_string _ rfl _ _ 70 9 rfl base 5 i0 Tryz.underlying70 Tryz.underlying9 hii hz0 hz1 hz2 _ _ _ rfl mZ dn rfl ?d1 ?d2 ?d3 ?_))
 case d1=>unfold maxLen;omega
 case d2=>omega
 case d3=>omega
 intro v2 w2 hown2 hgrow2 _
 have hg2:Mod (fun q=>(Value.slice vo1 (bs.length+1) abr).ownBlock=some q) w1 w2:=(Mod.refl _ w1).grown hgrow2 (fun i hi _=>hi)
 have HO2:Hid (w2.ownsRow base 5 1 v2 (bs++[c]++dn.data.toList).length (bvs (bs++[c]++dn.data.toList))):=show w2.ownsRow _ _ _ _ _ _ by
  have e1:(bs++[c]++dn.data.toList).length=bs.length+1+dn.size:=by
   have:dn.data.toList.length=dn.size:=by rw[Array.length_toList];rfl
   rw[List.length_append,this];simp
  have e2:bvs (bs++[c]++dn.data.toList)=bvs (bs++[c])++Go.Lib.strCells dn:=by simp[bvs,Go.Lib.strCells]
  rw[e1,e2];exact hown2
 have hmm:Mod (fun q=>base<=q) w w2:=(hg1.mono (fun q _ h=>(hO.lt q h).1)).trans (hg2.mono (fun q _ h=>(mZ.lt q h).1))
 clear hown2 hgrow2 hO mZ
 go_wp2
 go_ret
 exact⟨hmm,_,rfl,HO2.out⟩
def Mc (w:World) (mb:Nat) (iv:Value) (R:List Int) (bs:List UInt8) (ended:Bool):Prop :=
 ∃ C:Array Value,w.heap[mb]?=some (.cells C 144 (0,0))/\C.size=515/\C[0]?=some iv/\C[514]?=some (.bool ended) /\
  (∃ rv,C[513]?=some rv/\w.ownsRow (mb+1) 5 1 rv bs.length (bvs bs)) /\
  ∀ r,r < 256->∃ nx u a,C[1+r*2]?=some (.bool nx)/\C[1+r*2+1]?=some u/\N9 w nx u a/\bB nx a=reg R r/\a.length<=889
theorem Mc.cell {w:World} {mb:Nat} {C:Array Value} {t:TypeId} (h:w.heap[mb]?=some (.cells C t (0,0))) (i:Nat):w.cell? ⟨mb,i,none⟩=C[i]?:=by simp only[World.cell?,h];simp
theorem Mc.mod {w w':World} {mb:Nat} {iv:Value} {R:List Int} {bs:List UInt8} {ended:Bool} (h:Mc w mb iv R bs ended) (hm:Mod (fun _=>False) w w'):Mc w' mb iv R bs ended:=by
 obtain⟨C,h1,h2,h3,h4,⟨rv,h5,h6⟩,h7⟩:=h
 refine⟨C,hm.keep h1 (fun f=>f),h2,h3,h4,⟨rv,h5,au h6 hm (fun _ _ f=>f)⟩,fun r hr=>?_⟩
 obtain⟨nx,u,a,c0,c1,hN,hx,hl⟩:=h7 r hr
 exact⟨nx,u,a,c0,c1,hN.mod hm,hx,hl⟩
theorem Mc.lt {w:World} {mb:Nat} {iv:Value} {R:List Int} {bs:List UInt8} {ended:Bool} (h:Mc w mb iv R bs ended):mb < w.heap.size:=by
 obtain⟨C,h1,-⟩:=h
 exact lt_of_block h1
theorem Mc.fz {w:World} {mb:Nat} {iv:Value} {R:List Int} {bs:List UInt8} {ended:Bool} (h:Mc w mb iv R bs ended) (i:Nat):w.frozen? ⟨mb,i,none⟩=false:=by
 obtain⟨C,h1,-⟩:=h
 exact dN h1 i
theorem Mc.iv {w:World} {mb:Nat} {iv:Value} {R:List Int} {bs:List UInt8} {ended:Bool} (h:Mc w mb iv R bs ended):w.cell? ⟨mb,0,none⟩=some iv:=by
 obtain⟨C,h1,-,h3,-⟩:=h
 rw[Mc.cell h1];exact h3
theorem Mc.regs {w:World} {mb:Nat} {iv:Value} {R:List Int} {bs:List UInt8} {ended:Bool} (h:Mc w mb iv R bs ended) {r:Nat} (hr:r < 256) :
  ∃ nx ao n cap a,w.cell? ⟨mb,1+r*2,none⟩=some (.bool nx)/\w.cell? ⟨mb,1+r*2+1,none⟩=some (.slice ao n cap)/\N9 w nx (.slice ao n cap) a/\bB nx a=reg R r/\a.length<=889:=by
 obtain⟨C,h1,-,-,-,-,h7⟩:=h
 obtain⟨nx,u,a,c0,c1,hN,hx,hl⟩:=h7 r hr
 obtain⟨ao,cap,rfl,-⟩:=aj hN.2
 exact⟨nx,ao,a.length,cap,a,by rw[Mc.cell h1];exact c0,by rw[Mc.cell h1];exact c1,hN,hx,hl⟩
theorem JO (mb y gi n nN:Nat) (x:Int) (R:List Int) (bs:List UInt8) (ended:Bool) (w:World) (hM:Mc w mb (.slice (some ⟨gi,0,none⟩) n nN) R bs ended) (hy:y < n) (hy2:y < 256) (_hn:n<=1000) (cx:w.cell? ⟨gi,y,none⟩=some (.int .i64 x)) (h1:-100 < x) (h2:x < 100) :
  Calls Tryz.prog 191 #[.pointer (some ⟨mb,0,none⟩),.int .u8 (y:Int)] w (Fj w x 3):=by
 have hR0:=heap_alloc_new w (.cells #[.bool false,.slice none 0 0] 141)
 have hm0:Mod (fun _=>False) w (w.alloc (.cells #[.bool false,.slice none 0 0] 141)):=(Mod.refl _ w).alloc _
 have c0:=hM.iv
 have hlt:=hM.lt
 have w1:IntKind.i64.wrap (y:Int)=(y:Int):=by simp[IntKind.wrap,IntKind.signed,IntKind.bits];omega
 have q1:¬ (n:Int)<=(y:Int):=by omega
 have q2:(y:Int) < (n:Int):=by omega
 have hgl:gi < w.heap.size:=World.block_lt_of_cell? w _ cx
 have HH:Hid _:=zI hR0 hm0
 clear hR0 hm0 hM
 go_in
 go_wp2_with fail
 obtain⟨hR0,hm0⟩:=HH.out
 generalize w.alloc (.cells #[.bool false,.slice none 0 0] 141)=W at *
 refine (rT x W (by omega) (by omega)).mono ?_
 rintro e w3 ⟨aC,mI,v3,l3,rfl,gD,hx3,hl3⟩
 have eP:=aC.keep hR0 (fun f=>f)
 obtain⟨r0,r1⟩:=iX eP
 have f0:=dN eP 0
 have f1:=dN eP 1
 obtain⟨kS,bK,rfl,-⟩:=aj gD.2
 have HE:Hid _:=iO (x:=x) (n:=3) eP (Nat.le_refl _) (hm0.trans aC) gD.2 gD.1 hx3 hl3
 clear eP aC gD hx3 hR0 hm0 HH
 go_wp2_with fail
 obtain⟨k1,q0,q1⟩:=HE.out
 unfold dA at q0 q1
 exact bodyPost_ret (by simp[results,Tryz.results191,go_sem,q0,q1]) rfl k1
theorem EH (w:World) (t:Stp):(w.alloc (.cells #[.int .u8 t.op,.int .u8 t.x,.int .u8 t.y,.int .u8 t.z] 94)).heap[w.heap.size]?=some (.cells #[.int .u8 t.op,.int .u8 t.x,.int .u8 t.y,.int .u8 t.z] 94 (0,0)):=heap_alloc_new w _
theorem Rm (t:Stp) (mb:Nat) (iv:Value) (R:List Int) (bs:List UInt8) (ended:Bool) (w:World) (hM:Mc w mb iv R bs ended) (hs:Small t) (hop:t.op=2) :
  Calls Tryz.prog 177 #[.pointer (some ⟨mb,0,none⟩),E8 t] w (Fj w (reg R t.y+reg R t.z) 1800):=by
 obtain⟨nx,ao,an,aK,a,uL,uM,hU,hxa,la⟩:=hM.regs hs.2.2.1
 obtain⟨ny,bo,bn,cK,b,Fx,Fy,hV,hxb,lb⟩:=hM.regs hs.2.2.2
 rw[<- hxa,<- hxb]
 have hlt:=hM.lt
 obtain⟨s0,s1,s2,s3⟩:=hs
 obtain⟨a1,a2⟩:=dJ w (.cells #[.int .u8 t.op,.int .u8 t.x,.int .u8 t.y,.int .u8 t.z] 94) (.cells #[.bool false,.slice none 0 0] 141)
 have hm0:Mod (fun _=>False) w ((w.alloc (.cells #[.int .u8 t.op,.int .u8 t.x,.int .u8 t.y,.int .u8 t.z] 94)).alloc (.cells #[.bool false,.slice none 0 0] 141)):=((Mod.refl _ w).alloc _).alloc _
 have o0:((t.op:Int) == 0)=false:=aF (m:=0) (by omega)
 have o1:((t.op:Int) == 1)=false:=aF (m:=1) (by omega)
 have o2:((t.op:Int) == 2)=true:=bN (m:=2) (by omega)
 have o3:((t.op:Int) == 3)=false:=aF (m:=3) (by omega)
 have o4:((t.op:Int) == 4)=false:=aF (m:=4) (by omega)
 have iy:(t.y:Int) < 256:=by omega
 have iz:(t.z:Int) < 256:=by omega
 have pE:=hU.mod hm0
 have Ca:=hV.mod hm0
 have d0:=hm0.cell uL
 have d1:=hm0.cell uM
 have d2:=hm0.cell Fx
 have d3:=hm0.cell Fy
 obtain⟨e0,e1,e2,e3⟩:=jD a1
 have HH:Hid _:=zI pE (zI Ca (zI a2 hm0))
 have HC:Hid _:=zI d0 (zI d1 (zI d2 (zI d3 (zI e2 e3))))
 clear hU hV uL uM Fx Fy hM a1 a2 hm0 pE Ca d0 d1 d2 d3 e0 e1 e2 e3 hop hxa hxb
 go_in
 go_wp2_with fail
 generalize (w.alloc (.cells #[.int .u8 t.op,.int .u8 t.x,.int .u8 t.y,.int .u8 t.z] 94)).alloc (.cells #[.bool false,.slice none 0 0] 141)=W at *
 obtain⟨pE,Ca,hR0,hm0⟩:=HH.out
 obtain⟨d0,d1,d2,d3,e2,e3⟩:=HC.out
 have hcall:=OZ nx ny (.slice ao an aK) (.slice bo bn cK) a b W.drew (pE.mod (Mod.refl _ W).drew) (Ca.mod (Mod.refl _ W).drew) (by omega) (by omega)
 generalize bB nx a+bB ny b=tot at *
 clear HH HC pE Ca
 go_region_held3 (fun w'=>w'.cell? ⟨mb,1+t.y*2,none⟩=some (.bool nx)/\w'.cell? ⟨mb,1+t.y*2+1,none⟩=some (.slice ao an aK)/\w'.cell? ⟨mb,1+t.z*2,none⟩=some (.bool ny)/\w'.cell? ⟨mb,1+t.z*2+1,none⟩=some (.slice bo bn cK)/\w'.cell? ⟨w.heap.size,2,none⟩=some (.int .u8 t.y)/\w'.cell? ⟨w.heap.size,3,none⟩=some (.int .u8 t.z))
  (first | go_keep | (exact hkeep) | (exact dG))
  ((go_at_call 193;refine hcall.mono ?_;rintro e w3 ⟨aC,mI,v3,l3,rfl,gD,hx3,hl3⟩;have hkeep:=zI (aC.cell (a:=W.drew) d0) (zI (aC.cell (a:=W.drew) d1) (zI (aC.cell (a:=W.drew) d2) (zI (aC.cell (a:=W.drew) d3) (zI (aC.cell (a:=W.drew) e2) (aC.cell (a:=W.drew) e3)))));have eP:=aC.keep (a:=W.drew) hR0 (fun f=>f);obtain⟨r0,r1⟩:=iX eP;have f0:=dN eP 0;have f1:=dN eP 1;obtain⟨kS,bK,rfl,-⟩:=aj gD.2;have dG:=zI ((ay (w.heap.size+1) w3 (.bool mI) (.slice kS l3.length bK) mb (1+t.y*2) (by omega)).trans hkeep.1) (zI ((ay (w.heap.size+1) w3 (.bool mI) (.slice kS l3.length bK) mb (1+t.y*2+1) (by omega)).trans hkeep.2.1) (zI ((ay (w.heap.size+1) w3 (.bool mI) (.slice kS l3.length bK) mb (1+t.z*2) (by omega)).trans hkeep.2.2.1) (zI ((ay (w.heap.size+1) w3 (.bool mI) (.slice kS l3.length bK) mb (1+t.z*2+1) (by omega)).trans hkeep.2.2.2.1) (zI ((ay (w.heap.size+1) w3 (.bool mI) (.slice kS l3.length bK) w.heap.size 2 (by omega)).trans hkeep.2.2.2.2.1) ((ay (w.heap.size+1) w3 (.bool mI) (.slice kS l3.length bK) w.heap.size 3 (by omega)).trans hkeep.2.2.2.2.2)))))))
 have HE:Hid _:=iO (x:=tot) (n:=1800) eP (by omega) (hm0.drew.trans aC) gD.2 gD.1 hx3 (by have:max a.length b.length<=889:=Nat.max_le.2 ⟨la,lb⟩;omega)
 clear eP aC gD hx3 hR0 hm0
 go_wp2_with fail
 obtain⟨k1,q0,q1⟩:=HE.out
 unfold dA at q0 q1
 exact bodyPost_ret (by simp[results,Tryz.results177,go_sem,q0,q1]) rfl k1
theorem Rv (t:Stp) (mb:Nat) (iv:Value) (R:List Int) (bs:List UInt8) (ended:Bool) (w:World) (hM:Mc w mb iv R bs ended) (hs:Small t) (hop:t.op=3) :
  Calls Tryz.prog 177 #[.pointer (some ⟨mb,0,none⟩),E8 t] w (Fj w (reg R t.y - reg R t.z) 1800):=by
 obtain⟨nx,ao,an,aK,a,uL,uM,hU,hxa,la⟩:=hM.regs hs.2.2.1
 obtain⟨ny,bo,bn,cK,b,Fx,Fy,hV,hxb,lb⟩:=hM.regs hs.2.2.2
 rw[<- hxa,<- hxb]
 have hlt:=hM.lt
 obtain⟨s0,s1,s2,s3⟩:=hs
 obtain⟨a1,a2⟩:=dJ w (.cells #[.int .u8 t.op,.int .u8 t.x,.int .u8 t.y,.int .u8 t.z] 94) (.cells #[.bool false,.slice none 0 0] 141)
 have hm0:Mod (fun _=>False) w ((w.alloc (.cells #[.int .u8 t.op,.int .u8 t.x,.int .u8 t.y,.int .u8 t.z] 94)).alloc (.cells #[.bool false,.slice none 0 0] 141)):=((Mod.refl _ w).alloc _).alloc _
 have o0:((t.op:Int) == 0)=false:=aF (m:=0) (by omega)
 have o1:((t.op:Int) == 1)=false:=aF (m:=1) (by omega)
 have o2:((t.op:Int) == 2)=false:=aF (m:=2) (by omega)
 have o3:((t.op:Int) == 3)=true:=bN (m:=3) (by omega)
 have o4:((t.op:Int) == 4)=false:=aF (m:=4) (by omega)
 have iy:(t.y:Int) < 256:=by omega
 have iz:(t.z:Int) < 256:=by omega
 have pE:=hU.mod hm0
 have Ca:=hV.mod hm0
 have d0:=hm0.cell uL
 have d1:=hm0.cell uM
 have d2:=hm0.cell Fx
 have d3:=hm0.cell Fy
 obtain⟨e0,e1,e2,e3⟩:=jD a1
 have HH:Hid _:=zI pE (zI Ca (zI a2 hm0))
 have HC:Hid _:=zI d0 (zI d1 (zI d2 (zI d3 (zI e2 e3))))
 clear hU hV uL uM Fx Fy hM a1 a2 hm0 pE Ca d0 d1 d2 d3 e0 e1 e2 e3 hop hxa hxb
 go_in
 go_wp2_with fail
 generalize (w.alloc (.cells #[.int .u8 t.op,.int .u8 t.x,.int .u8 t.y,.int .u8 t.z] 94)).alloc (.cells #[.bool false,.slice none 0 0] 141)=W at *
 obtain⟨pE,Ca,hR0,hm0⟩:=HH.out
 obtain⟨d0,d1,d2,d3,e2,e3⟩:=HC.out
 have hcall:=SK nx ny (.slice ao an aK) (.slice bo bn cK) a b W.drew (pE.mod (Mod.refl _ W).drew) (Ca.mod (Mod.refl _ W).drew) (by omega) (by omega)
 generalize bB nx a - bB ny b=tot at *
 clear HH HC pE Ca
 go_region_held3 (fun w'=>w'.cell? ⟨mb,1+t.y*2,none⟩=some (.bool nx)/\w'.cell? ⟨mb,1+t.y*2+1,none⟩=some (.slice ao an aK)/\w'.cell? ⟨mb,1+t.z*2,none⟩=some (.bool ny)/\w'.cell? ⟨mb,1+t.z*2+1,none⟩=some (.slice bo bn cK)/\w'.cell? ⟨w.heap.size,2,none⟩=some (.int .u8 t.y)/\w'.cell? ⟨w.heap.size,3,none⟩=some (.int .u8 t.z))
  (first | go_keep | (exact hkeep) | (exact dG))
  ((go_at_call 194;refine hcall.mono ?_;rintro e w3 ⟨aC,mI,v3,l3,rfl,gD,hx3,hl3⟩;have hkeep:=zI (aC.cell (a:=W.drew) d0) (zI (aC.cell (a:=W.drew) d1) (zI (aC.cell (a:=W.drew) d2) (zI (aC.cell (a:=W.drew) d3) (zI (aC.cell (a:=W.drew) e2) (aC.cell (a:=W.drew) e3)))));have eP:=aC.keep (a:=W.drew) hR0 (fun f=>f);obtain⟨r0,r1⟩:=iX eP;have f0:=dN eP 0;have f1:=dN eP 1;obtain⟨kS,bK,rfl,-⟩:=aj gD.2;have dG:=zI ((ay (w.heap.size+1) w3 (.bool mI) (.slice kS l3.length bK) mb (1+t.y*2) (by omega)).trans hkeep.1) (zI ((ay (w.heap.size+1) w3 (.bool mI) (.slice kS l3.length bK) mb (1+t.y*2+1) (by omega)).trans hkeep.2.1) (zI ((ay (w.heap.size+1) w3 (.bool mI) (.slice kS l3.length bK) mb (1+t.z*2) (by omega)).trans hkeep.2.2.1) (zI ((ay (w.heap.size+1) w3 (.bool mI) (.slice kS l3.length bK) mb (1+t.z*2+1) (by omega)).trans hkeep.2.2.2.1) (zI ((ay (w.heap.size+1) w3 (.bool mI) (.slice kS l3.length bK) w.heap.size 2 (by omega)).trans hkeep.2.2.2.2.1) ((ay (w.heap.size+1) w3 (.bool mI) (.slice kS l3.length bK) w.heap.size 3 (by omega)).trans hkeep.2.2.2.2.2)))))))
 have HE:Hid _:=iO (x:=tot) (n:=1800) eP (by omega) (hm0.drew.trans aC) gD.2 gD.1 hx3 (by have:max a.length b.length<=889:=Nat.max_le.2 ⟨la,lb⟩;omega)
 clear eP aC gD hx3 hR0 hm0
 go_wp2_with fail
 obtain⟨k1,q0,q1⟩:=HE.out
 unfold dA at q0 q1
 exact bodyPost_ret (by simp[results,Tryz.results177,go_sem,q0,q1]) rfl k1
theorem Rq (t:Stp) (mb:Nat) (iv:Value) (R:List Int) (bs:List UInt8) (ended:Bool) (w:World) (hM:Mc w mb iv R bs ended) (hs:Small t) (hop:t.op=4) :
  Calls Tryz.prog 177 #[.pointer (some ⟨mb,0,none⟩),E8 t] w (Fj w (reg R t.y*reg R t.z) 1800):=by
 obtain⟨nx,ao,an,aK,a,uL,uM,hU,hxa,la⟩:=hM.regs hs.2.2.1
 obtain⟨ny,bo,bn,cK,b,Fx,Fy,hV,hxb,lb⟩:=hM.regs hs.2.2.2
 rw[<- hxa,<- hxb]
 have hlt:=hM.lt
 obtain⟨s0,s1,s2,s3⟩:=hs
 obtain⟨a1,a2⟩:=dJ w (.cells #[.int .u8 t.op,.int .u8 t.x,.int .u8 t.y,.int .u8 t.z] 94) (.cells #[.bool false,.slice none 0 0] 141)
 have hm0:Mod (fun _=>False) w ((w.alloc (.cells #[.int .u8 t.op,.int .u8 t.x,.int .u8 t.y,.int .u8 t.z] 94)).alloc (.cells #[.bool false,.slice none 0 0] 141)):=((Mod.refl _ w).alloc _).alloc _
 have o0:((t.op:Int) == 0)=false:=aF (m:=0) (by omega)
 have o1:((t.op:Int) == 1)=false:=aF (m:=1) (by omega)
 have o2:((t.op:Int) == 2)=false:=aF (m:=2) (by omega)
 have o3:((t.op:Int) == 3)=false:=aF (m:=3) (by omega)
 have o4:((t.op:Int) == 4)=true:=bN (m:=4) (by omega)
 have iy:(t.y:Int) < 256:=by omega
 have iz:(t.z:Int) < 256:=by omega
 have pE:=hU.mod hm0
 have Ca:=hV.mod hm0
 have d0:=hm0.cell uL
 have d1:=hm0.cell uM
 have d2:=hm0.cell Fx
 have d3:=hm0.cell Fy
 obtain⟨e0,e1,e2,e3⟩:=jD a1
 have HH:Hid _:=zI pE (zI Ca (zI a2 hm0))
 have HC:Hid _:=zI d0 (zI d1 (zI d2 (zI d3 (zI e2 e3))))
 clear hU hV uL uM Fx Fy hM a1 a2 hm0 pE Ca d0 d1 d2 d3 e0 e1 e2 e3 hop hxa hxb
 go_in
 go_wp2_with fail
 generalize (w.alloc (.cells #[.int .u8 t.op,.int .u8 t.x,.int .u8 t.y,.int .u8 t.z] 94)).alloc (.cells #[.bool false,.slice none 0 0] 141)=W at *
 obtain⟨pE,Ca,hR0,hm0⟩:=HH.out
 obtain⟨d0,d1,d2,d3,e2,e3⟩:=HC.out
 have hcall:=Rl nx ny (.slice ao an aK) (.slice bo bn cK) a b W.drew (pE.mod (Mod.refl _ W).drew) (Ca.mod (Mod.refl _ W).drew) (by omega) (by omega)
 generalize bB nx a*bB ny b=tot at *
 clear HH HC pE Ca
 go_region_held3 (fun w'=>w'.cell? ⟨mb,1+t.y*2,none⟩=some (.bool nx)/\w'.cell? ⟨mb,1+t.y*2+1,none⟩=some (.slice ao an aK)/\w'.cell? ⟨mb,1+t.z*2,none⟩=some (.bool ny)/\w'.cell? ⟨mb,1+t.z*2+1,none⟩=some (.slice bo bn cK)/\w'.cell? ⟨w.heap.size,2,none⟩=some (.int .u8 t.y)/\w'.cell? ⟨w.heap.size,3,none⟩=some (.int .u8 t.z))
  (first | go_keep | (exact hkeep) | (exact dG))
  ((go_at_call 195;refine hcall.mono ?_;rintro e w3 ⟨aC,mI,v3,l3,rfl,gD,hx3,hl3⟩;have hkeep:=zI (aC.cell (a:=W.drew) d0) (zI (aC.cell (a:=W.drew) d1) (zI (aC.cell (a:=W.drew) d2) (zI (aC.cell (a:=W.drew) d3) (zI (aC.cell (a:=W.drew) e2) (aC.cell (a:=W.drew) e3)))));have eP:=aC.keep (a:=W.drew) hR0 (fun f=>f);obtain⟨r0,r1⟩:=iX eP;have f0:=dN eP 0;have f1:=dN eP 1;obtain⟨kS,bK,rfl,-⟩:=aj gD.2;have dG:=zI ((ay (w.heap.size+1) w3 (.bool mI) (.slice kS l3.length bK) mb (1+t.y*2) (by omega)).trans hkeep.1) (zI ((ay (w.heap.size+1) w3 (.bool mI) (.slice kS l3.length bK) mb (1+t.y*2+1) (by omega)).trans hkeep.2.1) (zI ((ay (w.heap.size+1) w3 (.bool mI) (.slice kS l3.length bK) mb (1+t.z*2) (by omega)).trans hkeep.2.2.1) (zI ((ay (w.heap.size+1) w3 (.bool mI) (.slice kS l3.length bK) mb (1+t.z*2+1) (by omega)).trans hkeep.2.2.2.1) (zI ((ay (w.heap.size+1) w3 (.bool mI) (.slice kS l3.length bK) w.heap.size 2 (by omega)).trans hkeep.2.2.2.2.1) ((ay (w.heap.size+1) w3 (.bool mI) (.slice kS l3.length bK) w.heap.size 3 (by omega)).trans hkeep.2.2.2.2.2)))))))
 have HE:Hid _:=iO (x:=tot) (n:=1800) eP (by omega) (hm0.drew.trans aC) gD.2 gD.1 hx3 (by omega)
 clear eP aC gD hx3 hR0 hm0
 go_wp2_with fail
 obtain⟨k1,q0,q1⟩:=HE.out
 unfold dA at q0 q1
 exact bodyPost_ret (by simp[results,Tryz.results177,go_sem,q0,q1]) rfl k1
theorem Rp (t:Stp) (mb:Nat) (iv:Value) (R:List Int) (bs:List UInt8) (ended:Bool) (w:World) (hM:Mc w mb iv R bs ended) (hs:Small t) (hop:t.op=1) :
  Calls Tryz.prog 177 #[.pointer (some ⟨mb,0,none⟩),E8 t] w (Fj w (t.y:Int) 1800):=by
 have hlt:=hM.lt
 obtain⟨a1,a2⟩:=dJ w (.cells #[.int .u8 t.op,.int .u8 t.x,.int .u8 t.y,.int .u8 t.z] 94) (.cells #[.bool false,.slice none 0 0] 141)
 have hm0:Mod (fun _=>False) w ((w.alloc (.cells #[.int .u8 t.op,.int .u8 t.x,.int .u8 t.y,.int .u8 t.z] 94)).alloc (.cells #[.bool false,.slice none 0 0] 141)):=((Mod.refl _ w).alloc _).alloc _
 have o0:((t.op:Int) == 0)=false:=aF (m:=0) (by omega)
 have o1:((t.op:Int) == 1)=true:=bN (m:=1) (by omega)
 have o2:((t.op:Int) == 2)=false:=aF (m:=2) (by omega)
 have o3:((t.op:Int) == 3)=false:=aF (m:=3) (by omega)
 have o4:((t.op:Int) == 4)=false:=aF (m:=4) (by omega)
 have iy:(t.y:Int) < 256:=by have:=hs.2.2.1;omega
 have w1:IntKind.i64.wrap (t.y:Int)=(t.y:Int):=by have:=hs.2.2.1;simp[IntKind.wrap,IntKind.signed,IntKind.bits];omega
 obtain⟨e0,e1,e2,e3⟩:=jD a1
 have HH:Hid _:=zI a2 hm0
 clear hM a1 a2 hm0 e0 e1 e2 e3 hop
 go_in
 go_wp2_with fail
 generalize (w.alloc (.cells #[.int .u8 t.op,.int .u8 t.x,.int .u8 t.y,.int .u8 t.z] 94)).alloc (.cells #[.bool false,.slice none 0 0] 141)=W at *
 obtain⟨hR0,hm0⟩:=HH.out
 clear HH
 refine (rT (t.y:Int) W (by omega) (by omega)).mono ?_
 rintro e w3 ⟨aC,mI,v3,l3,rfl,gD,hx3,hl3⟩
 have eP:=aC.keep hR0 (fun f=>f)
 obtain⟨r0,r1⟩:=iX eP
 have f0:=dN eP 0
 have f1:=dN eP 1
 obtain⟨kS,bK,rfl,-⟩:=aj gD.2
 have HE:Hid _:=iO (x:=(t.y:Int)) (n:=1800) eP (by omega) (hm0.trans aC) gD.2 gD.1 hx3 (by omega)
 clear eP aC gD hx3 hR0 hm0
 go_wp2_with fail
 obtain⟨k1,q0,q1⟩:=HE.out
 unfold dA at q0 q1
 exact bodyPost_ret (by simp[results,Tryz.results177,go_sem,q0,q1]) rfl k1
theorem Va (t:Stp) (mb gi n nN:Nat) (x:Int) (R:List Int) (bs:List UInt8) (ended:Bool) (w:World) (hM:Mc w mb (.slice (some ⟨gi,0,none⟩) n nN) R bs ended) (hs:Small t) (hop:t.op=0) (hy:t.y < n) (hn:n<=1000) (cx:w.cell? ⟨gi,t.y,none⟩=some (.int .i64 x)) (h1:-100 < x) (h2:x < 100) :
  Calls Tryz.prog 177 #[.pointer (some ⟨mb,0,none⟩),E8 t] w (Fj w x 1800):=by
 have hlt:=hM.lt
 obtain⟨a1,a2⟩:=dJ w (.cells #[.int .u8 t.op,.int .u8 t.x,.int .u8 t.y,.int .u8 t.z] 94) (.cells #[.bool false,.slice none 0 0] 141)
 have hm0:Mod (fun _=>False) w ((w.alloc (.cells #[.int .u8 t.op,.int .u8 t.x,.int .u8 t.y,.int .u8 t.z] 94)).alloc (.cells #[.bool false,.slice none 0 0] 141)):=((Mod.refl _ w).alloc _).alloc _
 have o0:((t.op:Int) == 0)=true:=bN (m:=0) (by omega)
 have o1:((t.op:Int) == 1)=false:=aF (m:=1) (by omega)
 have o2:((t.op:Int) == 2)=false:=aF (m:=2) (by omega)
 have o3:((t.op:Int) == 3)=false:=aF (m:=3) (by omega)
 have o4:((t.op:Int) == 4)=false:=aF (m:=4) (by omega)
 have iy:(t.y:Int) < 256:=by have:=hs.2.2.1;omega
 obtain⟨e0,e1,e2,e3⟩:=jD a1
 have hin:=JO mb t.y gi n nN x R bs ended _ (hM.mod hm0) hy hs.2.2.1 hn (hm0.cell cx) h1 h2
 have HH:Hid _:=zI a2 hm0
 clear hM a1 a2 hm0 e0 e1 e2 e3 hop cx
 go_in
 go_wp2_with fail
 generalize (w.alloc (.cells #[.int .u8 t.op,.int .u8 t.x,.int .u8 t.y,.int .u8 t.z] 94)).alloc (.cells #[.bool false,.slice none 0 0] 141)=W at *
 obtain⟨hR0,hm0⟩:=HH.out
 clear HH
 refine hin.mono ?_
 rintro e w3 ⟨aC,mI,v3,l3,rfl,gD,hx3,hl3⟩
 have eP:=aC.keep hR0 (fun f=>f)
 obtain⟨r0,r1⟩:=iX eP
 have f0:=dN eP 0
 have f1:=dN eP 1
 obtain⟨kS,bK,rfl,-⟩:=aj gD.2
 have HE:Hid _:=iO (x:=x) (n:=1800) eP (by omega) (hm0.trans aC) gD.2 gD.1 hx3 (by omega)
 clear eP aC gD hx3 hR0 hm0
 go_wp2_with fail
 obtain⟨k1,q0,q1⟩:=HE.out
 unfold dA at q0 q1
 exact bodyPost_ret (by simp[results,Tryz.results177,go_sem,q0,q1]) rfl k1
theorem Ru (t:Stp) (mb:Nat) (iv:Value) (R:List Int) (bs:List UInt8) (ended:Bool) (w:World) (hM:Mc w mb iv R bs ended) (hs:Small t) (hop:t.op=5) :
  Calls Tryz.prog 177 #[.pointer (some ⟨mb,0,none⟩),E8 t] w (Fj w (kL (reg R t.y)) 1800):=by
 obtain⟨nx,ao,an,aK,a,uL,uM,hU,hxa,la⟩:=hM.regs hs.2.2.1
 rw[<- hxa]
 have hlt:=hM.lt
 obtain⟨a1,a2⟩:=dJ w (.cells #[.int .u8 t.op,.int .u8 t.x,.int .u8 t.y,.int .u8 t.z] 94) (.cells #[.bool false,.slice none 0 0] 141)
 have hm0:Mod (fun _=>False) w ((w.alloc (.cells #[.int .u8 t.op,.int .u8 t.x,.int .u8 t.y,.int .u8 t.z] 94)).alloc (.cells #[.bool false,.slice none 0 0] 141)):=((Mod.refl _ w).alloc _).alloc _
 have o0:((t.op:Int) == 0)=false:=aF (m:=0) (by omega)
 have o1:((t.op:Int) == 1)=false:=aF (m:=1) (by omega)
 have o2:((t.op:Int) == 2)=false:=aF (m:=2) (by omega)
 have o3:((t.op:Int) == 3)=false:=aF (m:=3) (by omega)
 have o4:((t.op:Int) == 4)=false:=aF (m:=4) (by omega)
 have iy:(t.y:Int) < 256:=by have:=hs.2.2.1;omega
 have pE:=hU.mod hm0
 have d0:=hm0.cell uL
 have d1:=hm0.cell uM
 obtain⟨e0,e1,e2,e3⟩:=jD a1
 have HH:Hid _:=zI pE (zI a2 (zI hm0 (zI d0 (zI d1 e2))))
 clear hU uL uM hM a1 a2 hm0 pE d0 d1 e0 e1 e2 e3 hop hxa
 go_in
 go_wp2_with fail
 generalize (w.alloc (.cells #[.int .u8 t.op,.int .u8 t.x,.int .u8 t.y,.int .u8 t.z] 94)).alloc (.cells #[.bool false,.slice none 0 0] 141)=W at *
 obtain⟨pE,hR0,hm0,d0,d1,e2⟩:=HH.out
 clear HH
 have hcall:=ug nx (.slice ao an aK) a W.drew (pE.mod (Mod.refl _ W).drew) (by omega)
 have hsg:-1<=kL (bB nx a)/\kL (bB nx a)<=1:=by unfold kL;split;omega;split;omega;omega
 generalize kL (bB nx a)=tot at *
 clear pE
 go_region_held3 (fun w'=>w'.cell? ⟨mb,1+t.y*2,none⟩=some (.bool nx)/\w'.cell? ⟨mb,1+t.y*2+1,none⟩=some (.slice ao an aK)/\w'.cell? ⟨w.heap.size,2,none⟩=some (.int .u8 t.y))
  (first | go_keep | (exact hkeep))
  ((go_at_call 139;refine hcall.mono ?_;rintro e w2 ⟨rfl,hm2⟩;have hkeep:=zI (hm2.cell (a:=W.drew) d0) (zI (hm2.cell (a:=W.drew) d1) (hm2.cell (a:=W.drew) e2))))
 have hR2:=hm2.keep (a:=W.drew) hR0 (fun f=>f)
 have aaK:=hm0.drew.trans hm2
 clear hR0 hm0 d0 d1 e2 hkeep hm2
 have hR0:=hR2
 have hm0:=aaK
 clear hR2 aaK
 go_wp2_with fail
 refine (rT tot w2 (by omega) (by omega)).mono ?_
 rintro e w3 ⟨aC,mI,v3,l3,rfl,gD,hx3,hl3⟩
 have eP:=aC.keep hR0 (fun f=>f)
 obtain⟨r0,r1⟩:=iX eP
 have f0:=dN eP 0
 have f1:=dN eP 1
 obtain⟨kS,bK,rfl,-⟩:=aj gD.2
 have HE:Hid _:=iO (x:=tot) (n:=1800) eP (by omega) (hm0.trans aC) gD.2 gD.1 hx3 (by omega)
 clear eP aC gD hx3 hR0 hm0
 go_wp2_with fail
 obtain⟨k1,q0,q1⟩:=HE.out
 unfold dA at q0 q1
 exact bodyPost_ret (by simp[results,Tryz.results177,go_sem,q0,q1]) rfl k1
theorem Ro (t:Stp) (mb:Nat) (iv:Value) (R ins:List Int) (base:Nat) (bs:List UInt8) (ended:Bool) (w:World) (hM:Mc w mb iv R bs ended) (hg:Good ins.length t) (hop:t.op < 6) (hI:w.ownsRow base 3 1 iv ins.length (mo ins)) (hn:ins.length<=1000) (hi:∀ x∈ins,-100 < x/\x < 100) :
  Calls Tryz.prog 177 #[.pointer (some ⟨mb,0,none⟩),E8 t] w (Fj w (Pu.valOf t R ins) 1800):=by
 obtain⟨hs,-,-,-,-,h0,-⟩:=hg
 have hc:t.op=0\/t.op=1\/t.op=2\/t.op=3\/t.op=4\/t.op=5:=by omega
 rcases hc with e | e | e | e | e | e
 ·have hyl:t.y < ins.length:=h0 e
  obtain⟨io,nN,rfl,-⟩:=aj hI
  obtain⟨gi,rfl,ci⟩:=qF hI rfl hyl
  obtain⟨b1,b2⟩:=hi _ (List.getElem_mem hyl)
  rw[show Pu.valOf t R ins=ins[t.y] by simp[Pu.valOf,e,hyl]]
  exact Va t mb gi ins.length nN ins[t.y] R bs ended w hM hs e hyl hn ci b1 b2
 ·rw[show Pu.valOf t R ins=(t.y:Int) by simp[Pu.valOf,e]]
  exact Rp t mb iv R bs ended w hM hs e
 ·rw[show Pu.valOf t R ins=reg R t.y+reg R t.z by simp[Pu.valOf,e]]
  exact Rm t mb iv R bs ended w hM hs e
 ·rw[show Pu.valOf t R ins=reg R t.y - reg R t.z by simp[Pu.valOf,e]]
  exact Rv t mb iv R bs ended w hM hs e
 ·rw[show Pu.valOf t R ins=reg R t.y*reg R t.z by simp[Pu.valOf,e]]
  exact Rq t mb iv R bs ended w hM hs e
 ·rw[show Pu.valOf t R ins=kL (reg R t.y) by simp[Pu.valOf,e]]
  exact Ru t mb iv R bs ended w hM hs e
theorem Pu.Zc {l:List Nat} {B nn:Nat} (hB:B=10 ^ nn) (hn:nn=8000) (ht:T9 l) (hv:¬ B<=v9 l):l.length<=889:=by
 by_cases h0:l=[]
 ·subst h0;simp
 ·have h1:=KJ ht h0
  rw[aaZ]at h1
  have h3:10 ^ (9*(l.length - 1)) < 10 ^ nn:=by rw[<- hB];omega
  have:=(Nat.pow_lt_pow_iff_right (by omega:1 < 10)).1 h3
  omega
theorem Pu.La (nb:Bool) (l:List Nat):(bB nb l).natAbs=v9 l:=by cases nb<;>simp[bB]
theorem Mc.set {w:World} {mb:Nat} {iv:Value} {R:List Int} {bs:List UInt8} {ended:Bool} {nb:Bool} {v:Value} {l:List Nat} (h:Mc w mb iv R bs ended) {x:Nat} (hx:x < 128) (hR:R.length=128) (hN:N9 w nb v l) (hl:l.length<=889):Mc (dA w mb (1+x*2) (.bool nb) v) mb iv (R.set x (bB nb l)) bs ended:=by
 obtain⟨C,h1,h2,h3,h4,⟨rv,h5,h6⟩,h7⟩:=h
 have hm:=lQ w mb (1+x*2) (.bool nb) v
 have hcell:∀ i,((C.setIfInBounds (1+x*2) (.bool nb)).setIfInBounds (1+x*2+1) v)[i]?=if i=1+x*2+1/\i < C.size then some v else if i=1+x*2/\i < C.size then some (.bool nb) else C[i]?:=fun i=>by
  have e1:=jh (x:=.bool nb) (y:=v) (o:=1+x*2) h1 i
  rw[Mc.cell (nA h1),Mc.cell h1]at e1
  exact e1
 refine⟨_,nA h1,by simpa using h2,?_,?_,⟨rv,?_,au h6 hm (fun g a b=>by omega)⟩,fun r hr=>?_⟩
 ·rw[hcell,if_neg (by omega),if_neg (by omega)];exact h3
 ·rw[hcell,if_neg (by omega),if_neg (by omega)];exact h4
 ·rw[hcell,if_neg (by omega),if_neg (by omega)];exact h5
 ·by_cases e:r=x
  ·subst e
   refine⟨nb,v,l,by rw[hcell,if_neg (by omega),if_pos (by omega)],by rw[hcell,if_pos (by omega)],⟨hN.1,tY hN.2 hm h1 (by decide)⟩,?_,hl⟩
   simp[reg,hR,hx]
  ·obtain⟨nx,u,a,c0,c1,hN',hx',hl'⟩:=h7 r hr
   refine⟨nx,u,a,by rw[hcell,if_neg (by omega),if_neg (by omega)];exact c0,by rw[hcell,if_neg (by omega),if_neg (by omega)];exact c1,⟨hN'.1,tY hN'.2 hm h1 (by decide)⟩,?_,hl'⟩
   rw[hx']
   simp[reg,show ¬ x=r from fun hh=>e hh.symm]
def xI (w:World) (B mb:Nat) (iv:Value) (R:List Int) (bs:List UInt8) (x:Nat) (val:Int) (e:Ending) (w':World):Prop :=
 Mod (fun q=>q=mb) w w'/\((B<=val.natAbs/\e=.returned (.bool false))\/(¬ B<=val.natAbs/\e=.returned (.bool true)/\Mc w' mb iv (R.set x val) bs false))
theorem Rj (B nn:Nat) (hB:B=10 ^ nn) (hnn:nn=8000) (t:Stp) (mb:Nat) (iv:Value) (R ins:List Int) (base:Nat) (bs:List UInt8) (w:World) (hM:Mc w mb iv R bs false) (hR:R.length=128) (hg:Good ins.length t) (hop:t.op < 6) (hI:w.ownsRow base 3 1 iv ins.length (mo ins)) (hn:ins.length<=1000) (hi:∀ x∈ins,-100 < x/\x < 100) :
  Calls Tryz.prog 142 #[.pointer (some ⟨mb,0,none⟩),E8 t] w (xI w B mb iv R bs t.x (Pu.valOf t R ins)):=by
 have eu:Mod (fun _=>False) w (w.alloc (.cells #[.int .u8 t.op,.int .u8 t.x,.int .u8 t.y,.int .u8 t.z] 94)):=(Mod.refl _ w).alloc _
 have hv:=Ro t mb iv R ins base bs false _ (hM.mod eu) hg hop (au hI eu (fun _ _ f=>f)) hn hi
 have hSt:=EH w t
 obtain⟨⟨s0,s1,s2,s3⟩,-,hx,-⟩:=hg
 have HSH:Hid (∀ l:List Nat,T9 l->¬ B<=v9 l->l.length<=889):=fun l ht hv=>Zc hB hnn ht hv
 have HDG:Hid (∀ (d:Nat) (l:List Nat),(∀ n,1<=n->(n < d↔10 ^ n<=v9 l))->((8000:Int) < (d:Int)↔B<=v9 l)):=fun d l h=>by
  have:=h nn (by omega)
  rw[hB,<- this];omega
 have hmm:=hM.lt
 have uz:=hM.mod eu
 generalize Pu.valOf t R ins=val at *
 have HH:Hid _:=zI uz (zI eu hSt)
 clear hB hnn hM hI hi uz eu hSt
 go_in
 go_wp2_with fail
 obtain⟨uz,eu,hSt⟩:=HH.out
 clear HH
 generalize w.alloc (.cells #[.int .u8 t.op,.int .u8 t.x,.int .u8 t.y,.int .u8 t.z] 94)=W at *
 refine hv.mono ?_
 rintro e w2 ⟨hm2,nb,v2,l2,rfl,FV,hx2,hl2⟩
 obtain⟨vo,dO,rfl,-⟩:=aj FV.2
 have uF:Mod (fun _=>False) w2 (w2.alloc (.cells #[.bool nb,.slice vo l2.length dO] 141)):=(Mod.refl _ w2).alloc _
 have hdg:=Jj nb (.slice vo l2.length dO) l2 _ (FV.mod uF) (by omega)
 have Xv:Hid (bB nb l2=val):=hx2
 have HTP:Hid (T9 l2):=FV.1.2.1
 have ZG:Hid _:=zI ((uz.mod hm2).mod uF) (zI (FV.mod uF) (zI (eu.trans (hm2.trans uF)) (zI (heap_alloc_new w2 (.cells #[.bool nb,.slice vo l2.length dO] 141)) (uF.keep (hm2.keep hSt (fun f=>f)) (fun f=>f)))))
 clear uz eu hSt hm2 FV hx2 uF hv
 go_wp2_with fail
 obtain⟨k1,k2,k3,k4,k5⟩:=ZG.out
 clear ZG
 generalize w2.alloc (.cells #[.bool nb,.slice vo l2.length dO] 141)=W2 at *
 refine hdg.mono ?_
 rintro e w3 ⟨⟨d,rfl,hd6,hdd⟩,aC⟩
 have hdl:=HDG.out d l2 hdd
 have Yi:=k1.mod aC
 have gD:=k2.mod aC
 have uX:=k3.trans aC
 have wh:=aC.keep k4 (fun f=>f)
 have uD:=aC.keep k5 (fun f=>f)
 clear k1 k2 k3 k4 k5 hdg hdd aC
 by_cases hbig:B<=v9 l2
 ·have hdb:(8000:Int) < (d:Int):=hdl.2 hbig
  have HE:Hid (xI w B mb iv R bs t.x val (.returned (.bool false)) w3):=⟨uX.mono (fun _ _ f=>f.elim),.inl ⟨by rw[<- Xv.out,La];exact hbig,rfl⟩⟩
  clear hdl Yi gD wh uD
  go_wp2
  go_ret
  exact HE.out
 ·have hdb:¬ (8000:Int) < (d:Int):=fun h=>hbig (hdl.1 h)
  have hl3:=HSH.out l2 HTP.out hbig
  have Zy:=Yi.set hx hR gD hl3
  rw[Xv.out]at Zy
  have hmq:Mod (fun q=>q=mb) w (dA w3 mb (1+t.x*2) (.bool nb) (.slice vo l2.length dO)):=(uX.mono (fun _ _ f=>f.elim)).trans (lQ w3 mb (1+t.x*2) (.bool nb) (.slice vo l2.length dO))
  have HE:Hid (xI w B mb iv R bs t.x val (.returned (.bool true)) (dA w3 mb (1+t.x*2) (.bool nb) (.slice vo l2.length dO)).drew) :=
   ⟨hmq.drew,.inr ⟨by rw[<- Xv.out,La];exact hbig,rfl,Zy.mod (Mod.refl _ _).drew⟩⟩
  obtain⟨c0,c1,c2,c3⟩:=jD uD
  obtain⟨z0,z1⟩:=iX wh
  obtain⟨ny,yo,yn,acV,ya,y0,y1,-⟩:=Yi.regs (r:=t.x) (by omega)
  have y2:=Yi.fz (1+t.x*2)
  have y3:=Yi.fz (1+t.x*2+1)
  have hml:=Yi.lt
  have ix:(t.x:Int) < 256:=by omega
  clear hdl Yi gD wh uD Zy hmq uX
  go_wp2
  go_region
  go_wp2
  go_ret
  exact HE.out
theorem Mc.rep {w:World} {mb:Nat} {iv:Value} {R:List Int} {bs:List UInt8} {ended:Bool} (h:Mc w mb iv R bs ended):∃ ro n cap,w.cell? ⟨mb,513,none⟩=some (.slice ro n cap)/\w.ownsRow (mb+1) 5 1 (.slice ro n cap) bs.length (bvs bs)/\n=bs.length:=by
 obtain⟨C,h1,-,-,-,⟨rv,h5,h6⟩,-⟩:=h
 obtain⟨ro,cap,rfl,-⟩:=aj h6
 exact⟨ro,bs.length,cap,by rw[Mc.cell h1];exact h5,h6,rfl⟩
theorem Mc.ended {w:World} {mb:Nat} {iv:Value} {R:List Int} {bs:List UInt8} {en:Bool} (h:Mc w mb iv R bs en):w.cell? ⟨mb,514,none⟩=some (.bool en):=by
 obtain⟨C,h1,-,-,h4,-⟩:=h
 rw[Mc.cell h1];exact h4
def DC (w:World) (mb:Nat) (bs:List UInt8):Prop:=w.cell? ⟨mb,514,none⟩=some (.bool true)/\∃ ro n cap,w.cell? ⟨mb,513,none⟩=some (.slice ro n cap)/\w.ownsRow (mb+1) 5 1 (.slice ro n cap) bs.length (bvs bs)/\n=bs.length
theorem Rk (t:Stp) (mb:Nat) (iv:Value) (R:List Int) (bs:List UInt8) (w:World) (hM:Mc w mb iv R bs false) (hs:Small t) (hz:reg R t.x≠0) :
  Calls Tryz.prog 141 #[.pointer (some ⟨mb,0,none⟩),E8 t] w fun e w'=>e=.returned (.tuple #[])/\Mod (fun _=>False) w w':=by
 obtain⟨nx,ao,an,aK,a,uL,uM,hU,hxa,la⟩:=hM.regs hs.2.1
 have eu:Mod (fun _=>False) w (w.alloc (.cells #[.int .u8 t.op,.int .u8 t.x,.int .u8 t.y,.int .u8 t.z] 94)):=(Mod.refl _ w).alloc _
 have hSt:=EH w t
 have hlt:=hM.lt
 have pE:=hU.mod eu
 have d0:=eu.cell uL
 have d1:=eu.cell uM
 obtain⟨e0,e1,e2,e3⟩:=jD hSt
 have ix:(t.x:Int) < 256:=by have:=hs.2.1;omega
 have HH:Hid _:=zI pE (zI eu (zI d0 (zI d1 e1)))
 have hsg:kL (bB nx a)=1\/kL (bB nx a)=-1:=by
  rw[hxa];unfold kL
  by_cases hq:reg R t.x < 0
  ·rw[if_pos hq];exact .inr rfl
  ·rw[if_neg hq,if_neg hz];exact .inl rfl
 clear hU eu hSt pE d0 d1 e0 e1 e2 e3 hM uL uM hxa hz
 go_in
 go_wp2_with fail
 generalize w.alloc (.cells #[.int .u8 t.op,.int .u8 t.x,.int .u8 t.y,.int .u8 t.z] 94)=W at *
 obtain⟨pE,eu,d0,d1,e1⟩:=HH.out
 clear HH
 have hcall:=ug nx (.slice ao an aK) a W.drew (pE.mod (Mod.refl _ W).drew) (by omega)
 generalize kL (bB nx a)=sg at *
 rcases hsg with rfl | rfl
 all_goals
  first
   | go_region_with (go_at_call 139;refine hcall.mono ?_;rintro e w2 ⟨rfl,hm2⟩)
   | fail
  all_goals
   have gy:=eu.drew.trans hm2
   go_wp2
   exact bodyPost_ret (v:=.tuple #[]) (by simp[results,Tryz.results141]) rfl ⟨rfl,gy⟩
theorem ac1 (y:Nat) (h:y < (⟨#[115,112,99]⟩:ByteArray).size):(⟨#[115,112,99]⟩:ByteArray)[y]'h=Lr y:=by
 have:y=0\/y=1\/y=2:=by have:y < 3:=h;omega
 rcases this with rfl | rfl | rfl<;>rfl
attribute [local go_sem] ac1
theorem KF {w:World} {mb n cap:Nat} {C:Array Value} {ro:Option Addr} {bs:List UInt8} (h:w.heap[mb]?=some (.cells C 144 (0,0))) (hC:C.size=515) (hO:w.ownsRow (mb+1) 5 1 (.slice ro n cap) bs.length (bvs bs)) (hn:n=bs.length) :
  DC ((w.setCell ⟨mb,513,none⟩ (.slice ro n cap)).setCell ⟨mb,514,none⟩ (.bool true)) mb bs:=by
 have e:(w.setCell ⟨mb,513,none⟩ (.slice ro n cap)).setCell ⟨mb,514,none⟩ (.bool true)=dA w mb 513 (.slice ro n cap) (.bool true):=rfl
 rw[e]
 refine⟨by rw[jh h,if_pos ⟨rfl,by omega⟩],ro,n,cap,by rw[jh h,if_neg (by omega),if_pos ⟨rfl,by omega⟩],au hO (lQ w mb 513 _ _) (fun g h1 h2=>by omega),hn⟩
theorem NK (t:Stp) (mb:Nat) (iv:Value) (R:List Int) (bs:List UInt8) (w:World) (hM:Mc w mb iv R bs false) (hs:Small t) (hz:reg R t.x=0) (hy3:t.y < 3) (MV:t.z < 16) (hbs:bs.length<=10000) :
  Calls Tryz.prog 141 #[.pointer (some ⟨mb,0,none⟩),E8 t] w fun e w'=>e=.returned (.tuple #[])/\Mod (fun q=>mb<=q) w w'/\DC w' mb (bs++[Lr t.y]++(dec (t.z:Int)).data.toList):=by
 obtain⟨nx,ao,an,aK,a,uL,uM,hU,hxa,la⟩:=hM.regs hs.2.1
 have eu:Mod (fun _=>False) w (w.alloc (.cells #[.int .u8 t.op,.int .u8 t.x,.int .u8 t.y,.int .u8 t.z] 94)):=(Mod.refl _ w).alloc _
 have hSt:=EH w t
 have hlt:=hM.lt
 have pE:=hU.mod eu
 have d0:=eu.cell uL
 have d1:=eu.cell uM
 have ix:(t.x:Int) < 256:=by have:=hs.2.1;omega
 have uz:=hM.mod eu
 have HH:Hid _:=zI pE (zI eu (zI d0 (zI d1 (zI hSt uz))))
 have hsg:kL (bB nx a)=0:=by rw[hxa];unfold kL;rw[if_neg (by omega),if_pos hz]
 have w1:IntKind.i64.wrap (t.y:Int)=(t.y:Int):=by simp[IntKind.wrap,IntKind.signed,IntKind.bits];omega
 have w2:IntKind.i64.wrap (t.z:Int)=(t.z:Int):=by simp[IntKind.wrap,IntKind.signed,IntKind.bits];omega
 have q3:¬ (3:Int)<=(t.y:Int):=by omega
 clear hU eu hSt pE d0 d1 hM uL uM hxa hz uz
 go_in
 go_wp2_with fail
 generalize w.alloc (.cells #[.int .u8 t.op,.int .u8 t.x,.int .u8 t.y,.int .u8 t.z] 94)=W at *
 obtain⟨pE,eu,d0,d1,hSt,uz⟩:=HH.out
 clear HH
 have hcall:=ug nx (.slice ao an aK) a W.drew (pE.mod (Mod.refl _ W).drew) (by omega)
 rw[hsg]at hcall
 obtain⟨e0,e1,e2,e3⟩:=jD hSt
 clear hsg pE
 have Wz:Hid _:=zI eu (zI hSt uz)
 clear eu hSt uz e0
 go_region_held3 (fun w'=>w'.cell? ⟨mb,1+t.x*2,none⟩=some (.bool nx)/\w'.cell? ⟨mb,1+t.x*2+1,none⟩=some (.slice ao an aK)/\w'.cell? ⟨w.heap.size,1,none⟩=some (.int .u8 t.x)/\w'.cell? ⟨w.heap.size,2,none⟩=some (.int .u8 t.y))
  (first | go_keep | (exact hkeep))
  ((go_at_call 139;refine hcall.mono ?_;rintro e w2 ⟨rfl,hm2⟩;have hkeep:=zI (hm2.cell (a:=W.drew) d0) (zI (hm2.cell (a:=W.drew) d1) (zI (hm2.cell (a:=W.drew) e1) (hm2.cell (a:=W.drew) e2)))))
 obtain⟨eu,hSt,uz⟩:=Wz.out
 have hM2:=(uz.mod (Mod.refl _ W).drew).mod hm2
 have hS2:=hm2.keep (a:=W.drew) hSt (fun f=>f)
 have hmw:=eu.drew.trans hm2
 obtain⟨-,-,e2',e3'⟩:=jD hS2
 obtain⟨ro,rn,lN,Mk,hrow,hrn⟩:=hM2.rep
 subst hrn
 have Pk:=hM2.ended
 have acL:=hM2.fz 513
 have acM:=hM2.fz 514
 have hml:=hM2.lt
 obtain⟨C,hC,hCs,-⟩:=hM2
 have hst:=Fp (.slice ro bs.length lN) bs (Lr t.y) t.z (mb+1) w2.drew (au hrow (Mod.refl (fun _=>False) w2).drew (fun _ _ f=>f)) hbs hml MV
 have HC:Hid _:=zI hC (zI hCs hmw)
 clear hkeep d0 d1 e1 e2 e3 hcall Wz eu hSt uz hS2 hmw hC hCs hrow hm2
 generalize hsc:Lr t.y=sc at *
 generalize hb2:bs++[sc]++(dec (t.z:Int)).data.toList=bs2 at *
 have HB2:Hid (bs++[Lr t.y]++(dec (t.z:Int)).data.toList=bs2):=show _=_ by rw[hsc];exact hb2
 clear hb2
 go_wp2_with fail
 first
  | go_region_with (go_at_call 176;refine hst.mono ?_;rintro e w3 ⟨aC,v3,rfl,hO3⟩;obtain⟨kS,bK,rfl,-⟩:=aj hO3;have Tw:=aC.keep (a:=w2.drew) HC.out.1 (Nat.not_succ_le_self mb);have acj:=(Mc.cell Tw 513).trans ((Mc.cell HC.out.1 513).symm.trans Mk);have acU:=(Mc.cell Tw 514).trans ((Mc.cell HC.out.1 514).symm.trans Pk);have abW:=dN Tw 513;have acN:=dN Tw 514)
  | fail
 all_goals
  have hE:=KF Tw HC.out.2.1 hO3 rfl
  have gy:Mod (fun q=>mb<=q) w ((w3.setCell ⟨mb,513,none⟩ (.slice kS bs2.length bK)).setCell ⟨mb,514,none⟩ (.bool true)) :=
   ((HC.out.2.2.drew.mono (q:=fun q=>mb<=q) (fun _ _ f=>f.elim)).trans (aC.mono (fun q _ h=>Nat.le_of_succ_le h))).trans ((lQ w3 mb 513 (.slice kS bs2.length bK) (.bool true)).mono (fun q _ h=>Nat.le_of_eq h.symm))
  rw[<- HB2.out]at hE
  have HE:Hid _:=zI gy hE
  clear hE gy hO3 Tw aC
  go_wp2
  exact bodyPost_end (v:=.tuple #[]) (by simp[results,Tryz.results141]) rfl ⟨rfl,by have:=HE.out;rw[HB2.out]at this;exact this.1,by have:=HE.out;rw[HB2.out]at this ⊢;exact this.2⟩
end Go.Proofs.YtmnfndpbblpjiabGreatDoor

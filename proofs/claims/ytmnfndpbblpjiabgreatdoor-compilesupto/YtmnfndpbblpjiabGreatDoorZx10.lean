/- A script's steps, gone through: what every statement over scripts shares. -/
import Derived.Test.YtmnfndpbblpjiabGreatDoorZx05
import Derived.Test.YtmnfndpbblpjiabGreatDoorZx08
import Derived.Test.YtmnfndpbblpjiabGreatDoorZx09
set_option maxHeartbeats 1600000
set_option maxRecDepth 100000
namespace Go.Proofs.YtmnfndpbblpjiabGreatDoor
open Go.RowKit
abbrev op4 (kd n:Int) (a b:ByteArray):Value:=.agg #[.int .i64 kd,.int .i64 n,.string a,.string b]
def OX (w:World) (ob:Nat) (kd n:Int) (a b:ByteArray):Prop:=w.heap[ob]?=some (.cells #[.int .i64 kd,.int .i64 n,.string a,.string b] 56 (0,0))
section
variable {w w':World} {ob:Nat} {kd n:Int} {a b:ByteArray}
theorem OX.c1 (h:OX w ob kd n a b):w.cell? ⟨ob,1,none⟩=some (.int .i64 n):=by unfold OX at h;simp[World.cell?,h]
theorem OX.c2 (h:OX w ob kd n a b):w.cell? ⟨ob,2,none⟩=some (.string a):=by unfold OX at h;simp[World.cell?,h]
theorem OX.c3 (h:OX w ob kd n a b):w.cell? ⟨ob,3,none⟩=some (.string b):=by unfold OX at h;simp[World.cell?,h]
theorem OX.keep {p:Nat->Prop} (h:OX w ob kd n a b) (hm:Mod p w w') (hp:¬ p ob):OX w' ob kd n a b:=hm.keep h hp
theorem qQ (w:World) (kd n:Int) (a b:ByteArray):OX (w.alloc (.cells #[.int .i64 kd,.int .i64 n,.string a,.string b] 56)) w.heap.size kd n a b:=by
 unfold OX;show (w.heap.push _)[w.heap.size]?=_;simp
end
def LX (w:World) (v:Value):Prop:=∃ ao len cap,v=.slice ao len cap/\len<=maxLen/\∀ i,i < len->∃ bk off kd n a b,ao=some ⟨bk,off,none⟩/\bk < w.heap.size /\
 w.cell? ⟨bk,off+i*4,none⟩=some (.int .i64 kd)/\w.cell? ⟨bk,off+i*4+1,none⟩=some (.int .i64 n)/\w.cell? ⟨bk,off+i*4+2,none⟩=some (.string a)/\w.cell? ⟨bk,off+i*4+3,none⟩=some (.string b) /\
 a.size<=maxLen/\b.size<=maxLen/\(Lit.int .i64 n).wf=true
theorem fV (n:Int) (w:World):Calls Tryz.prog 39 #[.int .i64 n] w fun e w'=>e=.returned (.int .i64 n)/\w=w':=by
 go_in
 go_wp2
 go_ret
 exact⟨rfl,rfl⟩
def uK (lo hi:Int):Prop:=∀ (kd n:Int) (a b:ByteArray) (w:World),lo<=kd->kd<=hi->a.size<=maxLen->b.size<=maxLen->(Lit.int .i64 n).wf=true ->
 Calls Tryz.prog 30 #[op4 kd n a b] w fun e w'=>e=.returned (.bool true)/\Mod (fun _=>False) w w'
theorem qD (v:Value) (lo hi:Int) (w:World) (hS:LX w v) (hP:uK lo hi) :
  Calls Tryz.prog 22 #[v,.int .i64 lo,.int .i64 hi] w fun e w'=>e=.returned (.int .i64 (-1))/\Mod (fun _=>False) w w':=by
 obtain⟨ao,len,cap,rfl,hlen,hc⟩:=hS
 unfold maxLen at hlen
 have HC:Hid (∀ i,i < len->∃ bk off kd n a b,ao=some ⟨bk,off,none⟩/\bk < w.heap.size /\
  w.cell? ⟨bk,off+i*4,none⟩=some (.int .i64 kd)/\w.cell? ⟨bk,off+i*4+1,none⟩=some (.int .i64 n)/\w.cell? ⟨bk,off+i*4+2,none⟩=some (.string a)/\w.cell? ⟨bk,off+i*4+3,none⟩=some (.string b) /\
  a.size<=maxLen/\b.size<=maxLen/\(Lit.int .i64 n).wf=true):=hc
 have HP:Hid (uK lo hi):=hP
 clear hc hP
 go_in
 go_wp2_with fail
 go_loopw [7] (fun i wr=>∃ k:Nat,k<=len/\i=.int .i64 k/\Mod (fun _=>False) w wr) (fun i _=>len - (intOf i).toNat)
 case atStart=>exact⟨0,by omega,rfl,Mod.refl _ _⟩
 case round =>
  obtain⟨k,hk,rfl,hm⟩:=hrel
  by_cases hlt:k < len
  ·obtain⟨bk,off,kd,n,a,b,rfl,hbk,c0,c1,c2,c3,ha,hb,hn⟩:=HC.out k hlt
   have HA:Hid (a.size<=maxLen/\b.size<=maxLen/\(Lit.int .i64 n).wf=true):=⟨ha,hb,hn⟩
   have hbe:wr.heap[bk]?=w.heap[bk]?:=hm.block bk hbk (fun f=>f)
   have d0:=(World.cell?_of_block (a:=⟨bk,off+k*4,none⟩) hbe).trans c0
   have d1:=(World.cell?_of_block (a:=⟨bk,off+k*4+1,none⟩) hbe).trans c1
   have d2:=(World.cell?_of_block (a:=⟨bk,off+k*4+2,none⟩) hbe).trans c2
   have d3:=(World.cell?_of_block (a:=⟨bk,off+k*4+3,none⟩) hbe).trans c3
   clear c0 c1 c2 c3 ha hb hn hbe HC
   have hma:Mod (fun _=>False) wr (wr.alloc (.cells #[.int .i64 kd,.int .i64 n,.string a,.string b] 56)):=(Mod.refl _ wr).alloc _
   by_cases h1:lo<=kd
   ·by_cases h2:kd<=hi
    ·go_wp2_with fail
     refine (HP.out kd n a b _ h1 h2 HA.out.1 HA.out.2.1 HA.out.2.2).mono ?_
     rintro e w2 ⟨rfl,hm2⟩
     have aC:=hm.trans (hma.trans hm2)
     clear hm hma hm2 d0 d1 d2 d3
     go_wp2
     go_roundw
     case rel=>exact⟨k+1,by omega,by go_num,aC⟩
     case measure=>simp[intOf];omega
    ·have aC:=hm.trans hma
     clear hm hma
     go_wp2
     go_roundw
     case rel=>exact⟨k+1,by omega,by go_num,aC⟩
     case measure=>simp[intOf];omega
   ·have aC:=hm.trans hma
    clear hm hma
    go_wp2
    go_roundw
    case rel=>exact⟨k+1,by omega,by go_num,aC⟩
    case measure=>simp[intOf];omega
  ·clear HC
   go_wp2
   go_ret
   exact⟨rfl,hm⟩
end Go.Proofs.YtmnfndpbblpjiabGreatDoor

/- A step that asks for Check. -/
namespace Go.Proofs.YtmnfndpbblpjiabGreatDoor
open Go.RowKit Pu
theorem H7 (n:Int) (a b:ByteArray) (w:World) (ha:a.size<=maxLen):Calls Tryz.prog 37 #[op4 1 n a b] w fun e w'=>e=.returned (.bool true)/\Mod (fun _=>False) w w':=by
 have hO:=qQ w 1 n a b
 have hm0:Mod (fun _=>False) w (w.alloc (.cells #[.int .i64 1,.int .i64 n,.string a,.string b] 56)):=(Mod.refl _ w).alloc _
 by_cases hs:a.size<=300
 ·go_in
  go_wp2_with fail
  refine (Ms a _ hs).mono ?_
  rintro e w1 ⟨⟨x,y,hA,rfl⟩,hm1⟩
  have mZ:=hO.keep hm1 (fun f=>f)
  have c2:=mZ.c2
  go_wp2_with fail
  refine (og a _ hs).mono ?_
  rintro e w2 ⟨⟨x',y',hA',rfl⟩,hm2⟩
  obtain⟨rfl,rfl⟩:=hA.unique hA'
  have hm:=hm0.trans (hm1.trans hm2)
  clear hA hA' hm0 hm1 hm2 c2 mZ hO
  go_wp2_with (go_at_call 39;refine (fV _ _).mono ?_;rintro e w' ⟨rfl,rfl⟩)
  go_ret
  exact⟨rfl,hm⟩
 ·go_in
  go_wp2_with fail
  refine (Jh a _ (by omega) ha).mono ?_
  rintro e w1 ⟨rfl,rfl⟩
  have c2:=hO.c2
  go_wp2_with fail
  refine (oW a _ (by omega) ha).mono ?_
  rintro e w2 ⟨rfl,rfl⟩
  go_wp2_with (go_at_call 39;refine (fV _ _).mono ?_;rintro e w' ⟨rfl,rfl⟩)
  go_ret
  exact⟨rfl,hm0⟩
theorem yY:uK 1 1:=by
 intro kd n a b w h1 h2 ha hb hn
 obtain rfl:kd=1:=by omega
 have hm0:Mod (fun _=>False) w (w.alloc (.cells #[.int .i64 1,.int .i64 n,.string a,.string b] 56)):=(Mod.refl _ w).alloc _
 clear h1 h2 hb hn
 go_in
 go_wp2_with fail
 refine (H7 n a b _ ha).mono ?_
 rintro e w1 ⟨rfl,hm1⟩
 go_wp2
 go_ret
 exact⟨rfl,hm0.trans hm1⟩
theorem Ij (s:ByteArray) (w:World) (hs:8006 < s.size) (hm:s.size<=maxLen):Calls Tryz.prog 24 #[.string s] w fun e w'=>e=.returned (.tuple #[.int .i64 1,.int .i64 0])/\Mod (fun _=>False) w w':=by
 have hd:=FB s w hs hm
 unfold maxLen at hm
 go_in
 go_wp2_with fail
 refine hd.mono ?_
 rintro e w1 ⟨rfl,hm1⟩
 go_wp2
 go_ret2
 exact⟨rfl,hm1.alloc _⟩
theorem KL (s:ByteArray) (w:World) (hs:s.size<=8006):Calls Tryz.prog 24 #[.string s] w fun e w'=>e=.returned (.tuple #[.int .i64 (lU s).1,.int .i64 (lU s).2])/\Mod (fun _=>False) w w':=by
 go_in
 go_wp2_with fail
 refine (vS s w hs).mono ?_
 rintro e w1 ⟨⟨a,b,ao,n,cap,rfl,-⟩,hm1⟩
 go_wp2
 go_ret2
 exact⟨rfl,hm1.alloc _⟩
theorem EJ (n:Int) (a b:ByteArray) (w:World) (ha:a.size<=maxLen):Calls Tryz.prog 37 #[op4 3 n a b] w fun e w'=>e=.returned (.bool true)/\Mod (fun _=>False) w w':=by
 have hO:=qQ w 3 n a b
 have hm0:Mod (fun _=>False) w (w.alloc (.cells #[.int .i64 3,.int .i64 n,.string a,.string b] 56)):=(Mod.refl _ w).alloc _
 by_cases hs:a.size<=8006
 ·go_in
  go_wp2_with fail
  refine (KL a _ hs).mono ?_
  rintro e w1 ⟨rfl,hm1⟩
  have mZ:=hO.keep hm1 (fun f=>f)
  have c2:=mZ.c2
  go_wp2_with fail
  refine (gW a _ hs).mono ?_
  rintro e w2 ⟨rfl,hm2⟩
  have hm:=hm0.trans (hm1.trans hm2)
  clear hm0 hm1 hm2 c2 mZ hO
  go_wp2_with (go_at_call 39;refine (fV _ _).mono ?_;rintro e w' ⟨rfl,rfl⟩)
  go_ret
  exact⟨rfl,hm⟩
 ·go_in
  go_wp2_with fail
  refine (Ij a _ (by omega) ha).mono ?_
  rintro e w1 ⟨rfl,hm1⟩
  have mZ:=hO.keep hm1 (fun f=>f)
  have c2:=mZ.c2
  go_wp2_with fail
  refine (wT a _ (by omega) ha).mono ?_
  rintro e w2 ⟨rfl,rfl⟩
  have hm:=hm0.trans hm1
  go_wp2_with (go_at_call 39;refine (fV _ _).mono ?_;rintro e w' ⟨rfl,rfl⟩)
  go_ret
  exact⟨rfl,hm⟩
theorem wL:uK 3 3:=by
 intro kd n a b w h1 h2 ha hb hn
 obtain rfl:kd=3:=by omega
 have hm0:Mod (fun _=>False) w (w.alloc (.cells #[.int .i64 3,.int .i64 n,.string a,.string b] 56)):=(Mod.refl _ w).alloc _
 clear h1 h2 hb hn
 go_in
 go_wp2_with fail
 refine (EJ n a b _ ha).mono ?_
 rintro e w1 ⟨rfl,hm1⟩
 go_wp2
 go_ret
 exact⟨rfl,hm0.trans hm1⟩
theorem Tryz.info4:(Tryz.prog.info? 4).map (fun i=>(i.zero,i.size,i.bytes))=some (some (.bool false),1,1):=by kernel_rfl
def BS (l:List Bool):List Value:=l.map fun b=>Value.bool b
theorem uj (d:List Bool) (k:Nat) (x:Bool):(BS d).set k (.bool x)=BS (d.set k x):=by simp[BS,List.map_set]
theorem Ay (n:Nat):(madeCells #[Value.bool false] (n*1)).toList=BS (List.replicate n false):=by rw[toList_madeCells_one];simp[BS]
theorem kQ {w:World} {base n:Nat} {ao:Option Addr} {cap:Nat} {l:List Bool} (h:w.ownsRow base 4 1 (.slice ao n cap) n (BS l)) (hn:n=l.length) {k:Nat} (hk:k < l.length) :
  ∃ gb,ao=some ⟨gb,0,none⟩/\w.cell? ⟨gb,k,none⟩=some (.bool l[k]):=by
 subst hn
 obtain⟨gb,rfl,hc⟩:=iM h (j:=k) (by omega)
 exact⟨gb,rfl,by rw[hc];simp[BS,hk]⟩
theorem JZ (v:Value) (l:List Stp) (base:Nat) (w:World) (hl:l.length<=3000) (hL:o8 w base v l) (hsm:∀ t∈l,Small t) :
  Calls Tryz.prog 68 #[v] w fun e w'=>Mod (fun _=>False) w w'/\∃ u,e=.returned u/\w'.ownsRow w.heap.size 4 1 u l.length (BS (aV l)):=by
 obtain⟨i0,hi,hz0,hz1,hz2⟩:=info_parts Tryz.info4
 obtain⟨ao,cap,rfl,-⟩:=aj hL
 have IV:Hid (∀ t∈l,Small t):=hsm
 clear hsm
 go_in
 go_wp2_with (at_make;refine wpList_make_full _ rfl _ _ 111 rfl w.heap.size 4 i0 (.bool false) 1 Tryz.underlying111 hi hz0 hz1 _ _ _ _ l.length rfl rfl (by omega) (by omega) (by rw[hz2];omega) (by unfold maxLen;omega) (by simp) ?_)
 intro W hown0 gK
 have hm0:=(Mod.refl (fun _=>False) w).grown gK (fun k hk _=>by cases hk)
 have hown1:W.ownsRow w.heap.size 4 1 (.slice (some ⟨w.heap.size,0,none⟩) l.length l.length) l.length (BS (List.replicate l.length false)):=by
  rw[<- Ay];simpa using hown0
 have fK:Mod (fun q=>w.heap.size<=q) w W:=hm0.mono (fun _ _ f=>f.elim)
 clear gK hown0 hm0
 go_wp2_with fail
 go_loopw [4,5,6,7] (fun kv _ _ _ wr=>∃ (k:Nat) (d:List Bool),k<=l.length/\kv=.int .i64 ((k:Int) - 1)/\Hid (d.length=l.length)/\wr.ownsRow w.heap.size 4 1 (.slice (some ⟨w.heap.size,0,none⟩) l.length l.length) l.length (BS d)/\Hid (dP l k d=aV l)/\Mod (fun q=>w.heap.size<=q) w wr) (fun kv _ _ _ _=>(intOf kv+1).toNat)
 case atStart=>exact⟨l.length,_,by omega,rfl,by simp[Hid],hown1,rfl,fK⟩
 case round =>
  clear hown1 fK
  obtain⟨k,d,hk,rfl,rC,hown,HN,hm⟩:=hrel
  cases k with
  | zero =>
   have HE:Hid (d=aV l):=HN.out
   go_wp2
   go_ret
   exact⟨hm.mono (fun q hq h=>by omega),_,rfl,by rw[<- HE.out];exact hown⟩
  | succ k =>
   have hkl:k < l.length:=by omega
   have e1:((k+1:Nat):Int) - 1=(k:Int):=by omega
   rw[e1]
   clear e1
   have hkd:k < d.length:=by have:=rC.out;omega
   have hmw:Mod (fun _=>False) w wr:=hm.mono (fun q hq h=>by omega)
   have qH:=hL.mod hmw
   obtain⟨gb,rfl,c0,c1,c2,c3⟩:=qH.cell hkl
   obtain⟨gd,hgd,cd⟩:=kQ hown rC.out.symm hkd
   injection hgd with hgd
   injection hgd with hgd
   subst hgd
   have fd:=hown.frozenAt k
   have hs:=IV.out _ (List.getElem_mem hkl)
   have HI:Hid (K7 l k d=(d[k] || decide (6<=l[k].op))):=JF hkl hkd
   have s0:=hs.1
   generalize hdk:d[k]=dk at *
   have HDK:Hid (d[k]=dk):=hdk
   clear hdk
   cases dk with
   | true =>
    have WA:Hid (K7 l k d=true):=show K7 l k d=true by rw[HI.out];simp
    have Tp:Hid (dP l k (marks l k (readsOf l[k]) (d.set k true))=aV l):=show dP l k (marks l k (readsOf l[k]) (d.set k true))=aV l by
     rw[<- HN.out];show _=dP l k (dQ l k d);rw[nu hkl WA.out]
    have hst:(wr.setCell ⟨w.heap.size,k,none⟩ (.bool true)).ownsRow w.heap.size 4 1 (.slice (some ⟨w.heap.size,0,none⟩) l.length l.length) l.length (BS (d.set k true)):=by
     rw[<- uj];exact (hown.stored k (.bool true)).1
    have hms:Mod (fun q=>w.heap.size<=q) w (wr.setCell ⟨w.heap.size,k,none⟩ (.bool true)):=hm.setCell _ _ (fun _=>Nat.le_refl _)
    have hLs:o8 (wr.setCell ⟨w.heap.size,k,none⟩ (.bool true)) base (.slice (some ⟨gb,0,none⟩) l.length cap) l:=hL.mod (hms.mono (fun q hq h=>by omega))
    have hcs:(wr.setCell ⟨w.heap.size,k,none⟩ (.bool true)).cell? ⟨w.heap.size,k,none⟩=some (.bool true):=by
     obtain⟨g2,hg2,WI⟩:=kQ hst (by have:=rC.out;simp;omega) (k:=k) (by simpa using hkd)
     injection hg2 with hg2
     injection hg2 with hg2
     rw[<- hg2]at WI
     rw[WI];simp
    obtain⟨g2,hg2,e0,e1,e2,e3⟩:=hLs.cell hkl
    injection hg2 with hg2
    injection hg2 with hg2
    subst hg2
    have hwl:w.heap.size < (wr.setCell ⟨w.heap.size,k,none⟩ (.bool true)).heap.size:=(hst.lt w.heap.size rfl).2
    generalize hws:wr.setCell ⟨w.heap.size,k,none⟩ (.bool true)=ws at *
    clear HI WA HDK qH c1 c2 c3 hm hmw
    go_wp2_with fail
    refine (yA l[k] _ hs).mono ?_
    rintro e w2 ⟨hm2,v2,rfl,F5⟩
    have hrl:=sU l[k]
    have OI:Hid (∀ r∈readsOf l[k],r < 256):=sW hs
    have Qv:=au hst hm2 (fun _ _ f=>f)
    have Yv:=hms.trans (hm2.mono (q:=fun q=>w.heap.size<=q) (fun _ _ f=>f.elim))
    clear hst hms hLs hcs e0 e1 e2 e3 hm2 c0 cd fd hws hown
    generalize readsOf l[k]=rs at *
    obtain⟨ro,lN,rfl,-⟩:=aj F5
    go_wp2_with fail
    go_loopw [6,7] (fun jv _ wr=>∃ (j:Nat) (d2:List Bool),j<=rs.length/\jv=.int .i64 j/\Hid (d2.length=l.length)/\wr.ownsRow w.heap.size 4 1 (.slice (some ⟨w.heap.size,0,none⟩) l.length l.length) l.length (BS d2)/\Hid (d2=marks l k (rs.take j) (d.set k true))/\Mod (fun q=>q=w.heap.size) w2 wr) (fun jv _ _=>rs.length - (intOf jv).toNat)
    case atStart=>exact⟨0,_,by omega,rfl,show (d.set k true).length=l.length by simpa using rC.out,Qv,show _=_ by simp[marks],Mod.refl _ _⟩
    case round =>
     clear Qv
     obtain⟨j,d2,hj,rfl,HD2,hown,HM,hm⟩:=hrel
     have fK:Mod (fun q=>w.heap.size<=q) w wr:=Yv.trans (hm.mono (fun q _ h=>by omega))
     by_cases hlt:j < rs.length
     ·have qH:=hL.mod (fK.mono (fun q hq h=>by omega))
      have hRr:=au F5 hm (fun q hq f=>by omega)
      obtain⟨rb2,rfl,cj⟩:=fA hRr rfl hlt
      have WZ:=OI.out _ (List.getElem_mem hlt)
      have hsg:=vH l rs[j] k
      have hsl:=om l rs[j] k
      have HT:=qM l k rs (d.set k true) j hlt
      have HT:Hid (marks l k (rs.take (j+1)) (d.set k true)=lW l k d2 rs[j]):=show _=_ by rw[qM l k rs (d.set k true) j hlt,<- HM.out]
      by_cases hset:0<=aI l rs[j] k
      ·obtain⟨a,ha⟩:∃ a:Nat,aI l rs[j] k=(a:Int):=⟨(aI l rs[j] k).toNat,by omega⟩
       have TQ:Hid (aI l rs[j] k=(a:Int)):=ha
       have hak:a < l.length:=by omega
       have Fe:Hid (d2.set a true=marks l k (rs.take (j+1)) (d.set k true)):=show _=_ by
        rw[HT.out];unfold lW;rw[TQ.out,if_pos (by omega)];simp
       have HD3:Hid ((d2.set a true).length=l.length):=show _=_ by simpa using HD2.out
       have fd:=hown.frozenAt a
       have hst:(wr.setCell ⟨w.heap.size,a,none⟩ (.bool true)).ownsRow w.heap.size 4 1 (.slice (some ⟨w.heap.size,0,none⟩) l.length l.length) l.length (BS (d2.set a true)):=by
        rw[<- uj];exact (hown.stored a (.bool true)).1
       have aC:Mod (fun q=>q=w.heap.size) w2 (wr.setCell ⟨w.heap.size,a,none⟩ (.bool true)):=hm.setCell _ _ (fun _=>rfl)
       obtain⟨gd,hgd,cd⟩:=kQ hown HD2.out.symm (k:=a) (by have:=HD2.out;omega)
       injection hgd with hgd
       injection hgd with hgd
       subst hgd
       clear ha hsg hsl hset HT HM
       go_wp2_with fail
       refine (lS (.slice (some ⟨gb,0,none⟩) l.length cap) l k rs[j] base wr hl (by omega) qH IV.out WZ).mono ?_
       rintro e w3 ⟨he,rfl⟩
       rw[TQ.out]at he
       subst he
       go_wp2
       go_roundw
       case rel=>exact⟨j+1,_,by omega,by go_num,HD3,hst,Fe,aC⟩
       case measure=>simp[intOf];omega
      ·have TQ:Hid (aI l rs[j] k=-1):=show _=_ by omega
       have Fe:Hid (d2=marks l k (rs.take (j+1)) (d.set k true)):=show _=_ by
        rw[HT.out];unfold lW;rw[if_neg hset]
       clear hsg hsl hset HT HM
       go_wp2_with fail
       refine (lS (.slice (some ⟨gb,0,none⟩) l.length cap) l k rs[j] base wr hl (by omega) qH IV.out WZ).mono ?_
       rintro e w3 ⟨he,rfl⟩
       rw[TQ.out]at he
       subst he
       go_wp2
       go_roundw
       case rel=>exact⟨j+1,_,by omega,by go_num,HD2,hown,Fe,hm⟩
       case measure=>simp[intOf];omega
     ·have hj':j=rs.length:=by omega
      have Ce:Hid (dP l k d2=aV l):=show _=_ by rw[<- Tp.out,HM.out,hj',List.take_length]
      clear hj' HM Tp
      go_wp2
      go_roundw
      case rel=>exact⟨k,d2,by omega,by go_num,HD2,hown,Ce,fK⟩
      case measure=>simp[intOf]
   | false =>
    by_cases h6:6<=l[k].op
    ·have WA:Hid (K7 l k d=true):=show K7 l k d=true by rw[HI.out];simp[h6]
     have Tp:Hid (dP l k (marks l k (readsOf l[k]) (d.set k true))=aV l):=show dP l k (marks l k (readsOf l[k]) (d.set k true))=aV l by
      rw[<- HN.out];show _=dP l k (dQ l k d);rw[nu hkl WA.out]
     have hst:(wr.setCell ⟨w.heap.size,k,none⟩ (.bool true)).ownsRow w.heap.size 4 1 (.slice (some ⟨w.heap.size,0,none⟩) l.length l.length) l.length (BS (d.set k true)):=by
      rw[<- uj];exact (hown.stored k (.bool true)).1
     have hms:Mod (fun q=>w.heap.size<=q) w (wr.setCell ⟨w.heap.size,k,none⟩ (.bool true)):=hm.setCell _ _ (fun _=>Nat.le_refl _)
     have hLs:o8 (wr.setCell ⟨w.heap.size,k,none⟩ (.bool true)) base (.slice (some ⟨gb,0,none⟩) l.length cap) l:=hL.mod (hms.mono (fun q hq h=>by omega))
     have hcs:(wr.setCell ⟨w.heap.size,k,none⟩ (.bool true)).cell? ⟨w.heap.size,k,none⟩=some (.bool true):=by
      obtain⟨g2,hg2,WI⟩:=kQ hst (by have:=rC.out;simp;omega) (k:=k) (by simpa using hkd)
      injection hg2 with hg2
      injection hg2 with hg2
      rw[<- hg2]at WI
      rw[WI];simp
     obtain⟨g2,hg2,e0,e1,e2,e3⟩:=hLs.cell hkl
     injection hg2 with hg2
     injection hg2 with hg2
     subst hg2
     have hwl:w.heap.size < (wr.setCell ⟨w.heap.size,k,none⟩ (.bool true)).heap.size:=(hst.lt w.heap.size rfl).2
     generalize hws:wr.setCell ⟨w.heap.size,k,none⟩ (.bool true)=ws at *
     clear HI WA HDK qH c1 c2 c3 hm hmw
     go_wp2_with fail
     refine (yA l[k] _ hs).mono ?_
     rintro e w2 ⟨hm2,v2,rfl,F5⟩
     have hrl:=sU l[k]
     have OI:Hid (∀ r∈readsOf l[k],r < 256):=sW hs
     have Qv:=au hst hm2 (fun _ _ f=>f)
     have Yv:=hms.trans (hm2.mono (q:=fun q=>w.heap.size<=q) (fun _ _ f=>f.elim))
     clear hst hms hLs hcs e0 e1 e2 e3 hm2 c0 cd fd hws hown
     generalize readsOf l[k]=rs at *
     obtain⟨ro,lN,rfl,-⟩:=aj F5
     go_wp2_with fail
     go_loopw [6,7] (fun jv _ wr=>∃ (j:Nat) (d2:List Bool),j<=rs.length/\jv=.int .i64 j/\Hid (d2.length=l.length)/\wr.ownsRow w.heap.size 4 1 (.slice (some ⟨w.heap.size,0,none⟩) l.length l.length) l.length (BS d2)/\Hid (d2=marks l k (rs.take j) (d.set k true))/\Mod (fun q=>q=w.heap.size) w2 wr) (fun jv _ _=>rs.length - (intOf jv).toNat)
     case atStart=>exact⟨0,_,by omega,rfl,show (d.set k true).length=l.length by simpa using rC.out,Qv,show _=_ by simp[marks],Mod.refl _ _⟩
     case round =>
      clear Qv
      obtain⟨j,d2,hj,rfl,HD2,hown,HM,hm⟩:=hrel
      have fK:Mod (fun q=>w.heap.size<=q) w wr:=Yv.trans (hm.mono (fun q _ h=>by omega))
      by_cases hlt:j < rs.length
      ·have qH:=hL.mod (fK.mono (fun q hq h=>by omega))
       have hRr:=au F5 hm (fun q hq f=>by omega)
       obtain⟨rb2,rfl,cj⟩:=fA hRr rfl hlt
       have WZ:=OI.out _ (List.getElem_mem hlt)
       have hsg:=vH l rs[j] k
       have hsl:=om l rs[j] k
       have HT:=qM l k rs (d.set k true) j hlt
       have HT:Hid (marks l k (rs.take (j+1)) (d.set k true)=lW l k d2 rs[j]):=show _=_ by rw[qM l k rs (d.set k true) j hlt,<- HM.out]
       by_cases hset:0<=aI l rs[j] k
       ·obtain⟨a,ha⟩:∃ a:Nat,aI l rs[j] k=(a:Int):=⟨(aI l rs[j] k).toNat,by omega⟩
        have TQ:Hid (aI l rs[j] k=(a:Int)):=ha
        have hak:a < l.length:=by omega
        have Fe:Hid (d2.set a true=marks l k (rs.take (j+1)) (d.set k true)):=show _=_ by
         rw[HT.out];unfold lW;rw[TQ.out,if_pos (by omega)];simp
        have HD3:Hid ((d2.set a true).length=l.length):=show _=_ by simpa using HD2.out
        have fd:=hown.frozenAt a
        have hst:(wr.setCell ⟨w.heap.size,a,none⟩ (.bool true)).ownsRow w.heap.size 4 1 (.slice (some ⟨w.heap.size,0,none⟩) l.length l.length) l.length (BS (d2.set a true)):=by
         rw[<- uj];exact (hown.stored a (.bool true)).1
        have aC:Mod (fun q=>q=w.heap.size) w2 (wr.setCell ⟨w.heap.size,a,none⟩ (.bool true)):=hm.setCell _ _ (fun _=>rfl)
        obtain⟨gd,hgd,cd⟩:=kQ hown HD2.out.symm (k:=a) (by have:=HD2.out;omega)
        injection hgd with hgd
        injection hgd with hgd
        subst hgd
        clear ha hsg hsl hset HT HM
        go_wp2_with fail
        refine (lS (.slice (some ⟨gb,0,none⟩) l.length cap) l k rs[j] base wr hl (by omega) qH IV.out WZ).mono ?_
        rintro e w3 ⟨he,rfl⟩
        rw[TQ.out]at he
        subst he
        go_wp2
        go_roundw
        case rel=>exact⟨j+1,_,by omega,by go_num,HD3,hst,Fe,aC⟩
        case measure=>simp[intOf];omega
       ·have TQ:Hid (aI l rs[j] k=-1):=show _=_ by omega
        have Fe:Hid (d2=marks l k (rs.take (j+1)) (d.set k true)):=show _=_ by
         rw[HT.out];unfold lW;rw[if_neg hset]
        clear hsg hsl hset HT HM
        go_wp2_with fail
        refine (lS (.slice (some ⟨gb,0,none⟩) l.length cap) l k rs[j] base wr hl (by omega) qH IV.out WZ).mono ?_
        rintro e w3 ⟨he,rfl⟩
        rw[TQ.out]at he
        subst he
        go_wp2
        go_roundw
        case rel=>exact⟨j+1,_,by omega,by go_num,HD2,hown,Fe,hm⟩
        case measure=>simp[intOf];omega
      ·have hj':j=rs.length:=by omega
       have Ce:Hid (dP l k d2=aV l):=show _=_ by rw[<- Tp.out,HM.out,hj',List.take_length]
       clear hj' HM Tp
       go_wp2
       go_roundw
       case rel=>exact⟨k,d2,by omega,by go_num,HD2,hown,Ce,fK⟩
       case measure=>simp[intOf]
    ·have WA:Hid (K7 l k d=false):=show K7 l k d=false by rw[HI.out];simp[h6]
     have Tp:Hid (dP l k (d.set k false)=aV l):=show _=_ by
      rw[<- HN.out];show _=dP l k (dQ l k d);rw[sI WA.out];congr 1
      rw[<- HDK.out,List.set_getElem_self]
     have hst:(wr.setCell ⟨w.heap.size,k,none⟩ (.bool false)).ownsRow w.heap.size 4 1 (.slice (some ⟨w.heap.size,0,none⟩) l.length l.length) l.length (BS (d.set k false)):=by
      rw[<- uj];exact (hown.stored k (.bool false)).1
     have hms:Mod (fun q=>w.heap.size<=q) w (wr.setCell ⟨w.heap.size,k,none⟩ (.bool false)):=hm.setCell _ _ (fun _=>Nat.le_refl _)
     have hcs:(wr.setCell ⟨w.heap.size,k,none⟩ (.bool false)).cell? ⟨w.heap.size,k,none⟩=some (.bool false):=by
      obtain⟨g2,hg2,WI⟩:=kQ hst (by have:=rC.out;simp;omega) (k:=k) (by simpa using hkd)
      injection hg2 with hg2
      injection hg2 with hg2
      rw[<- hg2]at WI
      rw[WI];simp
     have HD3:Hid ((d.set k false).length=l.length):=show _=_ by simpa using rC.out
     have hbf:decide ((6:Int)<=(l[k].op:Int))=false:=by simp;omega
     clear HI WA HDK qH c1 c2 c3 hm hmw
     go_wp2
     go_roundw
     case rel=>exact⟨k,_,by omega,by go_num,HD3,hst,Tp,hms⟩
     case measure=>simp[intOf]
end Go.Proofs.YtmnfndpbblpjiabGreatDoor

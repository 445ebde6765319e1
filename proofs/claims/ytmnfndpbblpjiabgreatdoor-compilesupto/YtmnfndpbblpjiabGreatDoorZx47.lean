/- The document's arguments of a statement: the things that its names gave. -/
import Derived.Test.YtmnfndpbblpjiabGreatDoorZx05
import Derived.Test.YtmnfndpbblpjiabGreatDoorZx42
import Derived.Test.YtmnfndpbblpjiabGreatDoorZx43
import Derived.Test.YtmnfndpbblpjiabGreatDoorZx44
import Derived.Test.YtmnfndpbblpjiabGreatDoorZx45
import Derived.Test.YtmnfndpbblpjiabGreatDoorZx46
set_option maxHeartbeats 3200000
set_option maxRecDepth 100000
namespace Go.Proofs.YtmnfndpbblpjiabGreatDoor
open Go.RowKit Pu
theorem Tryz.infoThg:(Tryz.prog.info? 169).map (fun i=>(i.zero,i.size,i.bytes))=some (some (.agg #[.bool false,.slice none 0 0,.bool false,.slice none 0 0,.bool false,.slice none 0 0,.bool false,.slice none 0 0,.bool false,.slice none 0 0,.bool false,.slice none 0 0,.bool false,.slice none 0 0,.bool false,.slice none 0 0]),16,256):=by kernel_rfl
def KG (z:TV):List Value:=[.bool z.p.x.b,.slice z.p.x.a z.p.x.n z.p.x.c,.bool z.p.y.b,.slice z.p.y.a z.p.y.n z.p.y.c,.bool z.p.w.b,.slice z.p.w.a z.p.w.n z.p.w.c,.bool z.l.p.x.b,.slice z.l.p.x.a z.l.p.x.n z.l.p.x.c,.bool z.l.p.y.b,.slice z.l.p.y.a z.l.p.y.n z.l.p.y.c,.bool z.l.p.w.b,.slice z.l.p.w.a z.l.p.w.n z.l.p.w.c,.bool z.l.x.b,.slice z.l.x.a z.l.x.n z.l.x.c,.bool z.l.y.b,.slice z.l.y.a z.l.y.n z.l.y.c]
theorem EK (z:TV):(KG z).length=16:=rfl
def ze (l:List TV):List Value:=l.flatMap KG
theorem oq (q:List TV) (t:TV):ze q++KG t=ze (q++[t]):=by simp[ze]
theorem SL (q:List TV) (j i:Nat) (hj:j < q.length) (hi:i < 16):(ze q)[j*16+i]?=(KG q[j])[i]?:=by
 induction q generalizing j with
 | nil=>simp at hj
 | cons t q ih =>
  cases j with
  | zero =>
   simp only[ze,List.flatMap_cons,Nat.zero_mul,Nat.zero_add,List.getElem_cons_zero]
   rw[List.getElem?_append_left (by rw[EK];exact hi)]
  | succ j =>
   have:=ih j (by simpa using hj)
   simp only[ze,List.flatMap_cons,List.getElem_cons_succ]at *
   rw[List.getElem?_append_right (by rw[EK];omega),<- this]
   congr 1
   rw[EK];omega
def jq (w:World) (base:Nat) (v:Value) (l:List TV):Prop:=w.ownsRow base 169 16 v l.length (ze l)
theorem jq.mod {w w':World} {base:Nat} {v:Value} {l:List TV} (h:jq w base v l) (hm:Mod (fun _=>False) w w'):jq w' base v l:=au h hm (fun _ _ f=>f)
theorem jq.cell {w:World} {base:Nat} {ao:Option Addr} {cap:Nat} {l:List TV} (h:jq w base (.slice ao l.length cap) l) {j:Nat} (hj:j < l.length) :
  ∃ gb,ao=some ⟨gb,0,none⟩/\∀ i,i < 16->w.cell? ⟨gb,j*16+i,none⟩=(KG l[j])[i]?:=by
 unfold jq at h
 obtain⟨gb,rfl,h0⟩:=iM h (j:=j*16+0) (by omega)
 refine⟨gb,rfl,fun i hi=>?_⟩
 rw[<- SL l j i hj hi]
 exact h.cellAt (j*16+i) (by omega)
theorem jq.cells {w:World} {base gb:Nat} {cap n:Nat} {l:List TV} (h:jq w base (.slice (some ⟨gb,0,none⟩) n cap) l) (hn:n=l.length) {j:Nat} (hj:j < l.length):w.cell? ⟨gb,j*16,none⟩=some (.bool l[j].p.x.b)/\w.cell? ⟨gb,j*16+1,none⟩=some (.slice l[j].p.x.a l[j].p.x.n l[j].p.x.c)/\w.cell? ⟨gb,j*16+2,none⟩=some (.bool l[j].p.y.b)/\w.cell? ⟨gb,j*16+3,none⟩=some (.slice l[j].p.y.a l[j].p.y.n l[j].p.y.c)/\w.cell? ⟨gb,j*16+4,none⟩=some (.bool l[j].p.w.b)/\w.cell? ⟨gb,j*16+5,none⟩=some (.slice l[j].p.w.a l[j].p.w.n l[j].p.w.c)/\w.cell? ⟨gb,j*16+6,none⟩=some (.bool l[j].l.p.x.b)/\w.cell? ⟨gb,j*16+7,none⟩=some (.slice l[j].l.p.x.a l[j].l.p.x.n l[j].l.p.x.c)/\w.cell? ⟨gb,j*16+8,none⟩=some (.bool l[j].l.p.y.b)/\w.cell? ⟨gb,j*16+9,none⟩=some (.slice l[j].l.p.y.a l[j].l.p.y.n l[j].l.p.y.c)/\w.cell? ⟨gb,j*16+10,none⟩=some (.bool l[j].l.p.w.b)/\w.cell? ⟨gb,j*16+11,none⟩=some (.slice l[j].l.p.w.a l[j].l.p.w.n l[j].l.p.w.c)/\w.cell? ⟨gb,j*16+12,none⟩=some (.bool l[j].l.x.b)/\w.cell? ⟨gb,j*16+13,none⟩=some (.slice l[j].l.x.a l[j].l.x.n l[j].l.x.c)/\w.cell? ⟨gb,j*16+14,none⟩=some (.bool l[j].l.y.b)/\w.cell? ⟨gb,j*16+15,none⟩=some (.slice l[j].l.y.a l[j].l.y.n l[j].l.y.c):=by
 subst hn
 obtain⟨_,e,c⟩:=h.cell hj
 cases e
 exact⟨c 0 (by decide),c 1 (by decide),c 2 (by decide),c 3 (by decide),c 4 (by decide),c 5 (by decide),c 6 (by decide),c 7 (by decide),c 8 (by decide),c 9 (by decide),c 10 (by decide),c 11 (by decide),c 12 (by decide),c 13 (by decide),c 14 (by decide),c 15 (by decide)⟩
theorem jq.pc {w:World} {base gb:Nat} {cap n:Nat} {l:List TV} (h:jq w base (.slice (some ⟨gb,0,none⟩) n cap) l) (hn:n=l.length) (j:Nat) {z:TV} (hj:l[j]?=some z) (off:Nat) (ho:off=j*16):Cl w gb off #[.bool z.p.x.b,.slice z.p.x.a z.p.x.n z.p.x.c,.bool z.p.y.b,.slice z.p.y.a z.p.y.n z.p.y.c,.bool z.p.w.b,.slice z.p.w.a z.p.w.n z.p.w.c]:=by
 subst hn ho
 obtain⟨hl,e⟩:=List.getElem?_eq_some_iff.1 hj
 obtain⟨_,e',c⟩:=h.cell hl
 cases e'
 intro i v hi
 have h6:i < 6:=by by_cases h6:i < 6;(· exact h6);(· rw[Array.getElem?_eq_none (by simpa using h6)]at hi;cases hi)
 rw[c i (by omega),e,<- hi]
 match i,h6 with
 | 0,_=>rfl
 | 1,_=>rfl
 | 2,_=>rfl
 | 3,_=>rfl
 | 4,_=>rfl
 | 5,_=>rfl
theorem jq.lc {w:World} {base gb:Nat} {cap n:Nat} {l:List TV} (h:jq w base (.slice (some ⟨gb,0,none⟩) n cap) l) (hn:n=l.length) (j:Nat) {z:TV} (hj:l[j]?=some z) (off:Nat) (ho:off=j*16+6):Cl w gb off #[.bool z.l.p.x.b,.slice z.l.p.x.a z.l.p.x.n z.l.p.x.c,.bool z.l.p.y.b,.slice z.l.p.y.a z.l.p.y.n z.l.p.y.c,.bool z.l.p.w.b,.slice z.l.p.w.a z.l.p.w.n z.l.p.w.c,.bool z.l.x.b,.slice z.l.x.a z.l.x.n z.l.x.c,.bool z.l.y.b,.slice z.l.y.a z.l.y.n z.l.y.c]:=by
 subst hn ho
 obtain⟨hl,e⟩:=List.getElem?_eq_some_iff.1 hj
 obtain⟨_,e',c⟩:=h.cell hl
 cases e'
 intro i v hi
 have h6:i < 10:=by by_cases h6:i < 10;(· exact h6);(· rw[Array.getElem?_eq_none (by simpa using h6)]at hi;cases hi)
 rw[Nat.add_assoc,c (6+i) (by omega),e,<- hi]
 match i,h6 with
 | 0,_=>rfl
 | 1,_=>rfl
 | 2,_=>rfl
 | 3,_=>rfl
 | 4,_=>rfl
 | 5,_=>rfl
 | 6,_=>rfl
 | 7,_=>rfl
 | 8,_=>rfl
 | 9,_=>rfl
theorem nG (w:World) (cs:Array Value) (t:TypeId):∀ j u,cs.toList[j]?=some u->(w.alloc (.cells cs t)).cell? ((⟨w.heap.size,0,none⟩:Addr).add j)=some u:=by
 intro j u hj
 have:=(aQ w cs t).c j
 rw[show ((⟨w.heap.size,0,none⟩:Addr).add j)=⟨w.heap.size,j,none⟩ by simp[Addr.add];exact fun h=>h.symm,this,<- hj]
 simp
def Wt:TV:=⟨⟨⟨false,none,0,0⟩,⟨false,none,0,0⟩,⟨false,none,0,0⟩⟩,⟨⟨⟨false,none,0,0⟩,⟨false,none,0,0⟩,⟨false,none,0,0⟩⟩,⟨false,none,0,0⟩,⟨false,none,0,0⟩⟩⟩
def KH (Z:List TV) (j:Nat):TV:=Z[j]?.getD Wt
def pick (l:List St) (Z:List TV) (a:List UInt8):List TV:=a.map (fun c=>KH Z (gN l c.toNat).toNat)
theorem AY (l:List St) (Z:List TV) (a:List UInt8):(pick l Z a).length=a.length:=by simp[pick]
def ArgRel (l:List St) (Z:List TV) (ar:List UInt8) (w:World) (vo i:Value) (wr:World):Prop:=∃ n:Nat,n<=ar.length/\i=.int .i64 n/\jq wr w.heap.size vo (pick l Z (ar.take n))/\Mod (fun _=>False) w wr
theorem UG {l:List St} {k nm:Nat} (h:gN (l.take k) nm≠-1):∃ j,j < k/\gN (l.take k) nm=(j:Int)/\gN l nm=(j:Int):=by
 rcases p9 (l.take k) nm with h1 | ⟨j,hj,h1,h2,h3⟩
 ·exact absurd h1.1 h
 ·have hj':j < k/\j < l.length:=by simpa [Nat.lt_min] using hj
  refine⟨j,hj'.1,h1,rX hj'.2 (by simpa using h2) (fun i hi=>by simpa using h3 i hi)⟩
theorem Oa (v vm:Value) (l:List St) (x:St) (Z:List TV) (b1 b2:Nat) (w:World) (hl:l.length<=1000) (hL:mE w b1 v l) (hA:jq w b2 vm Z) (hx:l[Z.length]?=some x) (ha4:x.args.length<=4) (hg:∀ a∈x.args,gN (l.take Z.length) a.toNat≠-1) :
  Calls Tryz.prog 114 #[v,  .int .i64 Z.length,vm] w fun e w'=>Mod (fun _=>False) w w'/\∃ vo,e=.returned vo/\jq w' w.heap.size vo (pick l Z x.args):=by
 obtain⟨hk,hxe⟩:=List.getElem?_eq_some_iff.1 hx
 obtain⟨i0,hi,hz0,hz1,hz2⟩:=info_parts Tryz.infoThg
 obtain⟨ao,cap,rfl,-⟩:=aj hL
 obtain⟨am,acD,rfl,-⟩:=aj hA
 obtain⟨gb,rfl,-,-,c2⟩:=hL.cell hk
 clear c2 hx
 go_in
 go_wp2_with fail
 go_loopw [7,8] (ArgRel l Z x.args w) (fun _ i _=>x.args.length - (intOf i).toNat)
 case atStart=>exact⟨0,by omega,rfl,World.ownsRow_nil _ _ _ _,Mod.refl _ w⟩
 case round =>
  obtain⟨n,hn,rfl,hO,hm⟩:=hrel
  have qH:=hL.mod hm
  have hAr:=hA.mod hm
  obtain⟨_,e,-,-,c2⟩:=qH.cell hk
  cases e
  rw[hxe]at c2
  have HL:Hid _:=hL
  have HA:Hid _:=hA
  clear hL hA
  obtain⟨av,aK,rfl,-⟩:=aj hO
  have hsz:=hm.size
  have hpn:(pick l Z (x.args.take n)).length=n:=by simp[pick];omega
  unfold jq at hO
  rw[hpn]at hO ⊢
  have ZM:Hid _:=hpn
  clear hpn
  obtain⟨nm,wd,ar⟩:=x
  simp only at *
  by_cases hlt:n < ar.length
  ·have i1:(n:Int) < (ar.length:Int):=by omega
   obtain⟨j,hj,g1,g2⟩:=UG (hg ar[n] (List.getElem_mem hlt))
   obtain⟨gm,rfl,-⟩:=hAr.cell (j:=j) (by omega)
   obtain⟨y0,y1,y2,y3,y4,y5,y6,y7,y8,y9,gG,gH,iP,y13,iQ,iR⟩:=hAr.cells rfl (j:=j) (by omega)
   have hgv:=iL _ l Z.length ar[n].toNat b1 wr hl (by omega) qH
   rw[g1]at hgv
   have HP:Hid (pick l Z (ar.take (n+1))=pick l Z (ar.take n)++[Z[j]]):=by
    show pick l Z (ar.take (n+1))=pick l Z (ar.take n)++[Z[j]]
    rw[List.take_succ_eq_append_getElem hlt,pick,List.map_append]
    simp[pick,KH,g2,show j < Z.length by omega]
   have hZ:j < Z.length:=by omega
   generalize Z[j]=zj at *
   clear hg g1 g2 HA
   go_wp2_with fail
   refine hgv.mono ?_
   rintro e w' ⟨rfl,rfl⟩
   clear hgv
   go_wp2_with (at_builtin;refine wpList_append_own _ rfl _ _ 163 rfl w.heap.size 169 i0 _ 16 256 Tryz.underlying163 hi hz0 hz1 hz2 rfl (by decide) _ _ _ rfl (hO.alloc _) ⟨wr.heap.size,0,none⟩ 1 1 (KG zj) rfl rfl ?c1 ?c2 ?c3 ?c4 ?c5 ?_)
   case c1=>exact nG _ _ _
   case c2=>intro u hu;simp[KG]at hu;rcases hu with rfl | rfl | rfl | rfl | rfl | rfl | rfl | rfl | rfl | rfl | rfl | rfl | rfl | rfl | rfl | rfl<;>rfl
   case c3=>unfold maxLen;omega
   case c4=>omega
   case c5=>simp;omega
   intro va w4 aG hgrow _
   have hgm:Mod (fun i=>w.heap.size<=i) wr w4:=((Mod.refl _ wr).alloc _).grown hgrow (fun i hi _=>(hO.lt i hi).1)
   have aO:Mod (fun _=>False) w w4:=⟨hgm.os.trans hm.os,hgm.tape.trans hm.tape,hgm.output.trans hm.output,Nat.le_trans hm.size hgm.size,fun i hi _=>(hgm.block i (by omega) (by omega)).trans (hm.block i hi (fun f=>f))⟩
   have hO4:jq w4 w.heap.size va (pick l Z (ar.take (n+1))):=by unfold jq;rw[HP.out,<- oq,List.length_append,ZM.out];exact aG
   clear aG hgrow hgm hO hm y0 y1 y2 y3 y4 y5 y6 y7 y8 y9 gG gH iP y13 iQ iR
   go_wp2
   go_roundw
   case rel=>exact⟨n+1,by omega,by go_num,hO4,aO⟩
   case measure=>simp[intOf];omega
  ·have hne:n=ar.length:=by omega
   have i1:¬ (n:Int) < (ar.length:Int):=by omega
   have HT:Hid (ar.take n=ar):=show _=_ from List.take_of_length_le (by omega)
   have HF:Hid _:=zI hm hO
   clear hO hm hAr
   go_wp2
   go_ret
   exact⟨HF.out.1,_,rfl,by have:=HF.out.2;rw[HT.out]at this;unfold jq;rw[AY];subst hne;exact this⟩
end Go.Proofs.YtmnfndpbblpjiabGreatDoor

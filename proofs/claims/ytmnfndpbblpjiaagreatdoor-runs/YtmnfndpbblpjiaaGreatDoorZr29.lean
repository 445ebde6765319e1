/- The document's arguments of a statement: the things that its names gave. -/
import Derived.Test.YtmnfndpbblpjiaaGreatDoorZr21
import Derived.Test.YtmnfndpbblpjiaaGreatDoorZr22
import Derived.Test.YtmnfndpbblpjiaaGreatDoorZr23
import Derived.Test.YtmnfndpbblpjiaaGreatDoorZr24
import Derived.Test.YtmnfndpbblpjiaaGreatDoorZr25
import Derived.Test.YtmnfndpbblpjiaaGreatDoorZr28
namespace Go.Proofs.YtmnfndpbblpjiaaGreatDoor
open Go.RowKit Pu
theorem Tryz.infoThg:(Tryz.prog.info? 131).map (fun i=>(i.zero,i.size,i.bytes))=some (some (.agg #[.bool false,.slice none 0 0,.bool false,.slice none 0 0,.bool false,.slice none 0 0,.bool false,.slice none 0 0,.bool false,.slice none 0 0,.bool false,.slice none 0 0,.bool false,.slice none 0 0,.bool false,.slice none 0 0]),16,256):=by kernel_rfl
def thc (z:TV):List Value:=[.bool z.p.x.b,.slice z.p.x.a z.p.x.n z.p.x.c,.bool z.p.y.b,.slice z.p.y.a z.p.y.n z.p.y.c,.bool z.p.w.b,.slice z.p.w.a z.p.w.n z.p.w.c,.bool z.l.p.x.b,.slice z.l.p.x.a z.l.p.x.n z.l.p.x.c,.bool z.l.p.y.b,.slice z.l.p.y.a z.l.p.y.n z.l.p.y.c,.bool z.l.p.w.b,.slice z.l.p.w.a z.l.p.w.n z.l.p.w.c,.bool z.l.x.b,.slice z.l.x.a z.l.x.n z.l.x.c,.bool z.l.y.b,.slice z.l.y.a z.l.y.n z.l.y.c]
theorem thc_len (z:TV):(thc z).length=16:=rfl
def thcOf (l:List TV):List Value:=l.flatMap thc
theorem thcOf_snoc (q:List TV) (t:TV):thcOf q++thc t=thcOf (q++[t]):=by simp [thcOf]
theorem thcOf_at (q:List TV) (j i:Nat) (hj:j < q.length) (hi:i < 16):(thcOf q)[j*16+i]?=(thc q[j])[i]?:=by
 induction q generalizing j with
 | nil=>simp at hj
 | cons t q ih =>
  cases j with
  | zero =>
   simp only [thcOf,List.flatMap_cons,Nat.zero_mul,Nat.zero_add,List.getElem_cons_zero]
   rw [List.getElem?_append_left (by rw [thc_len];exact hi)]
  | succ j =>
   have:=ih j (by simpa using hj)
   simp only [thcOf,List.flatMap_cons,List.getElem_cons_succ] at *
   rw [List.getElem?_append_right (by rw [thc_len];omega),← this]
   congr 1
   rw [thc_len];omega
def MLst (w:World) (base:Nat) (v:Value) (l:List TV):Prop:=w.ownsRow base 131 16 v l.length (thcOf l)
theorem MLst.mod {w w':World} {base:Nat} {v:Value} {l:List TV} (h:MLst w base v l) (hm:Mod (fun _=>False) w w'):MLst w' base v l:=owns_mod h hm (fun _ _ f=>f)
theorem MLst.cell {w:World} {base:Nat} {ao:Option Addr} {cap:Nat} {l:List TV} (h:MLst w base (.slice ao l.length cap) l) {j:Nat} (hj:j < l.length) :
  ∃ gb,ao=some ⟨gb,0,none⟩∧∀ i,i < 16→w.cell? ⟨gb,j*16+i,none⟩=(thc l[j])[i]?:=by
 unfold MLst at h
 obtain ⟨gb,rfl,h0⟩:=owns_cell h (j:=j*16+0) (by omega)
 refine ⟨gb,rfl,fun i hi=>?_⟩
 rw [← thcOf_at l j i hj hi]
 exact h.cellAt (j*16+i) (by omega)
theorem MLst.cells {w:World} {base gb:Nat} {cap n:Nat} {l:List TV} (h:MLst w base (.slice (some ⟨gb,0,none⟩) n cap) l) (hn:n=l.length) {j:Nat} (hj:j < l.length):w.cell? ⟨gb,j*16,none⟩=some (.bool l[j].p.x.b)∧w.cell? ⟨gb,j*16+1,none⟩=some (.slice l[j].p.x.a l[j].p.x.n l[j].p.x.c)∧w.cell? ⟨gb,j*16+2,none⟩=some (.bool l[j].p.y.b)∧w.cell? ⟨gb,j*16+3,none⟩=some (.slice l[j].p.y.a l[j].p.y.n l[j].p.y.c)∧w.cell? ⟨gb,j*16+4,none⟩=some (.bool l[j].p.w.b)∧w.cell? ⟨gb,j*16+5,none⟩=some (.slice l[j].p.w.a l[j].p.w.n l[j].p.w.c)∧w.cell? ⟨gb,j*16+6,none⟩=some (.bool l[j].l.p.x.b)∧w.cell? ⟨gb,j*16+7,none⟩=some (.slice l[j].l.p.x.a l[j].l.p.x.n l[j].l.p.x.c)∧w.cell? ⟨gb,j*16+8,none⟩=some (.bool l[j].l.p.y.b)∧w.cell? ⟨gb,j*16+9,none⟩=some (.slice l[j].l.p.y.a l[j].l.p.y.n l[j].l.p.y.c)∧w.cell? ⟨gb,j*16+10,none⟩=some (.bool l[j].l.p.w.b)∧w.cell? ⟨gb,j*16+11,none⟩=some (.slice l[j].l.p.w.a l[j].l.p.w.n l[j].l.p.w.c)∧w.cell? ⟨gb,j*16+12,none⟩=some (.bool l[j].l.x.b)∧w.cell? ⟨gb,j*16+13,none⟩=some (.slice l[j].l.x.a l[j].l.x.n l[j].l.x.c)∧w.cell? ⟨gb,j*16+14,none⟩=some (.bool l[j].l.y.b)∧w.cell? ⟨gb,j*16+15,none⟩=some (.slice l[j].l.y.a l[j].l.y.n l[j].l.y.c):=by
 subst hn
 obtain ⟨_,e,c⟩:=h.cell hj
 cases e
 exact ⟨c 0 (by decide),c 1 (by decide),c 2 (by decide),c 3 (by decide),c 4 (by decide),c 5 (by decide),c 6 (by decide),c 7 (by decide),c 8 (by decide),c 9 (by decide),c 10 (by decide),c 11 (by decide),c 12 (by decide),c 13 (by decide),c 14 (by decide),c 15 (by decide)⟩
theorem MLst.pc {w:World} {base gb:Nat} {cap n:Nat} {l:List TV} (h:MLst w base (.slice (some ⟨gb,0,none⟩) n cap) l) (hn:n=l.length) (j:Nat) {z:TV} (hj:l[j]?=some z) (off:Nat) (ho:off=j*16):Cl w gb off #[.bool z.p.x.b,.slice z.p.x.a z.p.x.n z.p.x.c,.bool z.p.y.b,.slice z.p.y.a z.p.y.n z.p.y.c,.bool z.p.w.b,.slice z.p.w.a z.p.w.n z.p.w.c]:=by
 subst hn ho
 obtain ⟨hl,e⟩:=List.getElem?_eq_some_iff.1 hj
 obtain ⟨_,e',c⟩:=h.cell hl
 cases e'
 intro i v hi
 have h6:i < 6:=by by_cases h6:i < 6;(· exact h6);(· rw [Array.getElem?_eq_none (by simpa using h6)] at hi;cases hi)
 rw [c i (by omega),e,← hi]
 match i,h6 with
 | 0,_=>rfl
 | 1,_=>rfl
 | 2,_=>rfl
 | 3,_=>rfl
 | 4,_=>rfl
 | 5,_=>rfl
theorem MLst.lc {w:World} {base gb:Nat} {cap n:Nat} {l:List TV} (h:MLst w base (.slice (some ⟨gb,0,none⟩) n cap) l) (hn:n=l.length) (j:Nat) {z:TV} (hj:l[j]?=some z) (off:Nat) (ho:off=j*16+6):Cl w gb off #[.bool z.l.p.x.b,.slice z.l.p.x.a z.l.p.x.n z.l.p.x.c,.bool z.l.p.y.b,.slice z.l.p.y.a z.l.p.y.n z.l.p.y.c,.bool z.l.p.w.b,.slice z.l.p.w.a z.l.p.w.n z.l.p.w.c,.bool z.l.x.b,.slice z.l.x.a z.l.x.n z.l.x.c,.bool z.l.y.b,.slice z.l.y.a z.l.y.n z.l.y.c]:=by
 subst hn ho
 obtain ⟨hl,e⟩:=List.getElem?_eq_some_iff.1 hj
 obtain ⟨_,e',c⟩:=h.cell hl
 cases e'
 intro i v hi
 have h6:i < 10:=by by_cases h6:i < 10;(· exact h6);(· rw [Array.getElem?_eq_none (by simpa using h6)] at hi;cases hi)
 rw [Nat.add_assoc,c (6+i) (by omega),e,← hi]
 match i,h6 with
 | 0,_=>rfl
 | 1,_=>rfl
 | 2,_=>rfl
 | 3,_=>rfl
 | 4,_=>rfl
 | 5,_=>rfl
 | 6,_=>rfl
 | 7,_=>rfl
 | 8,_=>rfl
 | 9,_=>rfl
theorem cell_new16 (w:World) (cs:Array Value) (t:TypeId):∀ j u,cs.toList[j]?=some u→(w.alloc (.cells cs t)).cell? ((⟨w.heap.size,0,none⟩:Addr).add j)=some u:=by
 intro j u hj
 have:=(bk_new w cs t).c j
 rw [show ((⟨w.heap.size,0,none⟩:Addr).add j)=⟨w.heap.size,j,none⟩ by simp [Addr.add];exact fun h=>h.symm,this,← hj]
 simp
def zv0:TV:=⟨⟨⟨false,none,0,0⟩,⟨false,none,0,0⟩,⟨false,none,0,0⟩⟩,⟨⟨⟨false,none,0,0⟩,⟨false,none,0,0⟩,⟨false,none,0,0⟩⟩,⟨false,none,0,0⟩,⟨false,none,0,0⟩⟩⟩
def tvg (Z:List TV) (j:Nat):TV:=Z[j]?.getD zv0
def pick (l:List St) (Z:List TV) (a:List UInt8):List TV:=a.map (fun c=>tvg Z (gvI l c.toNat).toNat)
theorem pick_len (l:List St) (Z:List TV) (a:List UInt8):(pick l Z a).length=a.length:=by simp [pick]
def ArgRel (l:List St) (Z:List TV) (ar:List UInt8) (w:World) (vo i:Value) (wr:World):Prop:=∃ n:Nat,n≤ar.length∧i=.int .i64 n∧MLst wr w.heap.size vo (pick l Z (ar.take n))∧Mod (fun _=>False) w wr
theorem gv_took {l:List St} {k nm:Nat} (h:gvI (l.take k) nm≠-1):∃ j,j < k∧gvI (l.take k) nm=(j:Int)∧gvI l nm=(j:Int):=by
 rcases gvI_cases (l.take k) nm with h1 | ⟨j,hj,h1,h2,h3⟩
 ·exact absurd h1.1 h
 ·have hj':j < k∧j < l.length:=by simpa [Nat.lt_min] using hj
  refine ⟨j,hj'.1,h1,gvI_some hj'.2 (by simpa using h2) (fun i hi=>by simpa using h3 i hi)⟩
set_option maxHeartbeats 3200000 in
set_option maxRecDepth 100000 in
theorem rargs_any (v vm:Value) (l:List St) (x:St) (Z:List TV) (b1 b2:Nat) (w:World) (hl:l.length≤1000) (hL:RLst w b1 v l) (hA:MLst w b2 vm Z) (hx:l[Z.length]?=some x) (ha4:x.args.length≤4) (hg:∀ a∈x.args,gvI (l.take Z.length) a.toNat≠-1) :
  Calls Tryz.prog 84 #[v,  .int .i64 Z.length,vm] w fun e w'=>Mod (fun _=>False) w w'∧∃ vo,e=.returned vo∧MLst w' w.heap.size vo (pick l Z x.args):=by
 obtain ⟨hk,hxe⟩:=List.getElem?_eq_some_iff.1 hx
 obtain ⟨i0,hi,hz0,hz1,hz2⟩:=info_parts Tryz.infoThg
 obtain ⟨ao,cap,rfl,-⟩:=owns_form hL
 obtain ⟨am,capm,rfl,-⟩:=owns_form hA
 obtain ⟨gb,rfl,-,-,c2⟩:=hL.cell hk
 clear c2 hx
 go_enter Tryz.func84,Tryz.ntmps84
 go_wp2_with fail
 go_loopw [7,8] (ArgRel l Z x.args w) (fun _ i _=>x.args.length - (intOf i).toNat)
 case atStart=>exact ⟨0,by omega,rfl,World.ownsRow_nil _ _ _ _,Mod.refl _ w⟩
 case round =>
  obtain ⟨n,hn,rfl,hO,hm⟩:=hrel
  have hLr:=hL.mod hm
  have hAr:=hA.mod hm
  obtain ⟨_,e,-,-,c2⟩:=hLr.cell hk
  cases e
  rw [hxe] at c2
  have HL:Hid _:=hL
  have HA:Hid _:=hA
  clear hL hA
  obtain ⟨av,acap,rfl,-⟩:=owns_form hO
  have hsz:=hm.size
  have hpn:(pick l Z (x.args.take n)).length=n:=by simp [pick];omega
  unfold MLst at hO
  rw [hpn] at hO ⊢
  have HPN:Hid _:=hpn
  clear hpn
  obtain ⟨nm,wd,ar⟩:=x
  simp only at *
  by_cases hlt:n < ar.length
  ·have i1:(n:Int) < (ar.length:Int):=by omega
   obtain ⟨j,hj,g1,g2⟩:=gv_took (hg ar[n] (List.getElem_mem hlt))
   obtain ⟨gm,rfl,-⟩:=hAr.cell (j:=j) (by omega)
   obtain ⟨y0,y1,y2,y3,y4,y5,y6,y7,y8,y9,y10,y11,y12,y13,y14,y15⟩:=hAr.cells rfl (j:=j) (by omega)
   have hgv:=given_any _ l Z.length ar[n].toNat b1 wr hl (by omega) hLr
   rw [g1] at hgv
   have HP:Hid (pick l Z (ar.take (n+1))=pick l Z (ar.take n)++[Z[j]]):=by
    show pick l Z (ar.take (n+1))=pick l Z (ar.take n)++[Z[j]]
    rw [List.take_succ_eq_append_getElem hlt,pick,List.map_append]
    simp [pick,tvg,g2,show j < Z.length by omega]
   have hZ:j < Z.length:=by omega
   generalize Z[j]=zj at *
   clear hg g1 g2 HA
   go_wp2_with fail
   refine hgv.mono ?_
   rintro e w' ⟨rfl,rfl⟩
   clear hgv
   go_wp2_with (at_builtin;refine wpList_append_own _ rfl _ _ 125 rfl w.heap.size 131 i0 _ 16 256 Tryz.underlying125 hi hz0 hz1 hz2 rfl (by decide) _ _ _ rfl (hO.alloc _) ⟨wr.heap.size,0,none⟩ 1 1 (thc zj) rfl rfl ?c1 ?c2 ?c3 ?c4 ?c5 ?_)
   case c1=>exact cell_new16 _ _ _
   case c2=>intro u hu;simp [thc] at hu;rcases hu with rfl | rfl | rfl | rfl | rfl | rfl | rfl | rfl | rfl | rfl | rfl | rfl | rfl | rfl | rfl | rfl <;> rfl
   case c3=>unfold maxLen;omega
   case c4=>omega
   case c5=>simp;omega
   intro va w4 hown4 hgrow _
   have hgm:Mod (fun i=>w.heap.size≤i) wr w4:=((Mod.refl _ wr).alloc _).grown hgrow (fun i hi _=>(hO.lt i hi).1)
   have hm4:Mod (fun _=>False) w w4:=⟨hgm.os.trans hm.os,hgm.tape.trans hm.tape,hgm.output.trans hm.output,Nat.le_trans hm.size hgm.size,fun i hi _=>(hgm.block i (by omega) (by omega)).trans (hm.block i hi (fun f=>f))⟩
   have hO4:MLst w4 w.heap.size va (pick l Z (ar.take (n+1))):=by unfold MLst;rw [HP.out,← thcOf_snoc,List.length_append,HPN.out];exact hown4
   clear hown4 hgrow hgm hO hm y0 y1 y2 y3 y4 y5 y6 y7 y8 y9 y10 y11 y12 y13 y14 y15
   go_wp2_with fail
   go_roundw
   case rel=>exact ⟨n+1,by omega,by go_num,hO4,hm4⟩
   case measure=>simp [intOf];omega
  ·have hne:n=ar.length:=by omega
   have i1:¬ (n:Int) < (ar.length:Int):=by omega
   have HT:Hid (ar.take n=ar):=show _=_ from List.take_of_length_le (by omega)
   have HF:Hid _:=And.intro hm hO
   clear hO hm hAr
   go_wp2_with fail
   go_ret
   exact ⟨HF.out.1,_,rfl,by have:=HF.out.2;rw [HT.out] at this;unfold MLst;rw [pick_len];subst hne;exact this⟩
end Go.Proofs.YtmnfndpbblpjiaaGreatDoor

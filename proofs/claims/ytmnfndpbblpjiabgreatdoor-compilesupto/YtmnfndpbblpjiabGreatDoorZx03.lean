/- The document's scanner: letter, next, place. -/
import Derived.Test.YtmnfndpbblpjiabGreatDoorZx02
set_option maxHeartbeats 2000000
set_option maxRecDepth 100000
namespace Go.Proofs.YtmnfndpbblpjiabGreatDoor
open Go.RowKit Pu
def gI (w:World) (xb:Nat) (x:Sc):Prop:=w.heap[xb]?=some (.cells #[.int .i64 x.st,.int .i64 x.n,.int .i64 x.le,.int .i64 x.ar] 195 (0,0))
section
variable {w:World} {xb st n le ar:Nat}
theorem gI.c0 (h:gI w xb ⟨st,n,le,ar⟩):w.cell? ⟨xb,0,none⟩=some (.int .i64 st):=by unfold gI at h;simp[World.cell?,h]
theorem gI.c1 (h:gI w xb ⟨st,n,le,ar⟩):w.cell? ⟨xb,1,none⟩=some (.int .i64 n):=by unfold gI at h;simp[World.cell?,h]
theorem gI.c2 (h:gI w xb ⟨st,n,le,ar⟩):w.cell? ⟨xb,2,none⟩=some (.int .i64 le):=by unfold gI at h;simp[World.cell?,h]
theorem gI.c3 (h:gI w xb ⟨st,n,le,ar⟩):w.cell? ⟨xb,3,none⟩=some (.int .i64 ar):=by unfold gI at h;simp[World.cell?,h]
theorem gI.fz (h:gI w xb ⟨st,n,le,ar⟩) (i:Nat):w.frozen? ⟨xb,i,none⟩=false:=by unfold gI at h;simp[World.frozen?,h]
theorem gI.set0 (h:gI w xb ⟨st,n,le,ar⟩) (j:Nat):gI (w.setCell ⟨xb,0,none⟩ (.int .i64 j)) xb ⟨j,n,le,ar⟩:=by unfold gI at *;simp[World.setCell,Array.getElem?_modify,h]
theorem gI.set1 (h:gI w xb ⟨st,n,le,ar⟩) (j:Nat):gI (w.setCell ⟨xb,1,none⟩ (.int .i64 j)) xb ⟨st,j,le,ar⟩:=by unfold gI at *;simp[World.setCell,Array.getElem?_modify,h]
theorem gI.set2 (h:gI w xb ⟨st,n,le,ar⟩) (j:Nat):gI (w.setCell ⟨xb,2,none⟩ (.int .i64 j)) xb ⟨st,n,j,ar⟩:=by unfold gI at *;simp[World.setCell,Array.getElem?_modify,h]
theorem gI.gL (h:gI w xb ⟨st,n,le,ar⟩) (j:Nat):gI (w.setCell ⟨xb,3,none⟩ (.int .i64 j)) xb ⟨st,n,le,j⟩:=by unfold gI at *;simp[World.setCell,Array.getElem?_modify,h]
end
theorem gV (c:Nat) (w:World):Calls Tryz.prog 112 #[.int .u8 c] w fun e w'=>e=.returned (.bool (gU c))/\w=w':=by
 go_in
 go_wp2
 all_goals go_ret
 ·exact⟨by have:gU c=decide ((c:Int)<=122):=(by rw[gU,Bool.eq_iff_iff];simp;omega);rw[this];rfl,rfl⟩
 ·exact⟨by have:gU c=false:=(by rw[gU,Bool.eq_false_iff];simp;omega);rw[this];rfl,rfl⟩
def dw (xb:Nat) (x:Sc) (c:Nat) (w:World) (e:Ending) (w':World):Prop :=
 (nx x c=none/\e=.returned (.bool false)/\w'=w)\/(∃ y,nx x c=some y/\e=.returned (.bool true)/\gI w' xb y/\Mod (fun i=>i=xb) w w')
theorem sH {xb:Nat} {x:Sc} {c:Nat} {w:World} (h:nx x c=none):dw xb x c w (.returned (.bool false)) w:=.inl ⟨h,rfl,rfl⟩
theorem mJ {xb:Nat} {x y:Sc} {c:Nat} {w w':World} (h:nx x c=some y) (hS:gI w' xb y) (hm:Mod (fun i=>i=xb) w w'):dw xb x c w (.returned (.bool true)) w':=.inr ⟨y,h,rfl,hS,hm⟩
theorem JW (xb i:Nat) (w:World) (v:Value):Mod (fun i=>i=xb) w (w.setCell ⟨xb,i,none⟩ v):=(Mod.refl _ w).setCell _ _ (fun _=>rfl)
theorem NJ (xb i j:Nat) (w:World) (v u:Value):Mod (fun i=>i=xb) w ((w.setCell ⟨xb,i,none⟩ v).setCell ⟨xb,j,none⟩ u):=(JW xb i w v).setCell _ _ (fun _=>rfl)
end Go.Proofs.YtmnfndpbblpjiabGreatDoor

/- The document's gathering of statements. -/
namespace Go.Proofs.YtmnfndpbblpjiabGreatDoor
open Go.RowKit Pu
theorem Tryz.info81:(Tryz.prog.info? 162).map (fun i=>(i.zero,i.size,i.bytes))=some (some (.agg #[.int .u8 0,.string .empty,.string .empty]),3,40):=by kernel_rfl
def nY (x:St):List Value:=[.int .u8 x.name,S x.word,S x.args]
def nZ (l:List St):List Value:=l.flatMap nY
theorem Cx (q:List St) (t:St):nZ q++nY t=nZ (q++[t]):=by simp[nZ]
theorem He (q:List St) (j i:Nat) (hj:j < q.length) (hi:i < 3):(nZ q)[j*3+i]?=(nY q[j])[i]?:=by
 induction q generalizing j with
 | nil=>simp at hj
 | cons t q ih =>
  cases j with
  | zero =>
   simp only[nZ,List.flatMap_cons,Nat.zero_mul,Nat.zero_add,List.getElem_cons_zero]
   rw[List.getElem?_append_left (by simpa [nY] using hi)]
  | succ j =>
   have:=ih j (by simpa using hj)
   simp only[nZ,List.flatMap_cons,List.getElem_cons_succ]at *
   rw[List.getElem?_append_right (by simp[nY];omega),<- this]
   congr 1
   simp[nY];omega
def mE (w:World) (base:Nat) (v:Value) (l:List St):Prop:=w.ownsRow base 162 3 v l.length (nZ l)
def Sx (w:World) (xb:Nat) (x:St):Prop:=w.heap[xb]?=some (.cells #[.int .u8 x.name,S x.word,S x.args] 162 (0,0))
section
variable {w:World} {xb nm:Nat} {wd ag:List UInt8}
theorem Sx.c0 (h:Sx w xb ⟨nm,wd,ag⟩):w.cell? ⟨xb,0,none⟩=some (.int .u8 nm):=by unfold Sx at h;simp[World.cell?,h]
theorem Sx.c1 (h:Sx w xb ⟨nm,wd,ag⟩):w.cell? ⟨xb,1,none⟩=some (S wd):=by unfold Sx at h;simp[World.cell?,h]
theorem Sx.c2 (h:Sx w xb ⟨nm,wd,ag⟩):w.cell? ⟨xb,2,none⟩=some (S ag):=by unfold Sx at h;simp[World.cell?,h]
theorem Sx.fz (h:Sx w xb ⟨nm,wd,ag⟩) (i:Nat):w.frozen? ⟨xb,i,none⟩=false:=by unfold Sx at h;simp[World.frozen?,h]
theorem Sx.set0 (h:Sx w xb ⟨nm,wd,ag⟩) (j:Nat):Sx (w.setCell ⟨xb,0,none⟩ (.int .u8 j)) xb ⟨j,wd,ag⟩:=by unfold Sx at *;simp[World.setCell,Array.getElem?_modify,h]
theorem Sx.set1 (h:Sx w xb ⟨nm,wd,ag⟩) (j:List UInt8):Sx (w.setCell ⟨xb,1,none⟩ (S j)) xb ⟨nm,j,ag⟩:=by unfold Sx at *;simp[World.setCell,Array.getElem?_modify,h]
theorem Sx.set2 (h:Sx w xb ⟨nm,wd,ag⟩) (j:List UInt8):Sx (w.setCell ⟨xb,2,none⟩ (S j)) xb ⟨nm,wd,j⟩:=by unfold Sx at *;simp[World.setCell,Array.getElem?_modify,h]
end
theorem Mq (w:World) (a b c:Value) (t:TypeId):∀ j u,[a,b,c][j]?=some u->(w.alloc (.cells #[a,b,c] t)).cell? ((⟨w.heap.size,0,none⟩:Addr).add j)=some u:=by
 intro j u hj
 match j,hj with
 | 0,hj=>simp at hj;subst hj;simp[Addr.add]
 | 1,hj=>simp at hj;subst hj;simp[Addr.add]
 | 2,hj=>simp at hj;subst hj;simp[Addr.add]
theorem Pu.D7 (s:ByteArray) (k:Nat):(bF s k).l.length<=k/\(bF s k).x.word.length<=k/\(bF s k).x.args.length<=k:=by
 induction k with
 | zero=>simp[bF]
 | succ k ih =>
  obtain⟨h1,h2,h3⟩:=ih
  show (aX s k (bF s k)).l.length<=_/\(aX s k (bF s k)).x.word.length<=_/\(aX s k (bF s k)).x.args.length<=_
  unfold aX
  repeat' split
  all_goals (try simp)
  all_goals omega
theorem Pu.yQ (l:List UInt8) (s:ByteArray) (k:Nat) (h:k < s.size):(⟨l.toArray⟩:ByteArray)++s.extract k (k+1)=⟨(l++[bt s k]).toArray⟩:=by
 apply ByteArray.ext
 rw[ByteArray.data_append,ByteArray.data_extract]
 rw[Z8 h]
 apply Array.ext'
 simp
 have h':k < s.data.size:=h
 rw[List.drop_eq_getElem_cons (by simpa using h')]
 simp
 rfl
def Wv (s:ByteArray) (w:World) (v ins i:Value) (wr:World):Prop:=∃ k:Nat,k<=s.size/\i=.int .i64 k/\ins=.bool (bF s k).ins/\mE wr (w.heap.size+1) v (bF s k).l/\Sx wr w.heap.size (bF s k).x/\Mod (fun _=>False) w wr
theorem yT {s:ByteArray} {w wr w2:World} {k:Nat} {v:Value} {l:List St} {x:St} {ins:Bool} (hlt:k < s.size) (hn:bF s (k+1)=⟨l,x,ins⟩) (hL:mE wr (w.heap.size+1) v l) (hX:Sx w2 w.heap.size x)
  (hm:Mod (fun _=>False) w wr) (hm2:Mod (fun i=>i=w.heap.size) wr w2):Wv s w v (.bool ins) (.int .i64 ((k:Int)+1)) w2:=by
 have hsz:=hm.size
 refine⟨k+1,by omega,by go_num,by rw[hn],?_,by rw[hn];exact hX,?_⟩
 ·rw[hn];exact au hL hm2 (fun q hq he=>by omega)
 ·exact⟨hm2.os.trans hm.os,hm2.tape.trans hm.tape,hm2.output.trans hm.output,Nat.le_trans hm.size hm2.size,fun i hi _=>(hm2.block i (by omega) (by omega)).trans (hm.block i hi (fun f=>f))⟩
theorem qC (s:ByteArray) (w:World) (hs:s.size<=300) (h0:g s 0≠61) :
  Calls Tryz.prog 69 #[.string s] w fun e w'=>Mod (fun _=>False) w w'/\∃ v,e=.returned v/\mE w' w.heap.size v (bF s s.size).l:=by
 obtain⟨i0,hi,hz0,hz1,hz2⟩:=info_parts Tryz.info81
 go_in
 go_wp2
 have hX0:Sx (w.alloc (.cells #[.int .u8 0,.string .empty,.string .empty] 162)) w.heap.size ⟨0,[],[]⟩:=by unfold Sx;show (w.heap.push _)[w.heap.size]?=_;simp;rfl
 go_loopw [3,5,6] (Wv s w) (fun _ _ i _=>s.size - (intOf i).toNat)
 case atStart=>exact⟨0,by omega,rfl,rfl,World.ownsRow_nil _ _ _ _,hX0,(Mod.refl _ w).alloc _⟩
 case round =>
  clear hX0
  obtain⟨k,hk,rfl,rfl,hL,hX,hm⟩:=hrel
  have hsz:=hm.size
  have hlen:=D7 s k
  have Wy:Hid (bF s (k+1)=aX s k (bF s k)):=rfl
  generalize hga:bF s k=ga at *
  obtain⟨l,⟨nm,wd,ag⟩,ins⟩:=ga
  simp only at hL hX hlen
  have HGA:Hid (bF s k=⟨l,⟨nm,wd,ag⟩,ins⟩):=hga
  clear hga
  have c0:=hX.c0
  have c1:=hX.c1
  have c2:=hX.c2
  have f0:=hX.fz 0
  have f1:=hX.fz 1
  have f2:=hX.fz 2
  obtain⟨ao,cap,rfl,-⟩:=aj hL
  by_cases hlt:k < s.size
  ·have HG:Hid (g s k=s[k].toNat):=dB hlt
   by_cases e61:g s k=61
   ·have hk1:1<=k:=by rcases Nat.eq_zero_or_pos k with h | h;(· subst h;exact absurd e61 h0);exact h
    have hq:((s[k].toNat:Int) == 61)=true:=by rw[<- HG.out];exact bN (m:=61) e61
    obtain⟨j,rfl⟩:∃ j,k=j+1:=⟨k - 1,by omega⟩
    have hj:j < s.size:=by omega
    have HN:Hid (bF s (j+1+1)=⟨l,⟨s[j].toNat,[],ag⟩,ins⟩):=show bF s (j+1+1)=⟨l,⟨s[j].toNat,[],ag⟩,ins⟩ by rw[Wy.out];simp[aX,e61,dB hj]
    have hX':=(hX.set0 s[j].toNat).set1 []
    have hm':Mod (fun i=>i=w.heap.size) wr ((wr.setCell ⟨w.heap.size,0,none⟩ (.int .u8 s[j].toNat)).setCell ⟨w.heap.size,1,none⟩ (S [])):=((Mod.refl (fun i=>i=w.heap.size) wr).setCell _ _ (fun _=>rfl)).setCell _ _ (fun _=>rfl)
    clear e61
    go_wp2
    go_roundw
    case rel=>exact yT hlt HN.out hL hX' hm hm'
    case measure=>simp[intOf];omega
   ·by_cases e63:g s k=63
    ·have hq1:((s[k].toNat:Int) == 61)=false:=by rw[<- HG.out];exact aF (m:=61) e61
     have hq:((s[k].toNat:Int) == 63)=true:=by rw[<- HG.out];exact bN (m:=63) e63
     have HN:Hid (bF s (k+1)=⟨l,⟨nm,[],ag⟩,ins⟩):=show bF s (k+1)=⟨l,⟨nm,[],ag⟩,ins⟩ by rw[Wy.out];simp[aX,e63]
     have hX':=hX.set1 []
     have hm':Mod (fun i=>i=w.heap.size) wr (wr.setCell ⟨w.heap.size,1,none⟩ (S [])):=(Mod.refl _ wr).setCell _ _ (fun _=>rfl)
     go_wp2
     go_roundw
     case rel=>exact yT hlt HN.out hL hX' hm hm'
     case measure=>simp[intOf];omega
    ·have q61:((s[k].toNat:Int) == 61)=false:=by rw[<- HG.out];exact aF (m:=61) e61
     have q63:((s[k].toNat:Int) == 63)=false:=by rw[<- HG.out];exact aF (m:=63) e63
     by_cases e40:g s k=40
     ·have q40:((s[k].toNat:Int) == 40)=true:=by rw[<- HG.out];exact bN (m:=40) e40
      have HN:Hid (bF s (k+1)=⟨l,⟨nm,wd,ag⟩,true⟩):=show bF s (k+1)=⟨l,⟨nm,wd,ag⟩,true⟩ by rw[Wy.out];simp[aX,e40]
      go_wp2
      go_roundw
      case rel=>exact yT hlt HN.out hL hX hm (Mod.refl _ _)
      case measure=>simp[intOf];omega
     ·have q40:((s[k].toNat:Int) == 40)=false:=by rw[<- HG.out];exact aF (m:=40) e40
      by_cases e41:g s k=41
      ·have q41:((s[k].toNat:Int) == 41)=true:=by rw[<- HG.out];exact bN (m:=41) e41
       have HN:Hid (bF s (k+1)=⟨l,⟨nm,wd,ag⟩,false⟩):=show bF s (k+1)=⟨l,⟨nm,wd,ag⟩,false⟩ by rw[Wy.out];simp[aX,e41]
       go_wp2
       go_roundw
       case rel=>exact yT hlt HN.out hL hX hm (Mod.refl _ _)
       case measure=>simp[intOf];omega
      ·have q41:((s[k].toNat:Int) == 41)=false:=by rw[<- HG.out];exact aF (m:=41) e41
       by_cases e59:g s k=59
       ·have q59:((s[k].toNat:Int) == 59)=true:=by rw[<- HG.out];exact bN (m:=59) e59
        have HN:Hid (bF s (k+1)=⟨l++[⟨nm,wd,ag⟩],⟨0,[],[]⟩,ins⟩):=show bF s (k+1)=⟨l++[⟨nm,wd,ag⟩],⟨0,[],[]⟩,ins⟩ by rw[Wy.out];simp[aX,e59]
        have hxl:w.heap.size < wr.heap.size:=lt_of_block hX
        unfold mE at hL
        go_wp2_with (at_builtin;refine wpList_append_own _ rfl _ _ 113 rfl (w.heap.size+1) 162 i0 _ 3 40 Tryz.underlying113 hi hz0 hz1 hz2 rfl (by decide) _ _ _ rfl (hL.alloc _) ⟨wr.heap.size,0,none⟩ 1 1 (nY ⟨nm,wd,ag⟩) rfl rfl ?c1 ?c2 ?c3 ?c4 ?c5 ?_)
        case c1=>exact Mq _ _ _ _ _
        case c2=>intro u hu;simp[nY]at hu;rcases hu with rfl | rfl | rfl<;>rfl
        case c3=>unfold maxLen;omega
        case c4=>omega
        case c5=>simp;omega
        intro v' w4 aG hgrow _
        have hgm:Mod (fun i=>w.heap.size+1<=i) wr w4:=((Mod.refl _ wr).alloc _).grown hgrow (fun i hi _=>(hL.lt i hi).1)
        have uW:Sx w4 w.heap.size ⟨nm,wd,ag⟩:=hgm.keep hX (by omega)
        have aO:Mod (fun _=>False) w w4:=⟨hgm.os.trans hm.os,hgm.tape.trans hm.tape,hgm.output.trans hm.output,Nat.le_trans hm.size hgm.size,fun i hi _=>(hgm.block i (by omega) (by omega)).trans (hm.block i hi (fun f=>f))⟩
        have hL4:mE w4 (w.heap.size+1) v' (l++[⟨nm,wd,ag⟩]):=by unfold mE;rw[<- Cx,List.length_append];exact aG
        clear c0 c1 c2 f0 f1 f2 aG hgrow hgm hL hX hm
        have c0:=uW.c0
        have c1:=uW.c1
        have c2:=uW.c2
        have f0:=uW.fz 0
        have f1:=uW.fz 1
        have f2:=uW.fz 2
        have hX5:=((uW.set0 0).set1 []).set2 []
        have jH:Mod (fun i=>i=w.heap.size) w4 (((w4.setCell ⟨w.heap.size,0,none⟩ (.int .u8 (0:Nat))).setCell ⟨w.heap.size,1,none⟩ (S [])).setCell ⟨w.heap.size,2,none⟩ (S [])):=(((Mod.refl (fun i=>i=w.heap.size) w4).setCell _ _ (fun _=>rfl)).setCell _ _ (fun _=>rfl)).setCell _ _ (fun _=>rfl)
        go_wp2
        go_roundw
        case rel=>exact yT hlt HN.out hL4 hX5 aO jH
        case measure=>simp[intOf];omega
       ·have q59:((s[k].toNat:Int) == 59)=false:=by rw[<- HG.out];exact aF (m:=59) e59
        cases Zx:gU (g s k)
        ·have HN:Hid (bF s (k+1)=⟨l,⟨nm,wd,ag⟩,ins⟩):=show bF s (k+1)=⟨l,⟨nm,wd,ag⟩,ins⟩ by rw[Wy.out];simp[aX,e61,e63,e40,e41,e59,Zx]
         have hLt:gU s[k].toNat=false:=by rw[<- HG.out];exact Zx
         go_wp2_with (go_at_call 112;refine (gV _ _).mono ?_;rintro e w' ⟨rfl,rfl⟩)
         go_roundw
         case rel=>exact yT hlt HN.out hL hX hm (Mod.refl _ _)
         case measure=>simp[intOf];omega
        ·cases ins
         ·have HN:Hid (bF s (k+1)=⟨l,⟨nm,wd++[bt s k],ag⟩,false⟩):=show bF s (k+1)=⟨l,⟨nm,wd++[bt s k],ag⟩,false⟩ by rw[Wy.out];simp[aX,e61,e63,e40,e41,e59,Zx]
          have hLt:gU s[k].toNat=true:=by rw[<- HG.out];exact Zx
          go_wp2_with (go_at_call 112;refine (gV _ _).mono ?_;rintro e w' ⟨rfl,rfl⟩)
          go_region
          rw[yQ wd s k hlt]
          go_wp2
          go_roundw
          case rel=>exact yT hlt HN.out hL (w2:=(wr.setCell ⟨w.heap.size,1,none⟩ (S (wd++[bt s k]))).drew) (hX.set1 _) hm ((Mod.refl (fun i=>i=w.heap.size) wr).setCell _ _ (fun _=>rfl)).drew
          case measure=>simp[intOf];omega
         ·have HN:Hid (bF s (k+1)=⟨l,⟨nm,wd,ag++[bt s k]⟩,true⟩):=show bF s (k+1)=⟨l,⟨nm,wd,ag++[bt s k]⟩,true⟩ by rw[Wy.out];simp[aX,e61,e63,e40,e41,e59,Zx]
          have hLt:gU s[k].toNat=true:=by rw[<- HG.out];exact Zx
          go_wp2_with (go_at_call 112;refine (gV _ _).mono ?_;rintro e w' ⟨rfl,rfl⟩)
          go_region
          rw[yQ ag s k hlt]
          go_wp2
          go_roundw
          case rel=>exact yT hlt HN.out hL (w2:=(wr.setCell ⟨w.heap.size,2,none⟩ (S (ag++[bt s k]))).drew) (hX.set2 _) hm ((Mod.refl (fun i=>i=w.heap.size) wr).setCell _ _ (fun _=>rfl)).drew
          case measure=>simp[intOf];omega
  ·have hks:k=s.size:=by omega
   subst hks
   go_wp2
   go_ret
   exact⟨hm,_,rfl,by rw[HGA.out];exact bI hL (by omega)⟩
end Go.Proofs.YtmnfndpbblpjiabGreatDoor

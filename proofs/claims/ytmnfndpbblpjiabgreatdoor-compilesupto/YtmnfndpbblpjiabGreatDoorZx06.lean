/- Steps in memory. -/
import Derived.Test.YtmnfndpbblpjiabGreatDoorZx02
set_option maxHeartbeats 1600000
set_option maxRecDepth 100000
namespace Go.Proofs.YtmnfndpbblpjiabGreatDoor
open Go.RowKit Pu
theorem Tryz.info71:(Tryz.prog.info? 152).map (fun i=>(i.zero,i.size,i.bytes))=some (some (.agg #[.int .i64 0,.int .i64 0,.int .i64 0,.int .i64 0]),4,32):=by kernel_rfl
def mV (t:Stp):List Value:=[.int .i64 t.op,.int .i64 t.x,.int .i64 t.y,.int .i64 t.z]
def mh (l:List Stp):List Value:=l.flatMap mV
theorem CF (q:List Stp) (t:Stp):mh q++mV t=mh (q++[t]):=by simp[mh]
theorem Hz (q:List Stp) (j i:Nat) (hj:j < q.length) (hi:i < 4):(mh q)[j*4+i]?=(mV q[j])[i]?:=by
 induction q generalizing j with
 | nil=>simp at hj
 | cons t q ih =>
  cases j with
  | zero =>
   simp only[mh,List.flatMap_cons,Nat.zero_mul,Nat.zero_add,List.getElem_cons_zero]
   rw[List.getElem?_append_left (by simpa [mV] using hi)]
  | succ j =>
   have:=ih j (by simpa using hj)
   simp only[mh,List.flatMap_cons,List.getElem_cons_succ]at *
   rw[List.getElem?_append_right (by simp[mV];omega),<- this]
   congr 1
   simp[mV];omega
def o8 (w:World) (base:Nat) (v:Value) (l:List Stp):Prop:=w.ownsRow base 152 4 v l.length (mh l)
theorem o8.cell {w:World} {base:Nat} {ao:Option Addr} {cap:Nat} {l:List Stp} (h:o8 w base (.slice ao l.length cap) l) {j:Nat} (hj:j < l.length) :
  ∃ gb,ao=some ⟨gb,0,none⟩/\w.cell? ⟨gb,j*4,none⟩=some (.int .i64 l[j].op)/\w.cell? ⟨gb,j*4+1,none⟩=some (.int .i64 l[j].x)/\w.cell? ⟨gb,j*4+2,none⟩=some (.int .i64 l[j].y)/\w.cell? ⟨gb,j*4+3,none⟩=some (.int .i64 l[j].z):=by
 unfold o8 at h
 obtain⟨gb,rfl,h0⟩:=iM h (j:=j*4+0) (by omega)
 have h1:=h.cellAt (j*4+1) (by omega)
 have h2:=h.cellAt (j*4+2) (by omega)
 have h3:=h.cellAt (j*4+3) (by omega)
 rw[Hz l j _ hj (by omega)]at h0 h1 h2 h3
 exact⟨gb,rfl,by simpa [mV] using h0,by simpa [mV] using h1,by simpa [mV] using h2,by simpa [mV] using h3⟩
theorem o8.mod {w w':World} {base:Nat} {v:Value} {l:List Stp} (h:o8 w base v l) (hm:Mod (fun _=>False) w w'):o8 w' base v l:=au h hm (fun _ _ f=>f)
theorem lS (v:Value) (l:List Stp) (k r base:Nat) (w:World) (hl:l.length<=3000) (hk:k<=l.length) (hL:o8 w base v l) (hsm:∀ t∈l,Small t) (_hr:r < 256) :
  Calls Tryz.prog 111 #[v,.int .i64 k,.int .i64 r] w fun e w'=>e=.returned (.int .i64 (aI l r k))/\w=w':=by
 obtain⟨ao,cap,rfl,-⟩:=aj hL
 go_in
 go_wp2_with fail
 go_loop [7] (fun i=>∃ j:Nat,j<=k/\i=.int .i64 ((j:Int) - 1)/\Hid (aI l r j=aI l r k)) (fun i=>(intOf i+1).toNat)
 case atStart=>exact⟨k,by omega,rfl,rfl⟩
 case round =>
  obtain⟨j,hj,rfl,HS⟩:=hrel
  cases j with
  | zero =>
   have HR:Hid (aI l r k=-1):=show aI l r k=-1 by rw[<- HS.out];rfl
   go_wp2
   go_ret
   exact⟨by rw[HR.out];rfl,rfl⟩
  | succ j =>
   have hjl:j < l.length:=by omega
   have e1:((j+1:Nat):Int) - 1=(j:Int):=by omega
   rw[e1]
   clear e1
   obtain⟨gb,rfl,c0,c1,-,-⟩:=hL.cell hjl
   obtain⟨s1,s2,-,-⟩:=hsm _ (List.getElem_mem hjl)
   by_cases h5:l[j].op<=5
   ·by_cases hx:l[j].x=r
    ·have HR:Hid (aI l r k=(j:Int)):=show aI l r k=(j:Int) by rw[<- HS.out];exact oZ hjl ⟨h5,hx⟩
     have hb:((l[j].x:Int) == (r:Int))=true:=bN hx
     clear hx
     go_wp2
     go_ret
     exact⟨by rw[HR.out];rfl,rfl⟩
    ·have HR:Hid (aI l r j=aI l r k):=show aI l r j=aI l r k by rw[<- HS.out];exact (fZ hjl (fun h=>hx h.2)).symm
     have hb:((l[j].x:Int) == (r:Int))=false:=aF hx
     go_wp2
     go_round
     case rel=>exact⟨j,by omega,by go_num,HR⟩
     case measure=>simp[intOf]
   ·have HR:Hid (aI l r j=aI l r k):=show aI l r j=aI l r k by rw[<- HS.out];exact (fZ hjl (fun h=>h5 h.1)).symm
    go_wp2
    go_round
    case rel=>exact⟨j,by omega,by go_num,HR⟩
    case measure=>simp[intOf]
abbrev V4 (t:Stp):Value:=.agg #[.int .i64 t.op,.int .i64 t.x,.int .i64 t.y,.int .i64 t.z]
def xJ (w:World) (b:Nat) (t:Stp):Prop:=w.heap[b]?=some (.cells #[.int .i64 t.op,.int .i64 t.x,.int .i64 t.y,.int .i64 t.z] 152 (0,0))
section
variable {w w':World} {b:Nat} {t:Stp}
theorem xJ.c0 (h:xJ w b t):w.cell? ⟨b,0,none⟩=some (.int .i64 t.op):=by unfold xJ at h;simp[World.cell?,h]
theorem xJ.c1 (h:xJ w b t):w.cell? ⟨b,1,none⟩=some (.int .i64 t.x):=by unfold xJ at h;simp[World.cell?,h]
theorem xJ.c2 (h:xJ w b t):w.cell? ⟨b,2,none⟩=some (.int .i64 t.y):=by unfold xJ at h;simp[World.cell?,h]
theorem xJ.c3 (h:xJ w b t):w.cell? ⟨b,3,none⟩=some (.int .i64 t.z):=by unfold xJ at h;simp[World.cell?,h]
theorem nC (w:World) (t:Stp):xJ (w.alloc (.cells #[.int .i64 t.op,.int .i64 t.x,.int .i64 t.y,.int .i64 t.z] 152)) w.heap.size t:=by
 unfold xJ;show (w.heap.push _)[w.heap.size]?=_;simp
end
def xC (l:List Nat):List Value:=l.map fun (n:Nat)=>Value.int .i64 (n:Int)
theorem Tryz.info3:(Tryz.prog.info? 3).map (fun i=>(i.zero,i.size,i.bytes))=some (some (.int .i64 0),1,8):=by kernel_rfl
theorem yA (t:Stp) (w:World) (hs:Small t):Calls Tryz.prog 110 #[V4 t] w fun e w'=>Mod (fun _=>False) w w'/\∃ v,e=.returned v/\w'.ownsRow w.heap.size 3 1 v (readsOf t).length (xC (readsOf t)):=by
 obtain⟨i0,hi,hz0,hz1,hz2⟩:=info_parts Tryz.info3
 obtain⟨s0,s1,s2,s3⟩:=hs
 have hS:=nC w t
 have hm0:Mod (fun _=>False) w (w.alloc (.cells #[.int .i64 t.op,.int .i64 t.x,.int .i64 t.y,.int .i64 t.z] 152)):=(Mod.refl _ w).alloc _
 by_cases h6:6<=t.op
 ·have HR:Hid (readsOf t=[t.x]):=show readsOf t=[t.x] by
   unfold readsOf;rw[if_neg (by omega),if_neg (by omega),if_pos h6];rfl
  go_in
  go_wp2_with (at_builtin;refine wpList_append_own _ rfl _ _ 29 rfl w.heap.size 3 i0 (.int .i64 0) 1 8 Tryz.underlying29 hi hz0 hz1 hz2 rfl (by decide) _ _ _ rfl (World.ownsRow_nil _ _ _ _) ⟨w.heap.size+1,0,none⟩ 1 1 [.int .i64 t.x] rfl rfl ?c1 ?c2 ?c3 ?c4 ?c5 ?_)
  case c1=>have:=cell_one_new (w.alloc (.cells #[.int .i64 t.op,.int .i64 t.x,.int .i64 t.y,.int .i64 t.z] 152)) (.int .i64 t.x) 3;simpa using this
  case c2=>intro u hu;simp at hu;subst hu;rfl
  case c3=>unfold maxLen;omega
  case c4=>omega
  case c5=>simp;omega
  intro v' w4 aG hgrow _
  have aO:Mod (fun _=>False) w w4:=(hm0.alloc _).grown hgrow (fun q hq _=>by simp[Value.ownBlock]at hq)
  clear hgrow
  go_wp2
  go_ret
  exact⟨aO,_,rfl,by rw[HR.out];exact aG⟩
 ·by_cases h5:t.op=5
  ·have HR:Hid (readsOf t=[t.y]):=show readsOf t=[t.y] by
    unfold readsOf;rw[if_pos (by omega),if_neg (by omega),if_neg (by omega)];rfl
   have ha:5<=t.op:=by omega
   have hb:t.op<=5:=by omega
   clear h5 h6
   go_in
   go_wp2_with (at_builtin;refine wpList_append_own _ rfl _ _ 29 rfl w.heap.size 3 i0 (.int .i64 0) 1 8 Tryz.underlying29 hi hz0 hz1 hz2 rfl (by decide) _ _ _ rfl (World.ownsRow_nil _ _ _ _) ⟨w.heap.size+1,0,none⟩ 1 1 [.int .i64 t.y] rfl rfl ?d1 ?d2 ?d3 ?d4 ?d5 ?_)
   case d1=>have:=cell_one_new (w.alloc (.cells #[.int .i64 t.op,.int .i64 t.x,.int .i64 t.y,.int .i64 t.z] 152)) (.int .i64 t.y) 3;simpa using this
   case d2=>intro u hu;simp at hu;subst hu;rfl
   case d3=>unfold maxLen;omega
   case d4=>omega
   case d5=>simp;omega
   intro v' w4 aG hgrow _
   have hm1:Mod (fun _=>False) (w.alloc (.cells #[.int .i64 t.op,.int .i64 t.x,.int .i64 t.y,.int .i64 t.z] 152)) w4:=((Mod.refl _ _).alloc _).grown hgrow (fun q hq _=>by simp[Value.ownBlock]at hq)
   have aO:=hm0.trans hm1
   have c0:w4.cell? ⟨w.heap.size,0,none⟩=some (.int .i64 t.op):=(show xJ w4 w.heap.size t from hm1.keep hS (fun f=>f)).c0
   clear hgrow hm1
   go_wp2
   go_ret
   exact⟨aO,_,rfl,by rw[HR.out];exact aG⟩
  ·by_cases h2:2<=t.op
   ·have HR:Hid (readsOf t=[t.y,t.z]):=show readsOf t=[t.y,t.z] by
     unfold readsOf;rw[if_pos (by omega),if_pos (by omega),if_neg (by omega)];rfl
    have hb:t.op<=4:=by omega
    clear h5 h6
    go_in
    go_wp2_with (at_builtin;refine wpList_append_own _ rfl _ _ 29 rfl w.heap.size 3 i0 (.int .i64 0) 1 8 Tryz.underlying29 hi hz0 hz1 hz2 rfl (by decide) _ _ _ rfl (World.ownsRow_nil _ _ _ _) ⟨w.heap.size+1,0,none⟩ 1 1 [.int .i64 t.y] rfl rfl ?e1 ?e2 ?e3 ?e4 ?e5 ?_)
    case e1=>have:=cell_one_new (w.alloc (.cells #[.int .i64 t.op,.int .i64 t.x,.int .i64 t.y,.int .i64 t.z] 152)) (.int .i64 t.y) 3;simpa using this
    case e2=>intro u hu;simp at hu;subst hu;rfl
    case e3=>unfold maxLen;omega
    case e4=>omega
    case e5=>simp;omega
    intro v' w4 aG hgrow _
    have hm1:Mod (fun _=>False) (w.alloc (.cells #[.int .i64 t.op,.int .i64 t.x,.int .i64 t.y,.int .i64 t.z] 152)) w4:=((Mod.refl _ _).alloc _).grown hgrow (fun q hq _=>by simp[Value.ownBlock]at hq)
    have aO:=hm0.trans hm1
    have xP:xJ w4 w.heap.size t:=hm1.keep hS (fun f=>f)
    have c0:=xP.c0
    have c3:=xP.c3
    have hz4:=aO.size
    obtain⟨ao4,cap4,rfl,-⟩:=aj aG
    clear hgrow hm1
    go_wp2_with (at_builtin;refine wpList_append_own _ rfl _ _ 29 rfl w.heap.size 3 i0 (.int .i64 0) 1 8 Tryz.underlying29 hi hz0 hz1 hz2 rfl (by decide) _ _ _ rfl (aG.alloc _) ⟨w4.heap.size,0,none⟩ 1 1 [.int .i64 t.z] rfl rfl ?f1 ?f2 ?f3 ?f4 ?f5 ?_)
    case f1=>exact cell_one_new _ _ _
    case f2=>intro u hu;simp at hu;subst hu;rfl
    case f3=>unfold maxLen;omega
    case f4=>omega
    case f5=>simp;omega
    intro v5 w5 hown5 Jz _
    have jH:Mod (fun _=>False) w w5:=(aO.alloc _).grown Jz (fun q hq hlt=>by have:=(aG.lt q hq).1;omega)
    have hS5:xJ w5 w.heap.size t:=by
     refine ((((Mod.refl (fun q=>(Value.slice ao4 1 cap4).ownBlock=some q) w4).alloc _).grown Jz (fun q hq _=>hq)).keep xP (fun e=>?_))
     obtain⟨_,⟨he,_⟩ | ⟨g1,c1,XR,he1,_,hb1,_⟩⟩:=aG
     ·rw[he]at e;simp[Value.ownBlock]at e
     ·rw[he1]at e;simp[Value.ownBlock]at e
      subst e
      unfold xJ at xP;rw[hb1]at xP;simp at xP
    clear c0 c3
    have c0:=hS5.c0
    clear Jz
    go_wp2
    go_ret
    exact⟨jH,_,rfl,by rw[HR.out];exact hown5⟩
   ·have HR:Hid (readsOf t=[]):=show readsOf t=[] by
     unfold readsOf;rw[if_neg (by omega),if_neg (by omega),if_neg (by omega)];rfl
    clear h5
    go_in
    go_wp2
    go_ret
    exact⟨hm0,_,rfl,by rw[HR.out];exact World.ownsRow_nil _ _ _ _⟩
end Go.Proofs.YtmnfndpbblpjiabGreatDoor

/- The document's look at a step: proper, right. -/
namespace Go.Proofs.YtmnfndpbblpjiabGreatDoor
open Go.RowKit Pu
theorem Bb (t:Stp) (regs ins:Nat) (w:World) (hs:Small t) (_hr:regs < 256) (_hn:ins < 256):Calls Tryz.prog 150 #[V4 t,.int .i64 regs,.int .i64 ins] w fun e w'=>e=.returned (.bool (eF t regs ins))/\Mod (fun _=>False) w w':=by
 obtain⟨s0,s1,s2,s3⟩:=hs
 have hm0:Mod (fun _=>False) w (w.alloc (.cells #[.int .i64 t.op,.int .i64 t.x,.int .i64 t.y,.int .i64 t.z] 152)):=(Mod.refl _ w).alloc _
 have HP:Hid (eF t regs ins=if 7 < t.op\/regs<=t.x then false else if t.op=0/\ins<=t.y then false else if t.op=6/\t.y≠0 then false else if t.op=7 then decide (t.y < 3) && decide (t.z < 16) else decide (t.z=0) || (decide (2<=t.op) && decide (t.op<=4))):=rfl
 generalize eF t regs ins=pb at *
 obtain⟨op,x,y,z⟩:=t
 simp only at s0 s1 s2 s3 HP ⊢
 by_cases h7:7 < op
 ·have HR:Hid (pb=false):=show pb=false by rw[HP.out,if_pos (.inl h7)]
  clear HP
  go_in
  go_wp2
  go_ret
  exact⟨by rw[HR.out];rfl,hm0⟩
 ·by_cases hx:regs<=x
  ·have HR:Hid (pb=false):=show pb=false by rw[HP.out,if_pos (.inr hx)]
   clear HP
   go_in
   go_wp2
   go_ret
   exact⟨by rw[HR.out];rfl,hm0⟩
  ·have OH:Hid (pb=if op=0/\ins<=y then false else if op=6/\y≠0 then false else if op=7 then decide (y < 3) && decide (z < 16) else decide (z=0) || (decide (2<=op) && decide (op<=4))):=show pb=_ by rw[HP.out,if_neg (by omega)]
   clear HP
   by_cases h0:op=0
   ·by_cases hy:ins<=y
    ·have HR:Hid (pb=false):=show pb=false by rw[OH.out,if_pos ⟨h0,hy⟩]
     have hb:((op:Int) == 0)=true:=bN (m:=0) h0
     clear OH h0
     go_in
     go_wp2
     go_ret
     exact⟨by rw[HR.out];rfl,hm0⟩
    ·have HR:Hid (pb=decide (z=0)):=show pb=decide (z=0) by rw[OH.out,if_neg (by omega),if_neg (by omega),if_neg (by omega)];simp[h0]
     clear OH
     subst h0
     by_cases hz:z=0
     ·have hzb:((z:Int) == 0)=true:=bN (m:=0) hz
      have HR2:Hid (pb=true):=show pb=true by rw[HR.out];simpa using hz
      clear hz HR
      go_in
      go_wp2
      go_ret
      exact⟨by rw[HR2.out];rfl,hm0⟩
     ·have hzb:((z:Int) == 0)=false:=aF (m:=0) hz
      have HR2:Hid (pb=false):=show pb=false by rw[HR.out];simpa using hz
      clear HR
      go_in
      go_wp2
      go_ret
      exact⟨by rw[HR2.out];rfl,hm0⟩
   ·have b0:((op:Int) == 0)=false:=aF (m:=0) h0
    by_cases h6:op=6
    ·subst h6
     by_cases hy:y=0
     ·have HR:Hid (pb=decide (z=0)):=show pb=decide (z=0) by rw[OH.out,if_neg (by omega),if_neg (by omega),if_neg (by omega)];simp
      have hyb:((y:Int) != 0)=false:=by rw[hy];rfl
      clear OH hy
      by_cases hz:z=0
      ·have hzb:((z:Int) == 0)=true:=bN (m:=0) hz
       have HR2:Hid (pb=true):=show pb=true by rw[HR.out];simpa using hz
       clear hz HR
       go_in
       go_wp2
       go_ret
       exact⟨by rw[HR2.out];rfl,hm0⟩
      ·have hzb:((z:Int) == 0)=false:=aF (m:=0) hz
       have HR2:Hid (pb=false):=show pb=false by rw[HR.out];simpa using hz
       clear HR
       go_in
       go_wp2
       go_ret
       exact⟨by rw[HR2.out];rfl,hm0⟩
     ·have HR:Hid (pb=false):=show pb=false by rw[OH.out,if_neg (by omega),if_pos ⟨rfl,hy⟩]
      have hyb:((y:Int) != 0)=true:=by rw[bne_iff_ne];omega
      clear OH
      go_in
      go_wp2
      go_ret
      exact⟨by rw[HR.out];rfl,hm0⟩
    ·have b6:((op:Int) == 6)=false:=aF (m:=6) h6
     by_cases h7e:op=7
     ·have HR:Hid (pb=(decide (y < 3) && decide (z < 16))):=show pb=_ by rw[OH.out,if_neg (by omega),if_neg (by omega),if_pos h7e]
      subst h7e
      clear OH
      by_cases hy:y < 3
      ·have HR2:Hid (pb=decide ((z:Int) < 16)):=show pb=_ by rw[HR.out,Bool.eq_iff_iff];simp[hy];omega
       clear HR
       go_in
       go_wp2
       go_ret
       exact⟨by rw[HR2.out];rfl,hm0⟩
      ·have HR2:Hid (pb=false):=show pb=_ by rw[HR.out];simp[hy]
       clear HR
       go_in
       go_wp2
       go_ret
       exact⟨by rw[HR2.out];rfl,hm0⟩
     ·have HR:Hid (pb=(decide (z=0) || (decide (2<=op) && decide (op<=4)))):=show pb=_ by rw[OH.out,if_neg (by omega),if_neg (by omega),if_neg h7e]
      have b7:((op:Int) == 7)=false:=aF (m:=7) h7e
      clear OH
      by_cases hz:z=0
      ·have hzb:((z:Int) == 0)=true:=bN (m:=0) hz
       have HR2:Hid (pb=true):=show pb=true by rw[HR.out];simp[hz]
       clear hz HR
       go_in
       go_wp2
       go_ret
       exact⟨by rw[HR2.out];rfl,hm0⟩
      ·have hzb:((z:Int) == 0)=false:=aF (m:=0) hz
       by_cases h2:2<=op
       ·have HR2:Hid (pb=decide ((op:Int)<=4)):=show pb=_ by rw[HR.out,Bool.eq_iff_iff];simp[hz,h2];omega
        clear HR
        go_in
        go_wp2
        go_ret
        exact⟨by rw[HR2.out];rfl,hm0⟩
       ·have HR2:Hid (pb=false):=show pb=false by rw[HR.out];simp[hz,h2]
        clear HR
        go_in
        go_wp2
        go_ret
        exact⟨by rw[HR2.out];rfl,hm0⟩
theorem fA {w:World} {base n:Nat} {ao:Option Addr} {cap:Nat} {l:List Nat} (h:w.ownsRow base 3 1 (.slice ao n cap) n (xC l)) (hn:n=l.length) {k:Nat} (hk:k < l.length) :
  ∃ gb,ao=some ⟨gb,0,none⟩/\w.cell? ⟨gb,k,none⟩=some (.int .i64 (l[k]:Int)):=by
 subst hn
 obtain⟨gb,rfl,hc⟩:=iM h (j:=k) (by omega)
 exact⟨gb,rfl,by rw[hc];simp[xC,hk]⟩
theorem sW {t:Stp} (h:Small t):∀ r∈readsOf t,r < 256:=by
 obtain⟨h0,h1,h2,h3⟩:=h
 intro r hr
 unfold readsOf at hr
 simp only[List.mem_append]at hr
 rcases hr with (hr | hr) | hr<;>split at hr<;>simp at hr<;>omega
theorem Od (v:Value) (l:List Stp) (k regs ins base:Nat) (w:World) (hl:l.length<=3000) (hk:k < l.length) (hL:o8 w base v l) (hsm:∀ t∈l,Small t) (hr:regs < 256) (hn:ins < 256) :
  Calls Tryz.prog 102 #[v,.int .i64 k,.int .i64 regs,.int .i64 ins] w fun e w'=>e=.returned (.bool (dI l k l[k] regs ins))/\Mod (fun _=>False) w w':=by
 obtain⟨ao,cap,rfl,-⟩:=aj hL
 obtain⟨gb,rfl,c0,c1,c2,c3⟩:=hL.cell hk
 have hs:=hsm _ (List.getElem_mem hk)
 have IV:Hid (∀ t∈l,Small t):=hsm
 clear hsm
 have hrl:=sU l[k]
 have hrs:=sW hs
 have OI:Hid (∀ r∈readsOf l[k],r < 256):=hrs
 clear hrs
 have HB:Hid (dI l k l[k] regs ins=(eF l[k] regs ins && (readsOf l[k]).all fun r=>decide (r < regs) && decide (0<=aI l r k))):=rfl
 generalize dI l k l[k] regs ins=rb at *
 generalize l[k]=t at *
 cases hp:eF t regs ins with
 | false =>
  have HR:Hid (rb=false):=show rb=false by rw[HB.out,hp];rfl
  go_in
  go_wp2_with fail
  refine (Bb t regs ins _ hs hr hn).mono ?_
  rintro e w1 ⟨rfl,hm1⟩
  go_wp2
  go_ret
  exact⟨by rw[HR.out];rfl,hm1⟩
 | true =>
  have HB2:Hid (rb=(readsOf t).all fun r=>decide (r < regs) && decide (0<=aI l r k)):=show rb=_ by rw[HB.out,hp];rfl
  clear HB
  go_in
  go_wp2_with fail
  refine (Bb t regs ins _ hs hr hn).mono ?_
  rintro e w1 ⟨rfl,hm1⟩
  have hL1:=hL.mod hm1
  have hbe:w1.heap[gb]?=w.heap[gb]?:=hm1.block gb (by obtain⟨_,h | ⟨_,_,_,he,_,hb,_⟩⟩:=hL;(· cases h.1);cases he;exact lt_of_block hb) (fun f=>f)
  have d0:=(World.cell?_of_block (a:=⟨gb,k*4,none⟩) hbe).trans c0
  have d1:=(World.cell?_of_block (a:=⟨gb,k*4+1,none⟩) hbe).trans c1
  have d2:=(World.cell?_of_block (a:=⟨gb,k*4+2,none⟩) hbe).trans c2
  have d3:=(World.cell?_of_block (a:=⟨gb,k*4+3,none⟩) hbe).trans c3
  clear c0 c1 c2 c3 hbe hL
  go_wp2_with fail
  refine (yA t _ hs).mono ?_
  rintro e w2 ⟨hm2,v2,rfl,hown⟩
  have hL2:=hL1.mod hm2
  have hm:=hm1.trans hm2
  clear d0 d1 d2 d3 hL1 hm1 hm2
  generalize readsOf t=rs at *
  obtain⟨XE,cap2,rfl,-⟩:=aj hown
  go_wp2_with fail
  go_loop [11] (fun i=>∃ j:Nat,j<=rs.length/\i=.int .i64 j/\Hid (∀ q (hq:q < rs.length),q < j->rs[q] < regs/\0<=aI l rs[q] k)) (fun i=>rs.length - (intOf i).toNat)
  case atStart=>exact⟨0,by omega,rfl,fun q hq h=>by omega⟩
  case round =>
   obtain⟨j,hj,rfl,HN⟩:=hrel
   by_cases hlt:j < rs.length
   ·obtain⟨rb2,rfl,cj⟩:=fA hown rfl hlt
    have WZ:=OI.out _ (List.getElem_mem hlt)
    by_cases aaP:rs[j] < regs
    ·have hsg:=vH l rs[j] k
     have hsl:=om l rs[j] k
     by_cases hset:0<=aI l rs[j] k
     ·have HS:Hid (0<=aI l rs[j] k):=hset
      have hb:decide (aI l rs[j] k < 0)=false:=by simp;exact hset
      go_wp2_with fail
      refine (lS (.slice (some ⟨gb,0,none⟩) l.length cap) l k rs[j] base w2 hl (by omega) hL2 IV.out WZ).mono ?_
      rintro e w3 ⟨rfl,rfl⟩
      go_wp2
      go_round
      case rel=>exact⟨j+1,by omega,by go_num,fun q hq h=>by by_cases e:q=j;(· subst e;exact⟨aaP,HS.out⟩);exact HN.out q hq (by omega)⟩
      case measure=>simp[intOf];omega
     ·have HR:Hid (rb=false):=show rb=false by
       rw[HB2.out,Bool.eq_false_iff,ne_eq,List.all_eq_true]
       intro H
       have:=H rs[j] (List.getElem_mem hlt)
       simp at this
       exact hset this.2
      have hb:decide (aI l rs[j] k < 0)=true:=by simp;omega
      go_wp2_with fail
      refine (lS (.slice (some ⟨gb,0,none⟩) l.length cap) l k rs[j] base w2 hl (by omega) hL2 IV.out WZ).mono ?_
      rintro e w3 ⟨rfl,rfl⟩
      go_wp2
      go_ret
      exact⟨by rw[HR.out];rfl,hm⟩
    ·have HR:Hid (rb=false):=show rb=false by
      rw[HB2.out,Bool.eq_false_iff,ne_eq,List.all_eq_true]
      intro H
      have:=H rs[j] (List.getElem_mem hlt)
      simp at this
      exact aaP this.1
     go_wp2
     go_ret
     exact⟨by rw[HR.out];rfl,hm⟩
   ·have HR:Hid (rb=true):=show rb=true by
     rw[HB2.out,List.all_eq_true]
     intro r hr
     obtain⟨q,hq,rfl⟩:=List.getElem_of_mem hr
     have:=HN.out q hq (by omega)
     simp[this.1,this.2]
    go_wp2
    go_ret
    exact⟨by rw[HR.out];rfl,hm⟩
abbrev oz (nb:Bool) (v:Value):Value:=.agg #[.bool nb,v]
def Nm (w:World) (nb:Bool) (v:Value) (l:List Nat):Prop:=Canon nb l/\w.ownsRow 0 3 1 v l.length (xC l)
theorem Nm.mod {w w':World} {nb:Bool} {v:Value} {l:List Nat} (h:Nm w nb v l) (hm:Mod (fun _=>False) w w'):Nm w' nb v l:=⟨h.1,au h.2 hm (fun _ _ f=>f)⟩
def sj (nb:Bool) (l:List Nat):Bool:=!nb && decide (0 < l.length)
theorem Ar {nb:Bool} {l:List Nat} (h:Canon nb l):Canon (sj nb l) l/\num (sj nb l) l=-num nb l:=by
 obtain⟨h1,h2,h3⟩:=h
 cases l with
 | nil=>have:=h3 rfl;subst this;exact⟨⟨h1,h2,fun _=>rfl⟩,by simp[sj,num,val]⟩
 | cons d l=>exact⟨⟨h1,h2,fun e=>by cases e⟩,by simp[sj];exact VA nb _⟩
theorem Gq (nb:Bool) (v:Value) (l:List Nat) (w:World) (hN:Nm w nb v l) (_hl:l.length<=2000000000):Calls Tryz.prog 168 #[oz nb v] w fun e w'=>e=.returned (oz (sj nb l) v)/\Mod (fun _=>False) w w':=by
 have hcan:=hN.1
 obtain⟨ao,cap,rfl,-⟩:=aj hN.2
 clear hN
 cases nb with
 | true =>
  go_in
  go_wp2
  exact bodyPost_ret (v:=oz false (.slice ao l.length cap)) (by simp[results,Tryz.results168,go_sem]) rfl ⟨rfl,((Mod.refl _ w).alloc _).alloc _⟩
 | false =>
  go_in
  go_wp2
  exact bodyPost_ret (v:=oz (sj false l) (.slice ao l.length cap)) (by simp[results,Tryz.results168,go_sem,sj]) rfl ⟨rfl,((Mod.refl _ w).alloc _).alloc _⟩
def jF (x:Int):Int:=if x < 0 then -1 else if x=0 then 0 else 1
theorem wV (nb:Bool) (v:Value) (l:List Nat) (w:World) (hN:Nm w nb v l) (hl:l.length<=2000000000):Calls Tryz.prog 107 #[oz nb v] w fun e w'=>e=.returned (.int .i64 (jF (num nb l)))/\Mod (fun _=>False) w w':=by
 have hcan:=hN.1
 obtain⟨ao,cap,rfl,-⟩:=aj hN.2
 have hsg:=hcan.sign
 clear hN
 have hm0:Mod (fun _=>False) w (w.alloc (.cells #[.bool nb,.slice ao l.length cap] 154)):=(Mod.refl _ w).alloc _
 by_cases h0:l=[]
 ·have HR:Hid (jF (num nb l)=0):=show jF (num nb l)=0 by unfold jF;rw[hsg.1.2 h0];rfl
  have hb:((l.length:Int) == 0)=true:=by subst h0;rfl
  clear h0 hsg
  go_in
  go_wp2
  go_ret
  exact⟨by rw[HR.out];rfl,hm0⟩
 ·have hb:((l.length:Int) == 0)=false:=by rw[beq_eq_false_iff_ne];have:=List.length_pos_iff.2 h0;omega
  cases nb with
  | true =>
   have HR:Hid (jF (num true l)=-1):=show jF (num true l)=-1 by unfold jF;rw[if_pos (hsg.2.2 rfl)]
   clear hsg
   go_in
   go_wp2
   go_ret
   exact⟨by rw[HR.out];rfl,hm0⟩
  | false =>
   have HR:Hid (jF (num false l)=1):=show jF (num false l)=1 by
    unfold jF;rw[if_neg (fun h=>by have:=hsg.2.1 h;cases this),if_neg (fun h=>h0 (hsg.1.1 h))]
   clear hsg
   go_in
   go_wp2
   go_ret
   exact⟨by rw[HR.out];rfl,hm0⟩
theorem LA {a b:List Nat} (k:Nat) (ha:CJ a) (hl:a.length=b.length) (hk:k < a.length) (hlt:a[k] < b[k]'(by omega)) (he:a.drop (k+1)=b.drop (k+1)):val a < val b:=by
 have e1:a=a.take k++a[k] :: a.drop (k+1):=by rw[<- List.drop_eq_getElem_cons hk,List.take_append_drop]
 have e2:b=b.take k++b[k]'(by omega) :: b.drop (k+1):=by rw[<- List.drop_eq_getElem_cons (by omega),List.take_append_drop]
 rw[e1,e2,he]
 exact Te (fun d hd=>ha d (List.mem_of_mem_take hd)) (by simp;omega) hlt
theorem yu (u v:Value) (a b:List Nat) (w:World) (hU:w.ownsRow 0 3 1 u a.length (xC a)) (hV:w.ownsRow 0 3 1 v b.length (xC b)) (ha:CJ a) (hb:CJ b) (Xa:Top a) (htb:Top b) (la:a.length<=2000000000) (_lb:b.length<=2000000000) :
  Calls Tryz.prog 184 #[u,v] w fun e w'=>e=.returned (.int .i64 (jF ((val a:Int) - val b)))/\Mod (fun _=>False) w w':=by
 obtain⟨ao,aK,rfl,-⟩:=aj hU
 obtain⟨bo,cK,rfl,-⟩:=aj hV
 by_cases hlen:a.length=b.length
 ·have HLen:Hid (a.length=b.length):=hlen
  have hb1:((a.length:Int) != (b.length:Int))=false:=by rw[hlen];simp
  clear hlen
  go_in
  go_wp2_with fail
  go_loopw [5] (fun i wr=>∃ j:Nat,j<=a.length/\i=.int .i64 ((j:Int) - 1)/\(∃ n,wr=w.drewN n)/\Hid (a.drop j=b.drop j)) (fun i _=>(intOf i+1).toNat)
  case atStart=>exact⟨a.length,by omega,rfl,⟨0,rfl⟩,show a.drop a.length=b.drop a.length by rw[List.drop_of_length_le (by omega),List.drop_of_length_le (by have:=HLen.out;omega)]⟩
  case round =>
   obtain⟨j,hj,rfl,⟨n,rfl⟩,HD⟩:=hrel
   cases j with
   | zero =>
    have HR:Hid (jF ((val a:Int) - val b)=0):=show jF ((val a:Int) - val b)=0 by
     have:a=b:=by simpa using HD.out
     rw[this];unfold jF;simp
    go_wp2
    go_ret
    exact⟨by rw[HR.out];rfl,Mod.same n _ w⟩
   | succ j =>
    have hja:j < a.length:=by omega
    have hjb:j < b.length:=by have:=HLen.out;omega
    have e1:((j+1:Nat):Int) - 1=(j:Int):=by omega
    rw[e1]
    clear e1
    obtain⟨ga,rfl,ca⟩:=fA hU rfl hja
    obtain⟨gb,rfl,cb⟩:=fA hV rfl hjb
    have hda:=ha _ (List.getElem_mem hja)
    have hdb:=hb _ (List.getElem_mem hjb)
    have i1:(0:Int)<=(j:Int):=by omega
    have i2:(j:Int) < (a.length:Int):=by omega
    have i3:(j:Int) < (b.length:Int):=by omega
    rcases Nat.lt_trichotomy a[j] b[j] with hc | hc | hc
    ·have HR:Hid (jF ((val a:Int) - val b)=-1):=show jF ((val a:Int) - val b)=-1 by
      have:=LA j ha HLen.out hja hc HD.out
      unfold jF;rw[if_pos (by omega)]
     go_wp2_with fail
     go_quiet (fail)
     go_wp2
     go_ret
     exact⟨by rw[HR.out];rfl,by rw[World.drewN_drewN];exact Mod.same _ _ w⟩
    ·have HE:Hid (a.drop j=b.drop j):=show a.drop j=b.drop j by rw[List.drop_eq_getElem_cons hja,List.drop_eq_getElem_cons hjb,HD.out,hc]
     have h1:¬ ((a[j]:Int) < (b[j]:Int)):=by omega
     have h2:¬ ((b[j]:Int) < (a[j]:Int)):=by omega
     clear hc
     go_wp2_with fail
     go_quiet (fail)
     go_wp2_with fail
     go_quiet (fail)
     go_wp2
     go_roundw
     case rel=>exact⟨j,by omega,by go_num,⟨_,rfl⟩,HE⟩
     case measure=>simp[intOf]
    ·have HR:Hid (jF ((val a:Int) - val b)=1):=show jF ((val a:Int) - val b)=1 by
      have:=LA j hb HLen.out.symm hjb hc HD.out.symm
      unfold jF;rw[if_neg (by omega),if_neg (by omega)]
     have h1:¬ ((a[j]:Int) < (b[j]:Int)):=by omega
     go_wp2_with fail
     go_quiet (fail)
     go_wp2_with fail
     go_quiet (fail)
     go_wp2
     go_ret
     exact⟨by rw[HR.out];rfl,by rw[World.drewN_drewN,World.drewN_drewN];exact Mod.same _ _ w⟩
 ·have hb1:((a.length:Int) != (b.length:Int))=true:=by rw[bne_iff_ne];omega
  by_cases hlt:a.length < b.length
  ·have HR:Hid (jF ((val a:Int) - val b)=-1):=show jF ((val a:Int) - val b)=-1 by
    have:=zh ha htb hlt
    unfold jF;rw[if_pos (by omega)]
   go_in
   go_wp2
   go_ret
   exact⟨by rw[HR.out];rfl,Mod.refl _ _⟩
  ·have HR:Hid (jF ((val a:Int) - val b)=1):=show jF ((val a:Int) - val b)=1 by
    have:=zh hb Xa (by omega)
    unfold jF;rw[if_neg (by omega),if_neg (by omega)]
   go_in
   go_wp2
   go_ret
   exact⟨by rw[HR.out];rfl,Mod.refl _ _⟩
theorem GV {w:World} {base:Nat} {e:TypeId} {ao:Option Addr} {n cap:Nat} {l:List Nat} (h:w.ownsRow base e 1 (.slice ao n cap) n (xC l)) (hn:n=l.length) (m:Nat) (hm:m<=n) (hs:0 < n):w.ownsRow base e 1 (.slice ao m cap) m (xC (l.take m)):=by
 obtain⟨hl,⟨he,h0⟩ | ⟨g,c,cur,he,hb,hg,h1,h2,h3,h4⟩⟩:=h
 ·omega
 ·injection he with e1 e2 e3
  subst e1 e3
  refine⟨by simp[xC];omega,.inr ⟨g,cap,cur,rfl,hb,hg,by omega,h2,h3,?_⟩⟩
  have:=congrArg (List.take m) h4
  rw[List.take_take]at this
  rw[show min m (n*1)=m*1 by omega]at this
  rw[this]
  simp[xC]
theorem RQ {w:World} {base:Nat} {e:TypeId} {size:Nat} {ao:Option Addr} {n cap:Nat} {xs:List Value} (h:w.ownsRow base e size (.slice ao n cap) n xs):n<=cap/\cap<=maxLen:=by
 obtain⟨hl,⟨he,h0⟩ | ⟨g,c,cur,he,hb,hg,h1,h2,h3,h4⟩⟩:=h
 ·injection he with e1 e2 e3
  subst e3;unfold maxLen;omega
 ·injection he with e1 e2 e3
  subst e3;exact⟨h1,h2⟩
theorem NW {w:World} {base:Nat} {e:TypeId} {ao:Option Addr} {n cap:Nat} {l:List Nat} (h:w.ownsRow base e 1 (.slice ao n cap) n (xC l)):w.ownsRow base e 1 (.slice ao 0 cap) 0 []:=by
 obtain⟨hl,⟨he,h0⟩ | ⟨g,c,cur,he,hb,hg,h1,h2,h3,h4⟩⟩:=h
 ·injection he with e1 e2 e3
  subst e1 e3
  exact World.ownsRow_nil _ _ _ _
 ·injection he with e1 e2 e3
  subst e1 e3
  exact⟨rfl,.inr ⟨g,cap,cur,rfl,hb,hg,by omega,h2,h3,by simp⟩⟩
def pV (w:World) (b:Nat) (nb:Bool) (v:Value):Prop:=w.heap[b]?=some (.cells #[.bool nb,v] 154 (0,0))
section
variable {w:World} {b:Nat} {nb:Bool} {v:Value}
theorem pV.c0 (h:pV w b nb v):w.cell? ⟨b,0,none⟩=some (.bool nb):=by unfold pV at h;simp[World.cell?,h]
theorem pV.c1 (h:pV w b nb v):w.cell? ⟨b,1,none⟩=some v:=by unfold pV at h;simp[World.cell?,h]
theorem pV.fz (h:pV w b nb v) (i:Nat):w.frozen? ⟨b,i,none⟩=false:=by unfold pV at h;simp[World.frozen?,h]
theorem pV.lt (h:pV w b nb v):b < w.heap.size:=lt_of_block h
theorem pV.keep {p:Nat->Prop} {w':World} (h:pV w b nb v) (hm:Mod p w w') (hp:¬ p b):pV w' b nb v:=hm.keep h hp
theorem pV.set (h:pV w b nb v) (x:Bool) (u:Value):pV ((w.setCell ⟨b,0,none⟩ (.bool x)).setCell ⟨b,1,none⟩ u) b x u:=by unfold pV at *;simp[World.setCell,Array.getElem?_modify,h]
theorem bO (w:World) (x:Bool) (u:Value):pV (w.alloc (.cells #[.bool x,u] 154)) w.heap.size x u:=by unfold pV;show (w.heap.push _)[w.heap.size]?=_;simp
theorem dK (b:Nat) (w:World) (x:Bool) (u:Value):Mod (fun i=>i=b) w ((w.setCell ⟨b,0,none⟩ (.bool x)).setCell ⟨b,1,none⟩ u):=((Mod.refl (fun i=>i=b) w).setCell _ _ (fun _=>rfl)).setCell _ _ (fun _=>rfl)
end
def NumEnd (w:World) (x:Int) (n:Nat) (e:Ending) (w':World):Prop:=Mod (fun _=>False) w w'/\∃ nb v' l,e=.returned (oz nb v')/\Nm w' nb v' l/\num nb l=x/\l.length<=n
theorem iq {w w':World} {x:Int} {n:Nat} {nb:Bool} {v:Value} {l:List Nat} (hm:Mod (fun _=>False) w w') (hN:Nm w' nb v l) (hx:num nb l=x) (hl:l.length<=n):NumEnd w x n (.returned (oz nb v)) w':=⟨hm,nb,v,l,rfl,hN,hx,hl⟩
theorem QG {neg:Bool} {ds:List Nat} {m:Nat} (h:val (ds.take m)=val ds):num neg (ds.take m)=num neg ds:=by unfold num;rw[h]
theorem jc (neg:Bool) (v:Value) (ds:List Nat) (w:World) (hV:w.ownsRow 0 3 1 v ds.length (xC ds)) (hd:CJ ds) (hl:ds.length<=2100000000) :
  Calls Tryz.prog 185 #[.bool neg,v] w (NumEnd w (num neg ds) ds.length):=by
 obtain⟨ao,cap,rfl,-⟩:=aj hV
 have hcap:=(RQ hV).1
 have hm0:Mod (fun _=>False) w (w.alloc (.cells #[.bool false,.slice none 0 0] 154)):=(Mod.refl _ w).alloc _
 have Ca:=au hV hm0 (fun _ _ f=>f)
 go_in
 go_wp2_with fail
 have hR0:=bO w false (.slice none 0 0)
 generalize hW:w.alloc (.cells #[.bool false,.slice none 0 0] 154)=W at *
 have HW:Hid (w.alloc (.cells #[.bool false,.slice none 0 0] 154)=W):=hW
 have HV0:Hid (w.ownsRow 0 3 1 (.slice ao ds.length cap) ds.length (xC ds)):=hV
 clear hW hV
 go_loop [1] (fun d=>∃ m:Nat,m<=ds.length/\d=.slice ao m cap/\Hid (val (ds.take m)=val ds)) (fun d=>sliceLen d)
 case atStart=>exact⟨ds.length,by omega,rfl,show val (ds.take ds.length)=val ds by rw[List.take_length]⟩
 case round =>
  obtain⟨m,hm,rfl,HV⟩:=hrel
  rcases Nat.eq_zero_or_pos m with hz | hz
  ·have HZ:Hid (m=0):=hz
   have hmz:(m:Int)<=0:=by omega
   have hgd:decide ((0:Int) < (m:Int))=false:=by simp;omega
   clear hz
   have r0:=hR0.c0
   have r1:=hR0.c1
   have f0:=hR0.fz 0
   have f1:=hR0.fz 1
   have Qg:=hR0.set false (.slice ao m cap)
   have EZ:=dK w.heap.size W false (.slice ao m cap)
   have q0:=Qg.c0
   have q1:=Qg.c1
   have fT:Mod (fun _=>False) w ((W.setCell ⟨w.heap.size,0,none⟩ (.bool false)).setCell ⟨w.heap.size,1,none⟩ (.slice ao m cap)):=((hm0.mono (q:=fun i=>i=w.heap.size) (fun _ _ f=>f.elim)).trans EZ).mono (fun i hi h=>by omega)
   cases neg
   all_goals
    go_wp2_with fail
    refine bodyPost_ret (v:=oz false (.slice ao m cap)) (by simp[results,Tryz.results185,go_sem,q0,q1]) rfl (iq (l:=[]) fT ⟨⟨fun _ h=>by simp at h,fun _ h=>by simp at h,fun _=>rfl⟩,?_⟩ ?_ (Nat.zero_le _))
    ·have h0:=HZ.out
     subst h0
     exact au (NW HV0.out) fT (fun _ _ f=>f)
    ·have h0:=HZ.out
     have hv:=HV.out
     rw[h0]at hv
     simp[val]at hv
     simp[num,val,<- hv]
  ·obtain⟨m,rfl⟩:∃ j,m=j+1:=⟨m - 1,by omega⟩
   clear hz
   have hml:m < ds.length:=by omega
   obtain⟨gb,rfl,cm⟩:=fA Ca rfl hml
   have hdm:=hd _ (List.getElem_mem hml)
   have HT:Hid (ds.take (m+1)=ds.take m++[ds[m]]):=show ds.take (m+1)=ds.take m++[ds[m]] by rw[List.take_succ_eq_append_getElem hml]
   by_cases h0:ds[m]=0
   ·have Xq:Hid (val (ds.take m)=val ds):=show val (ds.take m)=val ds by rw[<- HV.out,HT.out,h0,ES]
    have hb:((ds[m]:Int) == 0)=true:=bN (m:=0) h0
    clear h0
    go_wp2
    go_round
    case rel=>exact⟨m,by omega,rfl,Xq⟩
    case measure=>simp[sliceLen]
   ·have hb:((ds[m]:Int) == 0)=false:=aF (m:=0) h0
    have r0:=hR0.c0
    have r1:=hR0.c1
    have f0:=hR0.fz 0
    have f1:=hR0.fz 1
    have Qg:=hR0.set neg (.slice (some ⟨gb,0,none⟩) (m+1) cap)
    have EZ:=dK w.heap.size W neg (.slice (some ⟨gb,0,none⟩) (m+1) cap)
    have q0:=Qg.c0
    have q1:=Qg.c1
    have fT:Mod (fun _=>False) w ((W.setCell ⟨w.heap.size,0,none⟩ (.bool neg)).setCell ⟨w.heap.size,1,none⟩ (.slice (some ⟨gb,0,none⟩) (m+1) cap)):=((hm0.mono (q:=fun i=>i=w.heap.size) (fun _ _ f=>f.elim)).trans EZ).mono (fun i hi h=>by omega)
    have fP:Hid (NumEnd w (num neg ds) ds.length (.returned (oz neg (.slice (some ⟨gb,0,none⟩) (m+1) cap))) ((W.setCell ⟨w.heap.size,0,none⟩ (.bool neg)).setCell ⟨w.heap.size,1,none⟩ (.slice (some ⟨gb,0,none⟩) (m+1) cap))):=by
     refine iq (l:=ds.take (m+1)) fT ⟨⟨fun d hdm=>hd d (List.mem_of_mem_take hdm),?_,fun e=>?_⟩,?_⟩ (QG HV.out) (by simp;omega)
     ·intro d hdl
      rw[HT.out]at hdl
      rw[List.getLast?_concat]at hdl
      injection hdl with hdl
      rw[<- hdl];exact h0
     ·have he:=congrArg List.length e
      simp only[List.length_take,List.length_nil]at he
      omega
     ·have:=au (GV HV0.out rfl (m+1) (by omega) (by omega)) fT (fun _ _ f=>f)
      have hlen:(ds.take (m+1)).length=m+1:=by simp;omega
      rw[hlen];exact this
    cases neg
    all_goals
     go_wp2
     exact bodyPost_ret (by simp[results,Tryz.results185,go_sem,q0,q1]) rfl fP.out
def mo (l:List Int):List Value:=l.map fun (n:Int)=>Value.int .i64 n
theorem qF {w:World} {base n:Nat} {ao:Option Addr} {cap:Nat} {l:List Int} (h:w.ownsRow base 3 1 (.slice ao n cap) n (mo l)) (hn:n=l.length) {k:Nat} (hk:k < l.length) :
  ∃ gb,ao=some ⟨gb,0,none⟩/\w.cell? ⟨gb,k,none⟩=some (.int .i64 l[k]):=by
 subst hn
 obtain⟨gb,rfl,hc⟩:=iM h (j:=k) (by omega)
 exact⟨gb,rfl,by rw[hc];simp[mo,hk]⟩
theorem Gj (l:List Nat) (d:Nat):xC l++[.int .i64 (d:Int)]=xC (l++[d]):=by simp[xC]
def Xk (w:World) (d:List Int) (e:Ending) (w':World):Prop:=Mod (fun _=>False) w w'/\∃ v' os,e=.returned v'/\w'.ownsRow w.heap.size 3 1 v' os.length (xC os)/\CJ os/\(val os:Int)=gQ d/\os.length<=d.length+4
theorem jT (v:Value) (d:List Int) (w:World) (hV:w.ownsRow 0 3 1 v d.length (mo d)) (hd:∀ x∈d,-200000000000000000<=x/\x<=200000000000000000) (h0:0<=gQ d) (hl:d.length<=2000000000) :
  Calls Tryz.prog 186 #[v] w (Xk w d):=by
 obtain⟨i0,hi,hz0,hz1,hz2⟩:=info_parts Tryz.info3
 obtain⟨ao,cap,rfl,-⟩:=aj hV
 have HD:Hid (∀ x∈d,-200000000000000000<=x/\x<=200000000000000000):=hd
 clear hd
 go_in
 go_wp2_with fail
 go_loopw [3,4,5] (fun o c i wr=>∃ (k:Nat) (os:List Nat) (over:Int),i=.int .i64 k/\c=.int .i64 over/\Hid (xE d k os over)/\k<=d.length+4/\wr.ownsRow w.heap.size 3 1 o k (xC os)/\Mod (fun _=>False) w wr) (fun _ c i _=>300000000000000*(d.length - (intOf i).toNat)+(intOf c).toNat)
 case atStart=>exact⟨0,[],0,rfl,rfl,xE.start d,by omega,World.ownsRow_nil _ _ _ _,Mod.refl _ _⟩
 case round =>
  obtain⟨k,os,over,rfl,rfl,HC,hk,hown,hm⟩:=hrel
  have hb4:=HC.out.2.2.2.1
  have hb5:=HC.out.2.2.2.2
  have hsz:=hm.size
  obtain⟨oo,qj,rfl,-⟩:=aj hown
  by_cases hlt:k < d.length
  ·obtain⟨gb,rfl,ck⟩:=qF (au hV hm (fun _ _ f=>f)) rfl hlt
   have hdk:=HD.out _ (List.getElem_mem hlt)
   have hd1:=hdk.1
   have hd2:=hdk.2
   clear hdk
   obtain⟨n0,hn0⟩:∃ n0,n0=over+d[k]:=⟨_,rfl⟩
   have Zq:Hid (n0=over+d[k]?.getD 0):=show n0=over+d[k]?.getD 0 by rw[hn0];simp[hlt]
   have hnl:-200100000000000000<=n0:=by omega
   have hnu:n0<=200100000000000000:=by omega
   have HN1:Hid (over+d[k]=n0):=hn0.symm
   have hgo:over+d[k]=n0:=hn0.symm
   clear hn0
   go_wp2_with fail
   go_loop [4,6] (fun c m=>∃ t:Nat,c=.int .i64 (-(t:Int))/\m=.int .i64 (n0+10000*(t:Int))/\(t=0\/n0+10000*(t:Int) < 10000)) (fun _ m=>(-(intOf m)).toNat)
   case atStart=>exact⟨0,by simp,by simp,.inl rfl⟩
   case round =>
    obtain⟨t,rfl,rfl,ht⟩:=hrel
    have htb:n0+10000*(t:Int) < 200100000000010000:=by omega
    have htc:(t:Int)<=20020000000000:=by omega
    clear ht
    by_cases hneg:n0+10000*(t:Int) < 0
    ·go_wp2
     go_round
     case rel=>exact⟨t+1,by go_num,by go_num,.inr (by omega)⟩
     case measure=>simp[intOf];omega
    ·have HST:Hid (xE d (k+1) (os++[(n0 % 10000).toNat]) (n0 / 10000)):=HC.out.step HD.out n0 Zq.out
     have hq2:-(t:Int)+(n0+10000*(t:Int)) / 10000=n0 / 10000:=by omega
     have HQ1:Hid (n0 % 10000=(((n0 % 10000).toNat:Nat):Int)):=show n0 % 10000=(((n0 % 10000).toNat:Nat):Int) by rw[Int.toNat_of_nonneg (Int.emod_nonneg _ (by omega))]
     have OV:Hid (-(t:Int)+(n0+10000*(t:Int)) / 10000=n0 / 10000):=hq2
     have hn1:0<=n0+10000*(t:Int):=by omega
     clear hq2 hneg
     go_wp2_with (at_builtin;refine wpList_append_own _ rfl _ _ 29 rfl w.heap.size 3 i0 (.int .i64 0) 1 8 Tryz.underlying29 hi hz0 hz1 hz2 rfl (by decide) _ _ _ rfl (hown.alloc _) ⟨wr.heap.size,0,none⟩ 1 1 [.int .i64 (n0 % 10000)] rfl rfl ?p1 ?p2 ?p3 ?p4 ?p5 ?_)
     case p2=>first | rfl | (intro u hu;simp at hu;subst hu;rfl)
     case p3=>unfold maxLen;omega
     case p4=>omega
     case p5=>first | omega | (simp;omega)
     intro v4 w4 aG hgrow _
     have aO:Mod (fun _=>False) w w4:=(hm.alloc _).grown hgrow (fun q hq hlt=>by have:=(hown.lt q hq).1;omega)
     have hown5:w4.ownsRow w.heap.size 3 1 v4 (k+1) (xC (os++[(n0 % 10000).toNat])):=by rw[<- Gj,<- HQ1.out];exact aG
     obtain⟨Kc,nR,rfl,-⟩:=aj aG
     clear aG hgrow hown hm
     go_wp2
     go_roundw
     case rel=>exact⟨k+1,os++[(n0 % 10000).toNat],n0 / 10000,by go_num,by rw[<- OV.out],HST,by omega,hown5,aO⟩
     case measure=>rw[OV.out];simp[intOf];omega
  ·by_cases hov:0 < over
   ·obtain⟨n0,hn0⟩:∃ n0,n0=over:=⟨_,rfl⟩
    have Zq:Hid (n0=over+d[k]?.getD 0):=show n0=over+d[k]?.getD 0 by rw[hn0];simp[show d.length<=k by omega]
    have hkb:=HC.out.bound (by omega) hov HD.out
    subst hn0
    go_wp2_with fail
    go_loop [4,6] (fun c m=>∃ t:Nat,c=.int .i64 (-(t:Int))/\m=.int .i64 (n0+10000*(t:Int))/\(t=0\/n0+10000*(t:Int) < 10000)) (fun _ m=>(-(intOf m)).toNat)
    case atStart=>exact⟨0,by simp,by simp,.inl rfl⟩
    case round =>
     obtain⟨t,rfl,rfl,ht⟩:=hrel
     have htb:n0+10000*(t:Int) < 200100000000010000:=by omega
     have htc:(t:Int)<=20020000000000:=by omega
     clear ht
     by_cases hneg:n0+10000*(t:Int) < 0
     ·go_wp2
      go_round
      case rel=>exact⟨t+1,by go_num,by go_num,.inr (by omega)⟩
      case measure=>simp[intOf];omega
     ·have HST:Hid (xE d (k+1) (os++[(n0 % 10000).toNat]) (n0 / 10000)):=HC.out.step HD.out n0 Zq.out
      have hq2:-(t:Int)+(n0+10000*(t:Int)) / 10000=n0 / 10000:=by omega
      have HQ1:Hid (n0 % 10000=(((n0 % 10000).toNat:Nat):Int)):=show n0 % 10000=(((n0 % 10000).toNat:Nat):Int) by rw[Int.toNat_of_nonneg (Int.emod_nonneg _ (by omega))]
      have OV:Hid (-(t:Int)+(n0+10000*(t:Int)) / 10000=n0 / 10000):=hq2
      have hn1:0<=n0+10000*(t:Int):=by omega
      clear hq2 hneg
      go_wp2_with (at_builtin;refine wpList_append_own _ rfl _ _ 29 rfl w.heap.size 3 i0 (.int .i64 0) 1 8 Tryz.underlying29 hi hz0 hz1 hz2 rfl (by decide) _ _ _ rfl (hown.alloc _) ⟨wr.heap.size,0,none⟩ 1 1 [.int .i64 (n0 % 10000)] rfl rfl ?q1 ?q2 ?q3 ?q4 ?q5 ?_)
      case q2=>first | rfl | (intro u hu;simp at hu;subst hu;rfl)
      case q3=>unfold maxLen;omega
      case q4=>omega
      case q5=>first | omega | (simp;omega)
      intro v4 w4 aG hgrow _
      have aO:Mod (fun _=>False) w w4:=(hm.alloc _).grown hgrow (fun q hq hlt=>by have:=(hown.lt q hq).1;omega)
      have hown5:w4.ownsRow w.heap.size 3 1 v4 (k+1) (xC (os++[(n0 % 10000).toNat])):=by rw[<- Gj,<- HQ1.out];exact aG
      obtain⟨Kc,nR,rfl,-⟩:=aj aG
      clear aG hgrow hown hm
      go_wp2
      go_roundw
      case rel=>exact⟨k+1,os++[(n0 % 10000).toNat],n0 / 10000,by go_num,by rw[<- OV.out],HST,by omega,hown5,aO⟩
      case measure=>rw[OV.out];simp[intOf];omega
   ·have HF:Hid ((val os:Int)=gQ d):=HC.out.finish (by omega) (by omega) h0
    have HD1:Hid (CJ os):=HC.out.2.1
    have HL1:Hid (os.length=k):=HC.out.1
    go_wp2
    go_ret
    exact⟨hm,_,os,rfl,by rw[HL1.out];exact hown,HD1.out,HF.out,by rw[HL1.out];exact hk⟩
end Go.Proofs.YtmnfndpbblpjiabGreatDoor

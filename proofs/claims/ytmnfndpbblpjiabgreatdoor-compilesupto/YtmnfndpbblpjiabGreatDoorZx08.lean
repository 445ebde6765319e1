/- The program's steps: what fits. -/
import Derived.Deep.WholeRow
import Derived.Deep.MidRow
import Derived.BigRegion
import Derived.Test.YtmnfndpbblpjiabGreatDoorZx07
set_option maxHeartbeats 3200000
set_option maxRecDepth 100000
namespace Go.Proofs.YtmnfndpbblpjiabGreatDoor
open Go.RowKit Pu
def stA (t:Stp):Array Value:=#[.int .u8 t.op,.int .u8 t.x,.int .u8 t.y,.int .u8 t.z]
abbrev E8 (t:Stp):Value:=.agg #[.int .u8 t.op,.int .u8 t.x,.int .u8 t.y,.int .u8 t.z]
theorem uf (op:Nat) (w:World) (h:op < 256):Calls Tryz.prog 55 #[.int .u8 op] w fun e w'=>e=.returned (.bool (decide (op<=5)))/\w=w':=by
 by_cases h5:op<=5
 ·have:(op:Int)<=5:=by omega
  go_in
  go_wp2
  go_ret
  exact⟨by simp[h5],rfl⟩
 ·have:¬ (op:Int)<=5:=by omega
  go_in
  go_wp2
  go_ret
  exact⟨by simp,rfl⟩
theorem vF (op:Nat) (w:World) (_h:op < 256):Calls Tryz.prog 137 #[.int .u8 op] w fun e w'=>e=.returned (.bool (rz op))/\w=w':=by
 cases e2:decide (op=2)<;>cases e3:decide (op=3)<;>cases e4:decide (op=4)
 all_goals
  have HZ:Hid (rz op=(decide (op=2) || decide (op=3) || decide (op=4))):=rfl
  rw[e2,e3,e4]at HZ
  simp only[decide_eq_true_eq,decide_eq_false_iff_not]at e2 e3 e4
  first
   | omega
   | (have b2:((op:Int) == 2)=true:=bN e2
      clear e2 e3 e4
      go_in
      go_wp2
      go_ret
      exact⟨by rw[HZ.out];rfl,rfl⟩)
   | (have b2:((op:Int) == 2)=false:=aF e2
      have b3:((op:Int) == 3)=true:=bN e3
      clear e2 e3 e4
      go_in
      go_wp2
      go_ret
      exact⟨by rw[HZ.out];rfl,rfl⟩)
   | (have b2:((op:Int) == 2)=false:=aF e2
      have b3:((op:Int) == 3)=false:=aF e3
      have b4:((op:Int) == 4)=true:=bN e4
      clear e2 e3 e4
      go_in
      go_wp2
      go_ret
      exact⟨by rw[HZ.out];rfl,rfl⟩)
   | (have b2:((op:Int) == 2)=false:=aF e2
      have b3:((op:Int) == 3)=false:=aF e3
      have b4:((op:Int) == 4)=false:=aF e4
      clear e2 e3 e4
      go_in
      go_wp2
      go_ret
      exact⟨by rw[HZ.out];rfl,rfl⟩)
theorem Bz (op:Nat) (w:World) (h:op < 256):Calls Tryz.prog 136 #[.int .u8 op] w fun e w'=>e=.returned (.bool (ry op))/\w=w':=by
 by_cases e5:op=5
 ·have HZ:Hid (ry op=true):=show ry op=true by simp[ry,e5]
  have b5:((op:Int) == 5)=true:=bN e5
  clear e5
  go_in
  go_wp2
  go_ret
  exact⟨by rw[HZ.out];rfl,rfl⟩
 ·have HZ:Hid (ry op=rz op):=show ry op=rz op by simp[ry,e5]
  have b5:((op:Int) == 5)=false:=aF e5
  clear e5
  go_in
  go_wp2_with (go_at_call 137;refine (vF op _ h).mono ?_;rintro e w1 ⟨rfl,rfl⟩)
  go_ret
  exact⟨by rw[HZ.out];rfl,rfl⟩
theorem NS (t:Stp) (ins:Nat) (w:World) (ht:Small t) (_hi:ins < 256):Calls Tryz.prog 93 #[E8 t,.int .u8 ins] w fun e w'=>e=.returned (.bool (bH t ins))/\Mod (fun _=>False) w w':=by
 obtain⟨op,x,y,z⟩:=t
 obtain⟨h1,h2,h3,h4⟩:=ht
 simp only at h1 h2 h3 h4
 by_cases h7:7 < op
 ·have HZ:Hid (bH ⟨op,x,y,z⟩ ins=false):=show _=false by
   simp[bH,show ¬ op=0 by omega,show ¬ op=1 by omega,show ¬ op=2 by omega,show ¬ op=3 by omega,show ¬ op=4 by omega,show ¬ op=5 by omega,show ¬ op=6 by omega,show ¬ op=7 by omega]
  have b0:((op:Int) == 0)=false:=aF (m:=0) (by omega)
  have b1:((op:Int) == 1)=false:=aF (m:=1) (by omega)
  have b2:((op:Int) == 2)=false:=aF (m:=2) (by omega)
  have b3:((op:Int) == 3)=false:=aF (m:=3) (by omega)
  have b4:((op:Int) == 4)=false:=aF (m:=4) (by omega)
  have b5:((op:Int) == 5)=false:=aF (m:=5) (by omega)
  have b6:((op:Int) == 6)=false:=aF (m:=6) (by omega)
  have b7:((op:Int) == 7)=false:=aF (m:=7) (by omega)
  go_in
  go_wp2
  go_ret
  exact⟨by rw[HZ.out];rfl,(Mod.refl _ _).alloc _⟩
 ·have hop:op=0\/op=1\/op=2\/op=3\/op=4\/op=5\/op=6\/op=7:=by omega
  clear h7 h1
  rcases hop with rfl | rfl | rfl | rfl | rfl | rfl | rfl | rfl
  ·by_cases ha:y < ins
   ·have ia:(y:Int) < (ins:Int):=by omega
    by_cases hb:z=0
    ·have ib:((z:Int) == 0)=true:=bN (m:=0) hb
     have HZ:Hid (bH ⟨0,x,y,z⟩ ins=true):=show bH ⟨0,x,y,z⟩ ins=true by simp[bH,ha,hb]
     clear ha hb
     go_in
     go_wp2
     go_ret
     exact⟨by rw[HZ.out];rfl,(Mod.refl _ _).alloc _⟩
    ·have ib:((z:Int) == 0)=false:=aF (m:=0) hb
     have HZ:Hid (bH ⟨0,x,y,z⟩ ins=false):=show bH ⟨0,x,y,z⟩ ins=false by simp[bH,hb]
     clear hb
     go_in
     go_wp2
     go_ret
     exact⟨by rw[HZ.out];rfl,(Mod.refl _ _).alloc _⟩
   ·have ia:¬ (y:Int) < (ins:Int):=by omega
    have HZ:Hid (bH ⟨0,x,y,z⟩ ins=false):=show bH ⟨0,x,y,z⟩ ins=false by simp[bH,ha]
    clear ha
    go_in
    go_wp2
    go_ret
    exact⟨by rw[HZ.out];rfl,(Mod.refl _ _).alloc _⟩
  ·by_cases hb:z=0
   ·have ib:((z:Int) == 0)=true:=bN (m:=0) hb
    have HZ:Hid (bH ⟨1,x,y,z⟩ ins=true):=show bH ⟨1,x,y,z⟩ ins=true by simp[bH,hb]
    clear hb
    go_in
    go_wp2
    go_ret
    exact⟨by rw[HZ.out];rfl,(Mod.refl _ _).alloc _⟩
   ·have ib:((z:Int) == 0)=false:=aF (m:=0) hb
    have HZ:Hid (bH ⟨1,x,y,z⟩ ins=false):=show bH ⟨1,x,y,z⟩ ins=false by simp[bH,hb]
    clear hb
    go_in
    go_wp2
    go_ret
    exact⟨by rw[HZ.out];rfl,(Mod.refl _ _).alloc _⟩
  ·have HZ:Hid (bH ⟨2,x,y,z⟩ ins=true):=show bH ⟨2,x,y,z⟩ ins=true by simp[bH]
   go_in
   go_wp2
   go_ret
   exact⟨by rw[HZ.out];rfl,(Mod.refl _ _).alloc _⟩
  ·have HZ:Hid (bH ⟨3,x,y,z⟩ ins=true):=show bH ⟨3,x,y,z⟩ ins=true by simp[bH]
   go_in
   go_wp2
   go_ret
   exact⟨by rw[HZ.out];rfl,(Mod.refl _ _).alloc _⟩
  ·have HZ:Hid (bH ⟨4,x,y,z⟩ ins=true):=show bH ⟨4,x,y,z⟩ ins=true by simp[bH]
   go_in
   go_wp2
   go_ret
   exact⟨by rw[HZ.out];rfl,(Mod.refl _ _).alloc _⟩
  ·by_cases hb:z=0
   ·have ib:((z:Int) == 0)=true:=bN (m:=0) hb
    have HZ:Hid (bH ⟨5,x,y,z⟩ ins=true):=show bH ⟨5,x,y,z⟩ ins=true by simp[bH,hb]
    clear hb
    go_in
    go_wp2
    go_ret
    exact⟨by rw[HZ.out];rfl,(Mod.refl _ _).alloc _⟩
   ·have ib:((z:Int) == 0)=false:=aF (m:=0) hb
    have HZ:Hid (bH ⟨5,x,y,z⟩ ins=false):=show bH ⟨5,x,y,z⟩ ins=false by simp[bH,hb]
    clear hb
    go_in
    go_wp2
    go_ret
    exact⟨by rw[HZ.out];rfl,(Mod.refl _ _).alloc _⟩
  ·by_cases ha:y=0
   ·have ia:((y:Int) == 0)=true:=bN (m:=0) ha
    by_cases hb:z=0
    ·have ib:((z:Int) == 0)=true:=bN (m:=0) hb
     have HZ:Hid (bH ⟨6,x,y,z⟩ ins=true):=show bH ⟨6,x,y,z⟩ ins=true by simp[bH,ha,hb]
     clear ha hb
     go_in
     go_wp2
     go_ret
     exact⟨by rw[HZ.out];rfl,(Mod.refl _ _).alloc _⟩
    ·have ib:((z:Int) == 0)=false:=aF (m:=0) hb
     have HZ:Hid (bH ⟨6,x,y,z⟩ ins=false):=show bH ⟨6,x,y,z⟩ ins=false by simp[bH,hb]
     clear hb
     go_in
     go_wp2
     go_ret
     exact⟨by rw[HZ.out];rfl,(Mod.refl _ _).alloc _⟩
   ·have ia:((y:Int) == 0)=false:=aF (m:=0) ha
    have HZ:Hid (bH ⟨6,x,y,z⟩ ins=false):=show bH ⟨6,x,y,z⟩ ins=false by simp[bH,ha]
    clear ha
    go_in
    go_wp2
    go_ret
    exact⟨by rw[HZ.out];rfl,(Mod.refl _ _).alloc _⟩
  ·by_cases ha:y < 3
   ·have ia:(y:Int) < 3:=by omega
    by_cases hb:z < 16
    ·have ib:(z:Int) < 16:=by omega
     have HZ:Hid (bH ⟨7,x,y,z⟩ ins=true):=show bH ⟨7,x,y,z⟩ ins=true by simp[bH,ha,hb]
     clear ha hb
     go_in
     go_wp2
     go_ret
     exact⟨by rw[HZ.out];rfl,(Mod.refl _ _).alloc _⟩
    ·have ib:¬ (z:Int) < 16:=by omega
     have HZ:Hid (bH ⟨7,x,y,z⟩ ins=false):=show bH ⟨7,x,y,z⟩ ins=false by simp[bH,hb]
     clear hb
     go_in
     go_wp2
     go_ret
     exact⟨by rw[HZ.out];rfl,(Mod.refl _ _).alloc _⟩
   ·have ia:¬ (y:Int) < 3:=by omega
    have HZ:Hid (bH ⟨7,x,y,z⟩ ins=false):=show bH ⟨7,x,y,z⟩ ins=false by simp[bH,ha]
    clear ha
    go_in
    go_wp2
    go_ret
    exact⟨by rw[HZ.out];rfl,(Mod.refl _ _).alloc _⟩
def aH (M:Nat->Bool):Array Value:=Array.ofFn (n:=256) fun i=>.bool (M i)
theorem aU (M:Nat->Bool):(aH M).size=256:=by simp[aH]
theorem tQ (M:Nat->Bool) {r:Nat} (h:r < 256):(aH M)[r]?=some (.bool (M r)):=by simp[aH,h]
theorem vg (M:Nat->Bool) {r:Nat} (hr:r < 256):∀ h':r < (aH M).size,(aH M)[r]=.bool (M r):=fun h'=>by
 have:=tQ M hr
 rw[Array.getElem?_eq_getElem h']at this
 exact Option.some.inj this
theorem JM (M:Nat->Bool) (r:Nat) (b:Bool):(aH M).setIfInBounds r (.bool b)=aH (fun i=>if i=r then b else M i):=by
 apply Array.ext
 ·simp[aH]
 ·intro i h1 h2
  have hi:i < 256:=by simpa [aH] using h2
  rw[Array.getElem_setIfInBounds (by simpa [aH] using hi)]
  by_cases e:r=i
  ·subst e;simp[aH]
  ·simp[aH,e,show ¬ i=r from fun h=>e h.symm]
theorem Gt:aH (fun _=>false)=Array.replicate 256 (.bool false):=by
 apply Array.ext
 ·simp[aH]
 ·intro i h1 h2;simp[aH]
theorem lI (M:Nat->Bool):(aH M).all (·.oneCell')=true:=by
 rw[Array.all_eq_true_iff_forall_mem]
 intro v hv
 simp[aH]at hv
 obtain⟨i,rfl⟩:=hv
 rfl
theorem Tryz.infoM:(Tryz.prog.info? 98).map (fun i=>(i.zero,i.size))=some (some (.agg (Array.replicate 256 (.bool false))),256):=by kernel_rfl
theorem Ob (t:Stp) (M:Nat->Bool) (w:World) (ht:Small t):Calls Tryz.prog 94 #[E8 t,.agg (aH M)] w fun e w'=>e=.returned (.bool (Bv M t))/\Mod (fun _=>False) w w':=by
 obtain⟨op,x,y,z⟩:=t
 obtain⟨h1,h2,h3,h4⟩:=ht
 simp only at h1 h2 h3 h4
 have cx:=vg M h2
 have cy:=vg M h3
 have cz:=vg M h4
 have hsz:=aU M
 have ix:(x:Int) < 256:=by omega
 have iy:(y:Int) < 256:=by omega
 have iz:(z:Int) < 256:=by omega
 have HZ:Hid (Bv M ⟨op,x,y,z⟩=((decide (op<=5) || M x) && (!(ry op) || M y) && (!(rz op) || M z))):=rfl
 generalize aH M=C at *
 generalize Bv M ⟨op,x,y,z⟩=R at *
 generalize M x=bx at *
 generalize M y=vy at *
 generalize M z=bz at *
 have hsx:=fun w=>uf op w h1
 have hry:=fun w=>Bz op w h1
 have hrz:=fun w=>vF op w h1
 generalize decide (op<=5)=b5 at *
 generalize ry op=py at *
 generalize rz op=pz at *
 cases b5<;>cases bx<;>cases py<;>cases vy<;>cases pz<;>cases bz
 all_goals
  simp only[Bool.or_true,Bool.or_false,Bool.and_true,Bool.and_false,Bool.not_true,Bool.not_false]at HZ
  go_in
  go_wp2_with first
   | (go_at_call 55;refine (hsx _).mono ?_;rintro e w1 ⟨rfl,rfl⟩)
   | (go_at_call 136;refine (hry _).mono ?_;rintro e w1 ⟨rfl,rfl⟩)
   | (go_at_call 137;refine (hrz _).mono ?_;rintro e w1 ⟨rfl,rfl⟩)
  go_ret
  exact⟨by rw[HZ.out];rfl,((Mod.refl _ _).alloc _).alloc _⟩
end Go.Proofs.YtmnfndpbblpjiabGreatDoor

/- A whole block's value loaded, a whole value stored, where a walk stands at the operation. -/
namespace Go.Proofs.YtmnfndpbblpjiabGreatDoor
open Go.RowKit
theorem wpList_load_row {P:Program} {ops:Array Oper} {rest:List Oper} {op:Oper} {a:Act} {w:World} {Q:Exit->Act->World->Prop} (hgd:op.guard=none) (ty:TypeId) (x:Operand) (ho:op.op=.load ty x)
  (b:Nat) (hx:a.eval x=.pointer (some ⟨b,0,none⟩)) (C:Array Value) (t:TypeId) (fr:Nat × Nat) (hb:w.heap[b]?=some (.cells C t fr)) (d:TypeDesc)
  (hu:P.underlying ty=some d) (hd:d.isRow=true) (hi:(P.info? ty).map (·.size)=some C.size)
  (h:wpList P ops Q rest (a.put op.dst (.agg C)) w):wpList P ops Q (op :: rest) a w :=
 wpList_plain hgd fun _ hK=>by
  have hl:=run_loadVar_row w b t ty C fr d hb hu (by cases d<;>simp_all[TypeDesc.isRow]) hi
  unfold Oper.wp execOp
  simp only[ho,hx,Instr.loadAt,Instr.sureAddr,Sem.run_bind,Sem.run_pure,Result.andThen_ok,hl]
  exact hK _ _ h
theorem wpList_store_row {P:Program} {ops:Array Oper} {rest:List Oper} {op:Oper} {a:Act} {w:World} {Q:Exit->Act->World->Prop} (hgd:op.guard=none) (ty:TypeId) (x y:Operand) (ho:op.op=.store ty x y)
  (b:Nat) (C C':Array Value) (t:TypeId) (hx:a.eval x=.pointer (some ⟨b,0,none⟩)) (hy:a.eval y=.agg C') (hb:w.heap[b]?=some (.cells C t (0,0)))
  (hi:(P.info? ty).map (·.size)=some C'.size) (hs:C.size=C'.size) (h1:C'.all (·.oneCell')=true)
  (h:wpList P ops Q rest (a.put op.dst undef) (w.setRow b C')):wpList P ops Q (op :: rest) a w :=
 wpList_plain hgd fun _ hK=>by
  have hl:=run_storeVar_row w b t ty C C' hb hi hs h1
  unfold Oper.wp execOp
  simp only[ho,hx,hy,Instr.storeAt,Instr.sureAddr,Sem.run_bind,Sem.run_pure,Result.andThen_ok,hl]
  exact hK _ _ h
end Go.Proofs.YtmnfndpbblpjiabGreatDoor

/- The program's stepFits. -/
namespace Go.Proofs.YtmnfndpbblpjiabGreatDoor
open Go.RowKit Pu
theorem dH {n:Nat} (h:n=256):(Tryz.prog.info? 98).map (·.size)=some n:=by subst h;exact (zero_of_info Tryz.infoM).2
theorem jD {w:World} {b:Nat} {t:Stp} (h:w.heap[b]?=some (.cells #[.int .u8 t.op,.int .u8 t.x,.int .u8 t.y,.int .u8 t.z] 94 (0,0))) :
  w.cell? ⟨b,0,none⟩=some (.int .u8 t.op)/\w.cell? ⟨b,1,none⟩=some (.int .u8 t.x)/\w.cell? ⟨b,2,none⟩=some (.int .u8 t.y)/\w.cell? ⟨b,3,none⟩=some (.int .u8 t.z):=by simp[World.cell?,h]
theorem cells3 {w:World} {b:Nat} {x y z:Value} {ty:TypeId} (h:w.heap[b]?=some (.cells #[x,y,z] ty (0,0))) :
  w.cell? ⟨b,0,none⟩=some x/\w.cell? ⟨b,1,none⟩=some y/\w.cell? ⟨b,2,none⟩=some z:=by simp[World.cell?,h]
theorem dJ (w:World) (o1 o2:Obj):((w.alloc o1).alloc o2).heap[w.heap.size]?=some o1/\((w.alloc o1).alloc o2).heap[w.heap.size+1]?=some o2:=by
 refine⟨?_,by simpa using heap_alloc_new (w.alloc o1) o2⟩
 rw[Below.heap_alloc _ _ _ (by simp)];exact heap_alloc_new w o1
theorem pW (w:World) (o1 o2 o3:Obj):(((w.alloc o1).alloc o2).alloc o3).heap[w.heap.size]?=some o1/\(((w.alloc o1).alloc o2).alloc o3).heap[w.heap.size+1]?=some o2/\(((w.alloc o1).alloc o2).alloc o3).heap[w.heap.size+2]?=some o3:=by
 refine⟨?_,?_,?_⟩
 ·rw[Below.heap_alloc _ _ _ (by simp;omega),Below.heap_alloc _ _ _ (by simp)];exact heap_alloc_new w o1
 ·rw[Below.heap_alloc _ _ _ (by simp)];simpa using heap_alloc_new (w.alloc o1) o2
 ·simpa using heap_alloc_new ((w.alloc o1).alloc o2) o3
theorem EI (t:Stp) (regs ins:Nat) (ao:Option Addr) (n cap:Nat) (M:Nat->Bool) (w:World) (ht:Small t) (_hr:regs < 256) (hi:ins < 256) :
  Calls Tryz.prog 54 #[.agg #[.int .u8 regs,.int .u8 ins,.slice ao n cap],E8 t,.agg (aH M)] w fun e w'=>e=.returned (.bool (BQ M t regs ins))/\Mod (fun _=>False) w w':=by
 have hcs:=aU M
 have HF:Hid (BQ M t regs ins=(bH t ins && decide (t.x < regs) && Bv M t)):=rfl
 obtain⟨a1,a2,a3⟩:=pW w (.cells #[.int .u8 regs,.int .u8 ins,.slice ao n cap] 63) (.cells #[.int .u8 t.op,.int .u8 t.x,.int .u8 t.y,.int .u8 t.z] 94) (.cells (aH M) 98)
 have hm0:Mod (fun _=>False) w (((w.alloc (.cells #[.int .u8 regs,.int .u8 ins,.slice ao n cap] 63)).alloc (.cells #[.int .u8 t.op,.int .u8 t.x,.int .u8 t.y,.int .u8 t.z] 94)).alloc (.cells (aH M) 98)):=(((Mod.refl _ w).alloc _).alloc _).alloc _
 have hop:=fun w=>NS t ins w ht hi
 have hrd:=fun w=>Ob t M w ht
 have hsx:=ht.2.1
 generalize aH M=C at *
 generalize bH t ins=bo at *
 generalize Bv M t=br at *
 generalize BQ M t regs ins=bs at *
 go_in
 go_wp2_with fail
 refine (hop _).mono ?_
 rintro e w1 ⟨rfl,hm1⟩
 have b1:=hm1.keep a1 (fun f=>f)
 have b2:=hm1.keep a2 (fun f=>f)
 have b3:=hm1.keep a3 (fun f=>f)
 obtain⟨c0,c1,c2⟩:=cells3 b1
 obtain⟨d0,d1,d2,d3⟩:=jD b2
 have hm:=hm0.trans hm1
 clear a1 a2 a3 b1 b2 hm0 hm1 hop
 cases bo with
 | false =>
  have HR:Hid (bs=false):=show bs=false by rw[HF.out];rfl
  go_wp2
  go_ret
  exact⟨by rw[HR.out];rfl,hm⟩
 | true =>
  by_cases hx:t.x < regs
  ·have ix:¬ (regs:Int)<=(t.x:Int):=by omega
   have HR:Hid (bs=br):=show bs=br by rw[HF.out];simp[hx]
   go_wp2_with (refine wpList_load_row (by rfl) 98 _ (by rfl) _ (by rfl) C _ _ b3 _ Tryz.underlying98 (by rfl) (dH hcs) ?_)
   refine (hrd _).mono ?_
   rintro e w2 ⟨rfl,hm2⟩
   go_wp2
   go_ret
   exact⟨by rw[HR.out];rfl,hm.trans hm2⟩
  ·have ix:(regs:Int)<=(t.x:Int):=by omega
   have HR:Hid (bs=false):=show bs=false by rw[HF.out];simp[hx]
   go_wp2
   go_ret
   exact⟨by rw[HR.out];rfl,hm⟩
theorem Tryz.infoSt:(Tryz.prog.info? 94).map (fun i=>(i.zero,i.size,i.bytes))=some (some (.agg #[.int .u8 0,.int .u8 0,.int .u8 0,.int .u8 0]),4,4):=by kernel_rfl
def fO (t:Stp):List Value:=[.int .u8 t.op,.int .u8 t.x,.int .u8 t.y,.int .u8 t.z]
def nS (l:List Stp):List Value:=l.flatMap fO
theorem pJ (q:List Stp) (t:Stp):nS q++fO t=nS (q++[t]):=by simp[nS]
theorem GX (q:List Stp) (j i:Nat) (hj:j < q.length) (hi:i < 4):(nS q)[j*4+i]?=(fO q[j])[i]?:=by
 induction q generalizing j with
 | nil=>simp at hj
 | cons t q ih =>
  cases j with
  | zero =>
   simp only[nS,List.flatMap_cons,Nat.zero_mul,Nat.zero_add,List.getElem_cons_zero]
   rw[List.getElem?_append_left (by simpa [fO] using hi)]
  | succ j =>
   have:=ih j (by simpa using hj)
   simp only[nS,List.flatMap_cons,List.getElem_cons_succ]at *
   rw[List.getElem?_append_right (by simp[fO];omega),<- this]
   congr 1
   simp[fO];omega
def gM (w:World) (base:Nat) (v:Value) (l:List Stp):Prop:=w.ownsRow base 94 4 v l.length (nS l)
theorem gM.cell {w:World} {base:Nat} {ao:Option Addr} {cap:Nat} {l:List Stp} (h:gM w base (.slice ao l.length cap) l) {j:Nat} (hj:j < l.length) :
  ∃ gb,ao=some ⟨gb,0,none⟩/\w.cell? ⟨gb,j*4,none⟩=some (.int .u8 l[j].op)/\w.cell? ⟨gb,j*4+1,none⟩=some (.int .u8 l[j].x)/\w.cell? ⟨gb,j*4+2,none⟩=some (.int .u8 l[j].y)/\w.cell? ⟨gb,j*4+3,none⟩=some (.int .u8 l[j].z):=by
 unfold gM at h
 obtain⟨gb,rfl,h0⟩:=iM h (j:=j*4+0) (by omega)
 have h1:=h.cellAt (j*4+1) (by omega)
 have h2:=h.cellAt (j*4+2) (by omega)
 have h3:=h.cellAt (j*4+3) (by omega)
 rw[GX l j _ hj (by omega)]at h0 h1 h2 h3
 exact⟨gb,rfl,by simpa [fO] using h0,by simpa [fO] using h1,by simpa [fO] using h2,by simpa [fO] using h3⟩
theorem gM.mod {w w':World} {base:Nat} {v:Value} {l:List Stp} (h:gM w base v l) (hm:Mod (fun _=>False) w w'):gM w' base v l:=au h hm (fun _ _ f=>f)
theorem CO {c m:Nat} (h:¬ c=m):((c:Int) != (m:Int))=true:=by simp;omega
theorem rP {c m:Nat} (h:c=m):((c:Int) != (m:Int))=false:=by subst h;simp
def j6 (s:ByteArray) (w w':World) (e:Ending):Prop :=
 (aW s=false/\e=.returned (.tuple #[.agg #[.int .u8 0,.int .u8 0,.slice none 0 0],.bool false])) \/
 (aW s=true/\∃ v,e=.returned (.tuple #[.agg #[.int .u8 (g s 2),.int .u8 (g s 3),v],.bool true])/\gM w' w.heap.size v (steps s))
theorem KE (s:ByteArray) (w:World) (hs:s.size < 6):Calls Tryz.prog 53 #[.string s] w fun e w'=>j6 s w w' e/\Mod (fun _=>False) w w':=by
 have HR:Hid (aW s=false):=show aW s=false by simp[aW,show ¬ 6<=s.size by omega]
 have i6:(s.size:Int) < 6:=by omega
 go_in
 go_wp2
 exact bodyPost_ret (v:=.tuple #[.agg #[.int .u8 0,.int .u8 0,.slice none 0 0],.bool false]) (by simp[results,Tryz.results53,go_sem]) rfl ⟨.inl ⟨HR.out,rfl⟩,(Mod.refl _ w).alloc _⟩
theorem Ky (s:ByteArray) (w:World) (h6:6<=s.size) (hn:g s 0≠82) (hs:s.size<=8006):Calls Tryz.prog 53 #[.string s] w fun e w'=>j6 s w w' e/\Mod (fun _=>False) w w':=by
 have HR:Hid (aW s=false):=show aW s=false by simp[aW,hn]
 have h0:0 < s.size:=by omega
 have i6:¬ (s.size:Int) < 6:=by omega
 have b0:(((s[0]'h0).toNat:Int) != 82)=true:=CO (m:=82) (by rw[dB h0]at hn;exact hn)
 clear hn
 go_in
 go_wp2
 exact bodyPost_ret (v:=.tuple #[.agg #[.int .u8 0,.int .u8 0,.slice none 0 0],.bool false]) (by simp[results,Tryz.results53,go_sem]) rfl ⟨.inl ⟨HR.out,rfl⟩,(Mod.refl _ w).alloc _⟩
theorem Kz (s:ByteArray) (w:World) (h6:6<=s.size) (hn0:g s 0=82) (hn:g s 1≠85) (hs:s.size<=8006):Calls Tryz.prog 53 #[.string s] w fun e w'=>j6 s w w' e/\Mod (fun _=>False) w w':=by
 have HR:Hid (aW s=false):=show aW s=false by simp[aW,hn]
 have h0:0 < s.size:=by omega
 have h1:1 < s.size:=by omega
 have i6:¬ (s.size:Int) < 6:=by omega
 have b0:(((s[0]'h0).toNat:Int) != 82)=false:=rP (m:=82) (by rw[dB h0]at hn0;exact hn0)
 have b1:(((s[1]'h1).toNat:Int) != 85)=true:=CO (m:=85) (by rw[dB h1]at hn;exact hn)
 clear hn hn0
 go_in
 go_wp2
 exact bodyPost_ret (v:=.tuple #[.agg #[.int .u8 0,.int .u8 0,.slice none 0 0],.bool false]) (by simp[results,Tryz.results53,go_sem]) rfl ⟨.inl ⟨HR.out,rfl⟩,(Mod.refl _ w).alloc _⟩
attribute [local go_sem] yN
theorem KA (s:ByteArray) (w:World) (h6:6<=s.size) (hn0:g s 0=82) (hn1:g s 1=85) (hn:¬ (1<=g s 2/\g s 2<=128/\g s 3<=32)) (hs:s.size<=8006):Calls Tryz.prog 53 #[.string s] w fun e w'=>j6 s w w' e/\Mod (fun _=>False) w w':=by
 have HR:Hid (aW s=false):=show aW s=false by
  cases h:aW s with
  | false=>rfl
  | true=>exact absurd ⟨(kD h).2.2.2.2.1,(kD h).2.2.2.2.2.1,(kD h).2.2.2.2.2.2⟩ hn
 have h0:0 < s.size:=by omega
 have h1:1 < s.size:=by omega
 have h2:2 < s.size:=by omega
 have h3:3 < s.size:=by omega
 have i6:¬ (s.size:Int) < 6:=by omega
 have b0:(((s[0]'h0).toNat:Int) != 82)=false:=rP (m:=82) (by rw[dB h0]at hn0;exact hn0)
 have b1:(((s[1]'h1).toNat:Int) != 85)=false:=rP (m:=85) (by rw[dB h1]at hn1;exact hn1)
 have j2:(2:Int) < (s.size:Int):=by omega
 have j3:(3:Int) < (s.size:Int):=by omega
 have l2:=(s[2]'h2).toNat_lt
 have l3:=(s[3]'h3).toNat_lt
 clear hn0 hn1
 rw[dB h2,dB h3]at hn
 by_cases ha:(s[2]'h2).toNat < 1
 ·have q2:((s[2]'h2).toNat:Int) < 1:=by omega
  clear hn
  go_in
  go_wp2
  go_region
  go_wp2
  exact bodyPost_ret (v:=.tuple #[.agg #[.int .u8 0,.int .u8 0,.slice none 0 0],.bool false]) (by simp[results,Tryz.results53,go_sem]) rfl ⟨.inl ⟨HR.out,rfl⟩,(((Mod.refl _ w).alloc _).alloc _).drew⟩
 ·have q2:¬ ((s[2]'h2).toNat:Int) < 1:=by omega
  by_cases hb:128 < (s[2]'h2).toNat
  ·have q3:(128:Int) < ((s[2]'h2).toNat:Int):=by omega
   clear hn
   go_in
   go_wp2
   go_region
   go_wp2
   exact bodyPost_ret (v:=.tuple #[.agg #[.int .u8 0,.int .u8 0,.slice none 0 0],.bool false]) (by simp[results,Tryz.results53,go_sem]) rfl ⟨.inl ⟨HR.out,rfl⟩,(((Mod.refl _ w).alloc _).alloc _).drew⟩
  ·have q3:¬ (128:Int) < ((s[2]'h2).toNat:Int):=by omega
   have q4:(32:Int) < ((s[3]'h3).toNat:Int):=by omega
   clear hn
   go_in
   go_wp2
   go_region
   go_wp2
   exact bodyPost_ret (v:=.tuple #[.agg #[.int .u8 0,.int .u8 0,.slice none 0 0],.bool false]) (by simp[results,Tryz.results53,go_sem]) rfl ⟨.inl ⟨HR.out,rfl⟩,(((Mod.refl _ w).alloc _).alloc _).drew⟩
theorem KC (s:ByteArray) (w:World) (h6:6<=s.size) (hn0:g s 0=82) (hn1:g s 1=85) (ha:1<=g s 2) (hb:g s 2<=128) (hc:g s 3<=32) (hn:2000 < g s 5*256+g s 4) (hs:s.size<=8006):Calls Tryz.prog 53 #[.string s] w fun e w'=>j6 s w w' e/\Mod (fun _=>False) w w':=by
 have HR:Hid (aW s=false):=show aW s=false by
  cases h:aW s with
  | false=>rfl
  | true=>have:=kD h;omega
 have h0:0 < s.size:=by omega
 have h1:1 < s.size:=by omega
 have h2:2 < s.size:=by omega
 have h3:3 < s.size:=by omega
 have i6:¬ (s.size:Int) < 6:=by omega
 have b0:(((s[0]'h0).toNat:Int) != 82)=false:=rP (m:=82) (by rw[dB h0]at hn0;exact hn0)
 have b1:(((s[1]'h1).toNat:Int) != 85)=false:=rP (m:=85) (by rw[dB h1]at hn1;exact hn1)
 have j2:(2:Int) < (s.size:Int):=by omega
 have j3:(3:Int) < (s.size:Int):=by omega
 have l2:=(s[2]'h2).toNat_lt
 have l3:=(s[3]'h3).toNat_lt
 clear hn0 hn1
 have h4:4 < s.size:=by omega
 have h5:5 < s.size:=by omega
 have j4:(4:Int) < (s.size:Int):=by omega
 have j5:(5:Int) < (s.size:Int):=by omega
 have l4:=(s[4]'h4).toNat_lt
 have l5:=(s[5]'h5).toNat_lt
 have q2:¬ ((s[2]'h2).toNat:Int) < 1:=by rw[dB h2]at ha;omega
 have q3:¬ (128:Int) < ((s[2]'h2).toNat:Int):=by rw[dB h2]at hb;omega
 have q4:¬ (32:Int) < ((s[3]'h3).toNat:Int):=by rw[dB h3]at hc;omega
 have q5:(2000:Int) < ((s[4]'h4).toNat:Int)+256*((s[5]'h5).toNat:Int):=by rw[dB h4,dB h5]at hn;omega
 clear hn ha hb hc
 go_in
 go_wp2
 go_region
 go_wp2_with fail
 go_quiet (fail)
 go_wp2
 exact bodyPost_ret (v:=.tuple #[.agg #[.int .u8 0,.int .u8 0,.slice none 0 0],.bool false]) (by simp[results,Tryz.results53,go_sem]) rfl ⟨.inl ⟨HR.out,rfl⟩,((((((Mod.refl _ w).alloc _).alloc _).drewN _).setCell _ _ (fun h=>absurd h (Nat.lt_irrefl _))).setCell _ _ (fun h=>absurd h (Nat.lt_irrefl _))).setCell _ _ (fun h=>absurd h (Nat.lt_irrefl _))⟩
theorem KD (s:ByteArray) (w:World) (h6:6<=s.size) (hn0:g s 0=82) (hn1:g s 1=85) (ha:1<=g s 2) (hb:g s 2<=128) (hc:g s 3<=32) (hd:g s 5*256+g s 4<=2000) (hn:s.size≠6+4*(g s 5*256+g s 4)) (hs:s.size<=8006):Calls Tryz.prog 53 #[.string s] w fun e w'=>j6 s w w' e/\Mod (fun _=>False) w w':=by
 have HR:Hid (aW s=false):=show aW s=false by
  cases h:aW s with
  | false=>rfl
  | true=>have:=kD h;omega
 have h0:0 < s.size:=by omega
 have h1:1 < s.size:=by omega
 have h2:2 < s.size:=by omega
 have h3:3 < s.size:=by omega
 have i6:¬ (s.size:Int) < 6:=by omega
 have b0:(((s[0]'h0).toNat:Int) != 82)=false:=rP (m:=82) (by rw[dB h0]at hn0;exact hn0)
 have b1:(((s[1]'h1).toNat:Int) != 85)=false:=rP (m:=85) (by rw[dB h1]at hn1;exact hn1)
 have j2:(2:Int) < (s.size:Int):=by omega
 have j3:(3:Int) < (s.size:Int):=by omega
 have l2:=(s[2]'h2).toNat_lt
 have l3:=(s[3]'h3).toNat_lt
 clear hn0 hn1
 have h4:4 < s.size:=by omega
 have h5:5 < s.size:=by omega
 have j4:(4:Int) < (s.size:Int):=by omega
 have j5:(5:Int) < (s.size:Int):=by omega
 have l4:=(s[4]'h4).toNat_lt
 have l5:=(s[5]'h5).toNat_lt
 have q2:¬ ((s[2]'h2).toNat:Int) < 1:=by rw[dB h2]at ha;omega
 have q3:¬ (128:Int) < ((s[2]'h2).toNat:Int):=by rw[dB h2]at hb;omega
 have q4:¬ (32:Int) < ((s[3]'h3).toNat:Int):=by rw[dB h3]at hc;omega
 have q5:¬ (2000:Int) < ((s[4]'h4).toNat:Int)+256*((s[5]'h5).toNat:Int):=by rw[dB h4,dB h5]at hd;omega
 have q6:((s.size:Int) != (6:Int)+(4:Int)*(((s[4]'h4).toNat:Int)+(256:Int)*((s[5]'h5).toNat:Int)))=true:=by rw[dB h4,dB h5]at hn;simp;omega
 clear hn ha hb hc hd
 go_in
 go_wp2
 go_region
 go_wp2_with fail
 go_quiet (fail)
 go_wp2
 exact bodyPost_ret (v:=.tuple #[.agg #[.int .u8 0,.int .u8 0,.slice none 0 0],.bool false]) (by simp[results,Tryz.results53,go_sem]) rfl ⟨.inl ⟨HR.out,rfl⟩,((((((Mod.refl _ w).alloc _).alloc _).drewN _).setCell _ _ (fun h=>absurd h (Nat.lt_irrefl _))).setCell _ _ (fun h=>absurd h (Nat.lt_irrefl _))).setCell _ _ (fun h=>absurd h (Nat.lt_irrefl _))⟩
end Go.Proofs.YtmnfndpbblpjiabGreatDoor

/- The program's splitCode: a code that begins right. -/
namespace Go.Proofs.YtmnfndpbblpjiabGreatDoor
open Go.RowKit Pu
attribute [local go_sem] F8 F9 Gb Gc
attribute [local go_sem] yN LD LG LH
theorem EB {w:World} {b:Nat} {x y z z':Value} {ty:TypeId} (h:w.heap[b]?=some (.cells #[x,y,z] ty (0,0))):(w.setCell ⟨b,2,none⟩ z').heap[b]?=some (.cells #[x,y,z'] ty (0,0)):=by
 simp[World.setCell,Array.getElem?_modify,h]
theorem Sy {w:World} {b:Nat} {x y z z':Value} {ty:TypeId} (h:w.heap[b]?=some (.cells #[x,y,z] ty (0,0))):(w.setCell ⟨b,0,none⟩ z').heap[b]?=some (.cells #[z',y,z] ty (0,0)):=by
 simp[World.setCell,Array.getElem?_modify,h]
theorem Sz {w:World} {b:Nat} {x y z z':Value} {ty:TypeId} (h:w.heap[b]?=some (.cells #[x,y,z] ty (0,0))):(w.setCell ⟨b,1,none⟩ z').heap[b]?=some (.cells #[x,z',z] ty (0,0)):=by
 simp[World.setCell,Array.getElem?_modify,h]
def gL (w:World) (b:Nat) (x y z:Value):World:=((w.setCell ⟨b,0,none⟩ x).setCell ⟨b,1,none⟩ y).setCell ⟨b,2,none⟩ z
theorem wU (w:World) (b:Nat) (x y z:Value):Mod (fun q=>q=b) w (gL w b x y z):=by
 have h0:Mod (fun q=>q=b) w (w.setCell ⟨b,0,none⟩ x):=(Mod.refl _ w).setCell ⟨b,0,none⟩ x (fun _=>rfl)
 have h1:=h0.setCell ⟨b,1,none⟩ y (fun _=>rfl)
 exact h1.setCell ⟨b,2,none⟩ z (fun _=>rfl)
theorem qz {p:Nat->Prop} {a w:World} (h:Mod p a w) (b:Nat) (x y z:Value) (hb:a.heap.size<=b):Mod p a (gL w b x y z):=by
 have h0:=h.setCell ⟨b,0,none⟩ x (fun h=>absurd h (Nat.not_lt.2 hb))
 have h1:=h0.setCell ⟨b,1,none⟩ y (fun h=>absurd h (Nat.not_lt.2 hb))
 exact h1.setCell ⟨b,2,none⟩ z (fun h=>absurd h (Nat.not_lt.2 hb))
theorem dD {w:World} {b:Nat} {x y z x' y' z':Value} {ty:TypeId} (h:w.heap[b]?=some (.cells #[x,y,z] ty (0,0))):(gL w b x' y' z').heap[b]?=some (.cells #[x',y',z'] ty (0,0)):=EB (Sz (Sy h))
theorem dN {w:World} {b:Nat} {C:Array Value} {ty:TypeId} (h:w.heap[b]?=some (.cells C ty (0,0))) (i:Nat):w.frozen? ⟨b,i,none⟩=false:=by simp[World.frozen?,h]
theorem SF (s:ByteArray) (w:World) (h6:6<=s.size) (hn0:g s 0=82) (hn1:g s 1=85) (ha:1<=g s 2) (hb:g s 2<=128) (hc:g s 3<=32) (hd:g s 5*256+g s 4<=2000) (hn:s.size=6+4*(g s 5*256+g s 4)) (hs:s.size<=8006):Calls Tryz.prog 53 #[.string s] w fun e w'=>j6 s w w' e/\Mod (fun _=>False) w w':=by
 have HR:Hid (aW s=true):=show aW s=true by simp[aW,h6,hn0,hn1,ha,hb,hc,hd];exact hn
 have hns:fI s<=2000:=(kD HR.out).2.2.1
 obtain⟨i0,hi,hz0,hz1,hz2⟩:=info_parts Tryz.infoSt
 have h0:0 < s.size:=by omega
 have h1:1 < s.size:=by omega
 have h2:2 < s.size:=by omega
 have h3:3 < s.size:=by omega
 have i6:¬ (s.size:Int) < 6:=by omega
 have b0:(((s[0]'h0).toNat:Int) != 82)=false:=rP (m:=82) (by rw[dB h0]at hn0;exact hn0)
 have b1:(((s[1]'h1).toNat:Int) != 85)=false:=rP (m:=85) (by rw[dB h1]at hn1;exact hn1)
 have j2:(2:Int) < (s.size:Int):=by omega
 have j3:(3:Int) < (s.size:Int):=by omega
 have l2:=(s[2]'h2).toNat_lt
 have l3:=(s[3]'h3).toNat_lt
 clear hn0 hn1
 have h4:4 < s.size:=by omega
 have h5:5 < s.size:=by omega
 have j4:(4:Int) < (s.size:Int):=by omega
 have j5:(5:Int) < (s.size:Int):=by omega
 have l4:=(s[4]'h4).toNat_lt
 have l5:=(s[5]'h5).toNat_lt
 have q2:¬ ((s[2]'h2).toNat:Int) < 1:=by rw[dB h2]at ha;omega
 have q3:¬ (128:Int) < ((s[2]'h2).toNat:Int):=by rw[dB h2]at hb;omega
 have q4:¬ (32:Int) < ((s[3]'h3).toNat:Int):=by rw[dB h3]at hc;omega
 have q5:¬ (2000:Int) < ((s[4]'h4).toNat:Int)+256*((s[5]'h5).toNat:Int):=by rw[dB h4,dB h5]at hd;omega
 have q6:((s.size:Int) != (6:Int)+(4:Int)*(((s[4]'h4).toNat:Int)+(256:Int)*((s[5]'h5).toNat:Int)))=false:=by rw[dB h4,dB h5]at hn;simp;omega
 have HG2:Hid (g s 2=(s[2]'h2).toNat):=dB h2
 have Tm:Hid (g s 3=(s[3]'h3).toNat):=dB h3
 clear hn ha hb hc hd
 go_in
 go_wp2
 go_region
 go_wp2_with fail
 go_quiet (fail)
 go_wp2_with fail
 go_loopw [6] (fun i wr=>∃ (k j:Nat) (v:Value),k<=fI s/\Hid (j=6+4*k)/\i=.int .i64 j/\wr.heap[w.heap.size]?=some (.cells #[.int .u8 0,.int .u8 0,.slice none 0 0] 63 (0,0))/\wr.heap[w.heap.size+1]?=some (.cells #[.int .u8 (s[2]'h2).toNat,.int .u8 (s[3]'h3).toNat,v] 63 (0,0))/\gM wr (w.heap.size+2) v (jN s k)/\Mod (fun _=>False) w wr) (fun i _=>s.size - (intOf i).toNat)
 case atStart=>exact⟨0,6,.slice none 0 0,by omega,rfl,rfl,by simpa using (dJ w _ _).1,by simpa using (dJ w _ _).2,World.ownsRow_nil _ _ _ _,(((Mod.refl _ _).alloc _).alloc _).drewN _⟩
 case round =>
  obtain⟨k,j,v,hk,HJ,rfl,hb0,hb1,hL,hm⟩:=hrel
  have hsz:=hm.size
  unfold gM at hL
  rw[bU]at hL
  have hn1:4*fI s<=s.size - 6:=by unfold fI;omega
  have hn2:s.size - 6 < 4*fI s+4:=by unfold fI;omega
  have hj:4*k<=j:=by have:=HJ.out;omega
  have hj2:j<=4*k+6:=by have:=HJ.out;omega
  obtain⟨ao,cap,rfl,-⟩:=aj hL
  have hlt1:=lt_of_block hb1
  by_cases hlt:k < fI s
  ·have k3:j+3 < s.size:=by have:=HJ.out;omega
   have k0:j < s.size:=by omega
   have k1:j+1 < s.size:=by omega
   have k2:j+2 < s.size:=by omega
   have HT:Hid (fO (bV s k)=[.int .u8 s[j].toNat,.int .u8 s[j+1].toNat,.int .u8 s[j+2].toNat,.int .u8 s[j+3].toNat]):=show fO (bV s k)=[.int .u8 s[j].toNat,.int .u8 s[j+1].toNat,.int .u8 s[j+2].toNat,.int .u8 s[j+3].toNat] by
    rw[<- dB k0,<- dB k1,<- dB k2,<- dB k3,HJ.out];rfl
   have i0a:(0:Int)<=(j:Int):=by omega
   have i0b:(j:Int) < (s.size:Int):=by omega
   have i1b:(j:Int)+1 < (s.size:Int):=by omega
   have i2b:(j:Int)+2 < (s.size:Int):=by omega
   have i3b:(j:Int)+3 < (s.size:Int):=by omega
   have i4b:(j:Int)+4<=(s.size:Int):=by omega
   have i1a:(0:Int)<=(j:Int)+1:=by omega
   have i2a:(0:Int)<=(j:Int)+2:=by omega
   have i3a:(0:Int)<=(j:Int)+3:=by omega
   have hjb:j<=100000:=by omega
   obtain⟨c0,c1,c2⟩:=cells3 hb1
   have f2:=dN hb1 2
   clear hn1 hn2
   go_wp2
   go_region
   have hL1:=(hL.alloc (.cells #[.int .u8 s[j].toNat,.int .u8 s[j+1].toNat,.int .u8 s[j+2].toNat,.int .u8 s[j+3].toNat] 94)).drew
   go_wp2_with (at_builtin;refine wpList_append_own _ rfl _ _ 61 rfl (w.heap.size+2) 94 i0 _ 4 4 Tryz.underlying61 hi hz0 hz1 hz2 rfl (by decide) _ _ _ rfl (hL1.alloc _) ⟨wr.heap.size+1,0,none⟩ 1 1 [.int .u8 s[j].toNat,.int .u8 s[j+1].toNat,.int .u8 s[j+2].toNat,.int .u8 s[j+3].toNat] rfl rfl ?c1 ?c2 ?c3 ?c4 ?c5 ?_)
   case c1=>exact World.news_of_block (cs:=#[.int .u8 s[j].toNat,.int .u8 s[j+1].toNat,.int .u8 s[j+2].toNat,.int .u8 s[j+3].toNat]) (t:=94) (fr:=(0,0)) (dJ wr _ _).2
   case c2=>simp[Value.oneCell']
   case c3=>unfold maxLen;omega
   case c4=>omega
   case c5=>simp;omega
   intro v' w4 aG hgrow _
   have hgm:Mod (fun i=>w.heap.size+2<=i) wr w4:=((((Mod.refl _ wr).alloc _).drew).alloc _).grown hgrow (fun i hi _=>(hL.lt i hi).1)
   have aaH:=hgm.keep hb0 (by omega)
   have hb1':=hgm.keep hb1 (by omega)
   have aO:Mod (fun _=>False) w w4:=⟨hgm.os.trans hm.os,hgm.tape.trans hm.tape,hgm.output.trans hm.output,Nat.le_trans hm.size hgm.size,fun i hi _=>(hgm.block i (by omega) (by omega)).trans (hm.block i hi (fun f=>f))⟩
   obtain⟨O6,cap',rfl,-⟩:=aj aG
   obtain⟨d0,d1,d2⟩:=cells3 hb1'
   have f2':=dN hb1' 2
   have hown5:gM (w4.setCell ⟨w.heap.size+1,2,none⟩ (.slice O6 (k+1) cap')) (w.heap.size+2) (.slice O6 (k+1) cap') (jN s (k+1)):=by
    unfold gM;rw[bU,wY,<- pJ,HT.out]
    exact au aG ((Mod.refl (fun q=>q=w.heap.size+1) w4).setCell _ _ (fun _=>rfl)) (fun g h1 h2=>by omega)
   have HB0:Hid ((w4.setCell ⟨w.heap.size+1,2,none⟩ (.slice O6 (k+1) cap')).heap[w.heap.size]?=some (.cells #[.int .u8 0,.int .u8 0,.slice none 0 0] 63 (0,0))) :=
    ((Mod.refl (fun q=>q=w.heap.size+1) w4).setCell _ _ (fun _=>rfl)).keep aaH (by omega)
   have HB1:Hid ((w4.setCell ⟨w.heap.size+1,2,none⟩ (.slice O6 (k+1) cap')).heap[w.heap.size+1]?=some (.cells #[.int .u8 (s[2]'h2).toNat,.int .u8 (s[3]'h3).toNat,.slice O6 (k+1) cap'] 63 (0,0))):=EB (z':=.slice O6 (k+1) cap') hb1'
   have jH:Mod (fun _=>False) w (w4.setCell ⟨w.heap.size+1,2,none⟩ (.slice O6 (k+1) cap')):=aO.setCell _ _ (fun h=>absurd h (by simp))
   clear aG hgrow hgm hL hL1 hm aO hb0 hb1 aaH hb1' c0 c1 c2 f2
   go_wp2
   go_roundw
   case rel=>exact⟨k+1,j+4,_,by omega,show j+4=6+4*(k+1) by have:=HJ.out;omega,by go_num,HB0.out,HB1.out,hown5,jH⟩
   case measure=>simp[intOf];omega
  ·have hks:k=fI s:=by omega
   have hjs:s.size<=j+3:=by have:=HJ.out;omega
   subst hks
   obtain⟨c0,c1,c2⟩:=cells3 hb1
   obtain⟨d0,d1,d2⟩:=cells3 hb0
   have e0:=dN hb0 0
   have e1:=dN hb0 1
   have e2:=dN hb0 2
   have hL5:=bI (base':=w.heap.size) (au hL (wU wr w.heap.size (.int .u8 (s[2]'h2).toNat) (.int .u8 (s[3]'h3).toNat) (.slice ao (fI s) cap)) (fun g h1 h2=>by omega)) (by omega)
   have aO:=qz hm w.heap.size (.int .u8 (s[2]'h2).toNat) (.int .u8 (s[3]'h3).toNat) (.slice ao (fI s) cap) (Nat.le_refl _)
   have HC:Hid _:=cells3 (dD (x':=.int .u8 (s[2]'h2).toNat) (y':=.int .u8 (s[3]'h3).toNat) (z':=.slice ao (fI s) cap) hb0)
   have HE:Hid (j6 s w (gL wr w.heap.size (.int .u8 (s[2]'h2).toNat) (.int .u8 (s[3]'h3).toNat) (.slice ao (fI s) cap)) (.returned (.tuple #[.agg #[.int .u8 (s[2]'h2).toNat,.int .u8 (s[3]'h3).toNat,.slice ao (fI s) cap],.bool true]))):=.inr ⟨HR.out,.slice ao (fI s) cap,by rw[HG2.out,Tm.out],by unfold gM;rw[steps,bU];exact hL5⟩
   clear hL5 hL
   go_wp2_with fail
   obtain⟨g0,g1,g2⟩:=HC.out
   unfold gL at g0 g1 g2
   exact bodyPost_ret (v:=.tuple #[.agg #[.int .u8 (s[2]'h2).toNat,.int .u8 (s[3]'h3).toNat,.slice ao (fI s) cap],.bool true]) (by simp[results,Tryz.results53,go_sem,g0,g1,g2]) rfl ⟨HE.out,aO⟩
theorem Om (s:ByteArray) (w:World) (hs:s.size<=8006):Calls Tryz.prog 53 #[.string s] w fun e w'=>j6 s w w' e/\Mod (fun _=>False) w w':=by
 by_cases h6:6<=s.size
 ·by_cases n0:g s 0=82
  ·by_cases n1:g s 1=85
   ·by_cases n2:1<=g s 2/\g s 2<=128/\g s 3<=32
    ·by_cases n3:g s 5*256+g s 4<=2000
     ·by_cases n4:s.size=6+4*(g s 5*256+g s 4)
      ·exact SF s w h6 n0 n1 n2.1 n2.2.1 n2.2.2 n3 n4 hs
      ·exact KD s w h6 n0 n1 n2.1 n2.2.1 n2.2.2 n3 n4 hs
     ·exact KC s w h6 n0 n1 n2.1 n2.2.1 n2.2.2 (by omega) hs
    ·exact KA s w h6 n0 n1 n2 hs
   ·exact Kz s w h6 n0 n1 hs
  ·exact Ky s w h6 n0 hs
 ·exact KE s w (by omega)
end Go.Proofs.YtmnfndpbblpjiabGreatDoor

/- The program's decode. -/
namespace Go.Proofs.YtmnfndpbblpjiabGreatDoor
open Go.RowKit Pu
def Dx (s:ByteArray) (w w':World) (e:Ending):Prop :=
 ∃ (a b:Nat) (ao:Option Addr) (n cap:Nat),e=.returned (.tuple #[.agg #[.int .u8 a,.int .u8 b,.slice ao n cap],.int .i64 (lU s).1,.int .i64 (lU s).2]) /\
  ((lU s).1=0->a=g s 2/\b=g s 3/\aW s=true/\(∀ j,j < fI s->dI (steps s) j (bV s j) (g s 2) (g s 3)=true)/\gM w' w.heap.size (.slice ao n cap) (steps s))
theorem Tryz.marks0:Tryz.zeroCells98=aH (fun _=>false):=by rw[Gt];kernel_rfl
theorem aaW {w:World} {b:Nat} {M:Nat->Bool} (r:Nat) (v:Bool) (h:w.heap[b]?=some (.cells (aH M) 98 (0,0))):(w.setCell ⟨b,r,none⟩ (.bool v)).heap[b]?=some (.cells (aH (fun i=>if i=r then v else M i)) 98 (0,0)):=by
 rw[<- JM]
 simp[World.setCell,Array.getElem?_modify,h]
theorem FB (s:ByteArray) (w:World) (hs:8006 < s.size) (hm:s.size<=maxLen):Calls Tryz.prog 34 #[.string s] w fun e w'=>e=.returned (.tuple #[.agg #[.int .u8 0,.int .u8 0,.slice none 0 0],.int .i64 1,.int .i64 0])/\Mod (fun _=>False) w w':=by
 unfold maxLen at hm
 go_in
 go_wp2
 exact bodyPost_ret (v:=.tuple #[.agg #[.int .u8 0,.int .u8 0,.slice none 0 0],.int .i64 1,.int .i64 0]) (by simp[results,Tryz.results34,go_sem]) rfl ⟨rfl,(Mod.refl _ w).alloc _⟩
theorem vS (s:ByteArray) (w:World) (hs:s.size<=8006):Calls Tryz.prog 34 #[.string s] w fun e w'=>Dx s w w' e/\Mod (fun _=>False) w w':=by
 have hz:=Tryz.marks0
 have HZ:Hid (Tryz.zeroCells98=aH (fun _=>false)):=hz
 clear hz
 go_in
 go_wp2_with fail
 refine (Om s _ hs).mono ?_
 rintro e w1 ⟨⟨hb,rfl⟩ | ⟨hb,v,rfl,hL⟩,hm1⟩
 ·have HV:Hid (lU s=(8,0)):=xq hb
  clear hb
  have hz0:=hm1.keep (heap_alloc_new w (.cells #[.int .u8 0,.int .u8 0,.slice none 0 0] 63)) (fun f=>f)
  obtain⟨c0,c1,c2⟩:=cells3 hz0
  have e0:=dN hz0 0
  have e1:=dN hz0 1
  have e2:=dN hz0 2
  have hlt:=lt_of_block hz0
  have hmw:Mod (fun _=>False) w w1:=((Mod.refl _ w).alloc _).trans hm1
  have aO:=(qz hmw w.heap.size (.int .u8 0) (.int .u8 0) (.slice none 0 0) (Nat.le_refl _)).alloc (.cells #[.int .u8 0,.int .u8 0,.slice none 0 0] 63)
  have HC:Hid _:=cells3 (((Mod.refl (fun _=>False) _).alloc (.cells #[.int .u8 0,.int .u8 0,.slice none 0 0] 63)).keep (dD (x':=.int .u8 0) (y':=.int .u8 0) (z':=.slice none 0 0) hz0) (fun f=>f))
  have HE:Hid (Dx s w ((gL w1 w.heap.size (.int .u8 0) (.int .u8 0) (.slice none 0 0)).alloc (.cells #[.int .u8 0,.int .u8 0,.slice none 0 0] 63)) (.returned (.tuple #[.agg #[.int .u8 0,.int .u8 0,.slice none 0 0],.int .i64 8,.int .i64 0]))) :=
   ⟨0,0,none,0,0,by rw[HV.out];rfl,fun h=>by rw[HV.out]at h;cases h⟩
  clear hz0
  go_wp2_with fail
  obtain⟨g0,g1,g2⟩:=HC.out
  unfold gL at g0 g1 g2
  exact bodyPost_ret (v:=.tuple #[.agg #[.int .u8 0,.int .u8 0,.slice none 0 0],.int .i64 8,.int .i64 0]) (by simp[results,Tryz.results34,go_sem,g0,g1,g2]) rfl ⟨HE.out,aO⟩
 ·have hlen:(steps s).length=fI s:=bU s _
  have HLen:Hid ((steps s).length=fI s):=hlen
  have HB:Hid (aW s=true):=hb
  have hns:fI s<=2000:=(kD hb).2.2.1
  have l2:=rW s 2
  have l3:=rW s 3
  unfold gM at hL
  rw[hlen]at hL
  clear hb hlen
  obtain⟨ao,cap,rfl,-⟩:=aj hL
  have hz0:=hm1.keep (heap_alloc_new w (.cells #[.int .u8 0,.int .u8 0,.slice none 0 0] 63)) (fun f=>f)
  have hlt:=lt_of_block hz0
  have hmw:Mod (fun _=>False) w w1:=((Mod.refl _ w).alloc _).trans hm1
  clear hm1
  have hsw:=hmw.size
  generalize hr2:g s 2=r2 at *
  generalize hr3:g s 3=r3 at *
  have HR2:Hid (g s 2=r2):=hr2
  have HR3:Hid (g s 3=r3):=hr3
  clear hr2 hr3
  have hm2:Mod (fun _=>False) w1 (w1.alloc (.cells #[.int .u8 r2,.int .u8 r3,.slice ao (fI s) cap] 63)):=(Mod.refl _ w1).alloc _
  have hp2:(w1.alloc (.cells #[.int .u8 r2,.int .u8 r3,.slice ao (fI s) cap] 63)).heap[w1.heap.size]?=some (.cells #[.int .u8 r2,.int .u8 r3,.slice ao (fI s) cap] 63 (0,0)):=heap_alloc_new w1 _
  have hL2:=au hL hm2 (fun _ _ f=>f)
  have hz2:=hm2.keep hz0 (fun f=>f)
  have uG:=hmw.trans hm2
  have hmb:((w1.alloc (.cells #[.int .u8 r2,.int .u8 r3,.slice ao (fI s) cap] 63)).alloc (.cells Tryz.zeroCells98 98)).heap[w1.heap.size+1]?=some (.cells (aH (Set (steps s) 0)) 98 (0,0)):=by
   rw[zT,<- HZ.out];exact (dJ w1 _ _).2
  have HMB:Hid _:=hmb
  clear hmb
  have hsz2:(w1.alloc (.cells #[.int .u8 r2,.int .u8 r3,.slice ao (fI s) cap] 63)).heap.size=w1.heap.size+1:=by simp
  have HS2:Hid ((w1.alloc (.cells #[.int .u8 r2,.int .u8 r3,.slice ao (fI s) cap] 63)).heap.size=w1.heap.size+1):=hsz2
  clear hsz2
  have HHs:Hid _:=zI hp2 (zI hL2 (zI hz2 uG))
  clear hp2 hL2 hz2 uG hm2
  go_wp2_with fail
  generalize hw2:w1.alloc (.cells #[.int .u8 r2,.int .u8 r3,.slice ao (fI s) cap] 63)=w2 at *
  clear hw2
  obtain⟨hp2,hL2,hz2,uG⟩:=HHs.out
  clear HHs hL hz0 hmw
  go_loopw [25] (fun i wr=>∃ k:Nat,k<=fI s/\i=.int .i64 k/\wr.heap[w1.heap.size+1]?=some (.cells (aH (Set (steps s) k)) 98 (0,0))/\Mod (fun _=>False) w2 wr/\Hid (∀ j,j < k->dI (steps s) j (bV s j) (g s 2) (g s 3)=true)) (fun i _=>fI s - (intOf i).toNat)
  case atStart=>exact⟨0,by omega,rfl,HMB.out,(Mod.refl _ _).alloc _,fun j hj=>by omega⟩
  case round =>
   clear HMB
   obtain⟨k,hk,rfl,hM,hmr,HN⟩:=hrel
   have hsr:w1.heap.size+1<=wr.heap.size:=by have:=hmr.size;rw[HS2.out]at this;exact this
   have hp:=hmr.keep hp2 (fun f=>f)
   have hz:=hmr.keep hz2 (fun f=>f)
   have hL:=au hL2 hmr (fun _ _ f=>f)
   by_cases hlt:k < fI s
   ·have hkl:k < (steps s).length:=by rw[HLen.out];exact hlt
    have hLT:gM wr (w.alloc (.cells #[.int .u8 0,.int .u8 0,.slice none 0 0] 63)).heap.size (.slice ao (fI s) cap) (steps s):=by unfold gM;rw[HLen.out];exact hL
    have Yh:=hLT
    rw[<- HLen.out]at Yh
    obtain⟨gb,hao,a0,a1,a2,a3⟩:=Yh.cell hkl
    subst hao
    rw[jI]at a0 a1 a2 a3
    clear hLT Yh
    have HSt:Hid (Small (bV s k)):=kN s k
    have hst:Small (bV s k):=kN s k
    obtain⟨s1,s2',s3,s4⟩:=hst
    have HF:Hid (dI (steps s) k (bV s k) (g s 2) (g s 3)=BQ (Set (steps s) k) (bV s k) (g s 2) (g s 3)):=Oe _ _ _ _ _ (LY (by omega) (fun j hj=>by rw[jI];exact HN.out j hj))
    rw[HR2.out,HR3.out]at HF
    have HSY:Hid ((bV s k).op<=5->Set (steps s) (k+1)=fun r=>if r=(bV s k).x then true else Set (steps s) k r):=fun h=>by
     have:=Dz hkl (by rw[jI];exact h);rw[jI]at this;exact this
    have HSN:Hid (¬ (bV s k).op<=5->Set (steps s) (k+1)=Set (steps s) k):=fun h=>IZ hkl (by rw[jI];exact h)
    generalize ht:bV s k=t at *
    have HT:Hid (bV s k=t):=ht
    clear ht
    have hms:=aU (Set (steps s) k)
    have hfit:=fun w=>EI t r2 r3 (some ⟨gb,0,none⟩) (fI s) cap (Set (steps s) k) w HSt.out l2 l3
    have HM:Hid (wr.heap[w1.heap.size+1]?=some (.cells (aH (Set (steps s) k)) 98 (0,0))):=hM
    clear hM
    have hMa:(wr.alloc (.cells #[.int .u8 t.op,.int .u8 t.x,.int .u8 t.y,.int .u8 t.z] 94)).heap[w1.heap.size+1]?=some (.cells (aH (Set (steps s) k)) 98 (0,0)):=((Mod.refl (fun _=>False) wr).alloc _).keep HM.out (fun f=>f)
    have Fg:Hid _:=hMa
    clear hMa
    obtain⟨c0,c1,c2⟩:=cells3 hp
    have hpl:w1.heap.size < wr.heap.size:=lt_of_block hp
    clear hsr
    generalize hbs:BQ (Set (steps s) k) t r2 r3=bs at *
    clear hbs
    go_wp2_with (refine wpList_load_row rfl 98 _ rfl _ rfl (aH (Set (steps s) k)) 98 (0,0) ?hb0 _ Tryz.underlying98 rfl (dH hms) ?_;case hb0=>exact Fg.out)
    refine (hfit _).mono ?_
    rintro e w3 ⟨rfl,aC⟩
    have Tn:Hid (w3.heap[w1.heap.size+1]?=some (.cells (aH (Set (steps s) k)) 98 (0,0))):=aC.keep Fg.out (fun f=>f)
    have YC:=aC.keep (heap_alloc_new wr (.cells #[.int .u8 t.op,.int .u8 t.x,.int .u8 t.y,.int .u8 t.z] 94)) (fun f=>f)
    have Ah:Mod (fun _=>False) w2 w3:=(hmr.alloc _).trans aC
    have hz3:=Ah.keep hz2 (fun f=>f)
    have JB:=uG.trans Ah
    obtain⟨d0,d1,d2,d3⟩:=jD YC
    obtain⟨p0,p1,p2⟩:=cells3 hz3
    have e0:=dN hz3 0
    have e1:=dN hz3 1
    have e2:=dN hz3 2
    have acA:=lt_of_block YC
    have hsx:=fun w=>uf t.op w s1
    clear YC aC Fg HM hfit hz hL hp a0 a1 a2 a3 hmr
    cases bs with
    | false =>
     have HV:Hid (lU s=(8,1+k)):=Tg HB.out hlt (by rw[HT.out,HR2.out,HR3.out];exact HF.out) HN.out
     have aO:=qz JB w.heap.size (.int .u8 0) (.int .u8 0) (.slice none 0 0) (Nat.le_refl _)
     have HC:Hid _:=cells3 (dD (x':=.int .u8 0) (y':=.int .u8 0) (z':=.slice none 0 0) hz3)
     have HE:Hid (Dx s w (gL w3 w.heap.size (.int .u8 0) (.int .u8 0) (.slice none 0 0)) (.returned (.tuple #[.agg #[.int .u8 0,.int .u8 0,.slice none 0 0],.int .i64 8,.int .i64 (1+(k:Int))]))) :=
      ⟨0,0,none,0,0,by rw[HV.out];simp,fun h=>by rw[HV.out]at h;cases h⟩
     clear hz3 HF HN HSY HSN
     go_wp2_with fail
     obtain⟨g0,g1,g2⟩:=HC.out
     unfold gL at g0 g1 g2
     exact bodyPost_ret (v:=.tuple #[.agg #[.int .u8 0,.int .u8 0,.slice none 0 0],.int .i64 8,.int .i64 (1+(k:Int))]) (by simp[results,Tryz.results34,go_sem,g0,g1,g2]) rfl ⟨HE.out,aO⟩
    | true =>
     have Ce:Hid (∀ j,j < k+1->dI (steps s) j (bV s j) (g s 2) (g s 3)=true):=fun j hj=>by
      by_cases e:j=k
      ·subst e;rw[HT.out,HR2.out,HR3.out];exact HF.out
      ·exact HN.out j (by omega)
     clear HN HF hz3 p0 p1 p2 e0 e1 e2
     by_cases h5:t.op<=5
     ·have hS:=HSY.out h5
      have HMS:Hid ((w3.setCell ⟨w1.heap.size+1,t.x,none⟩ (.bool true)).heap[w1.heap.size+1]?=some (.cells (aH (Set (steps s) (k+1))) 98 (0,0))):=show _=_ by
       rw[hS];exact aaW t.x true Tn.out
      have jH:Mod (fun _=>False) w2 (w3.setCell ⟨w1.heap.size+1,t.x,none⟩ (.bool true)):=Ah.setCell _ _ (fun h=>absurd h (by have:=HS2.out;show ¬ w1.heap.size+1 < w2.heap.size;omega))
      have hfz:=dN Tn.out t.x
      have hmg:w3.cell? ⟨w1.heap.size+1,t.x,none⟩=some (.bool (Set (steps s) k t.x)):=by
       have:=tQ (Set (steps s) k) s2'
       simp only[World.cell?,Tn.out];simpa using this
      have ix:(t.x:Int) < 256:=by omega
      clear hS HSY HSN
      go_wp2_with (go_at_call 55;refine (hsx _).mono ?_;rintro e w4 ⟨rfl,rfl⟩)
      go_roundw
      case rel=>exact⟨k+1,by omega,by go_num,HMS.out,jH,Ce⟩
      case measure=>simp[intOf];omega
     ·have hS:=HSN.out h5
      have HMS:Hid (w3.heap[w1.heap.size+1]?=some (.cells (aH (Set (steps s) (k+1))) 98 (0,0))):=show _=_ by
       rw[hS];exact Tn.out
      clear hS HSY HSN
      go_wp2_with (go_at_call 55;refine (hsx _).mono ?_;rintro e w4 ⟨rfl,rfl⟩)
      go_roundw
      case rel=>exact⟨k+1,by omega,by go_num,HMS.out,Ah,Ce⟩
      case measure=>simp[intOf];omega
   ·have hks:k=fI s:=by omega
    subst hks
    have HV:Hid (lU s=(0,0)):=KM HB.out HN.out
    have ach:=uG.trans hmr
    have aO:=qz ach w.heap.size (.int .u8 r2) (.int .u8 r3) (.slice ao (fI s) cap) (Nat.le_refl _)
    have HC:Hid _:=cells3 (dD (x':=.int .u8 r2) (y':=.int .u8 r3) (z':=.slice ao (fI s) cap) hz)
    have hL5:=bI (base':=w.heap.size) (au hL (wU wr w.heap.size (.int .u8 r2) (.int .u8 r3) (.slice ao (fI s) cap)) (fun g h1 h2=>by simp at h1;omega)) (by simp)
    have HE:Hid (Dx s w (gL wr w.heap.size (.int .u8 r2) (.int .u8 r3) (.slice ao (fI s) cap)) (.returned (.tuple #[.agg #[.int .u8 r2,.int .u8 r3,.slice ao (fI s) cap],.int .i64 0,.int .i64 0]))) :=
     ⟨r2,r3,ao,fI s,cap,by rw[HV.out];rfl,fun _=>⟨HR2.out.symm,HR3.out.symm,HB.out,HN.out,by unfold gM;rw[HLen.out];exact hL5⟩⟩
    obtain⟨c0,c1,c2⟩:=cells3 hp
    obtain⟨p0,p1,p2⟩:=cells3 hz
    have e0:=dN hz 0
    have e1:=dN hz 1
    have e2:=dN hz 2
    clear hL5 hL hM HN
    go_wp2_with fail
    obtain⟨g0,g1,g2⟩:=HC.out
    unfold gL at g0 g1 g2
    exact bodyPost_ret (v:=.tuple #[.agg #[.int .u8 r2,.int .u8 r3,.slice ao (fI s) cap],.int .i64 0,.int .i64 0]) (by simp[results,Tryz.results34,go_sem,g0,g1,g2]) rfl ⟨HE.out,aO⟩
end Go.Proofs.YtmnfndpbblpjiabGreatDoor

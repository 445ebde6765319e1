/- A script's steps, gone through: what every statement over scripts shares. -/
import Derived.ProofKit
import Derived.Deep.Slices
import Derived.Lib.SmallJoins
import Derived.Test.YtmnfndpbblpjiaaGreatDoorCards
import Derived.Test.YtmnfndpbblpjiaaGreatDoorTie
import Derived.OpenShut
import Derived.Deep.DeepHandedRow
import Derived.Lib.LaidTab
import Derived.Test.YtmnfndpbblpjiaaGreatDoorZr02
namespace Go.Proofs.YtmnfndpbblpjiaaGreatDoor
open Go.RowKit
abbrev op4 (kd n:Int) (a b:ByteArray):Value:=.agg #[.int .i64 kd,.int .i64 n,.string a,.string b]
def Ope (w:World) (ob:Nat) (kd n:Int) (a b:ByteArray):Prop:=w.heap[ob]?=some (.cells #[.int .i64 kd,.int .i64 n,.string a,.string b] 32 (0,0))
section
variable {w w':World} {ob:Nat} {kd n:Int} {a b:ByteArray}
theorem Ope.c1 (h:Ope w ob kd n a b):w.cell? ⟨ob,1,none⟩=some (.int .i64 n):=by unfold Ope at h;simp [World.cell?,h]
theorem Ope.c2 (h:Ope w ob kd n a b):w.cell? ⟨ob,2,none⟩=some (.string a):=by unfold Ope at h;simp [World.cell?,h]
theorem Ope.c3 (h:Ope w ob kd n a b):w.cell? ⟨ob,3,none⟩=some (.string b):=by unfold Ope at h;simp [World.cell?,h]
theorem Ope.keep {p:Nat→Prop} (h:Ope w ob kd n a b) (hm:Mod p w w') (hp:¬ p ob):Ope w' ob kd n a b:=hm.keep h hp
theorem ope_new (w:World) (kd n:Int) (a b:ByteArray):Ope (w.alloc (.cells #[.int .i64 kd,.int .i64 n,.string a,.string b] 32)) w.heap.size kd n a b:=by
 unfold Ope;show (w.heap.push _)[w.heap.size]?=_;simp
end
def Scr (w:World) (v:Value):Prop:=∃ ao len cap,v=.slice ao len cap∧len≤maxLen∧∀ i,i < len→∃ bk off kd n a b,ao=some ⟨bk,off,none⟩∧bk < w.heap.size ∧
 w.cell? ⟨bk,off+i*4,none⟩=some (.int .i64 kd)∧w.cell? ⟨bk,off+i*4+1,none⟩=some (.int .i64 n)∧w.cell? ⟨bk,off+i*4+2,none⟩=some (.string a)∧w.cell? ⟨bk,off+i*4+3,none⟩=some (.string b) ∧
 a.size≤maxLen∧b.size≤maxLen∧(Lit.int .i64 n).wf=true
set_option maxHeartbeats 400000 in
theorem num_any (n:Int) (w:World):Calls Tryz.prog 25 #[.int .i64 n] w fun e w'=>e=.returned (.int .i64 n)∧w=w':=by
 go_enter Tryz.func25,Tryz.ntmps25
 go_wp2
 go_ret
 exact ⟨rfl,rfl⟩
def Plays (lo hi:Int):Prop:=∀ (kd n:Int) (a b:ByteArray) (w:World),lo≤kd→kd≤hi→a.size≤maxLen→b.size≤maxLen→(Lit.int .i64 n).wf=true →
 Calls Tryz.prog 18 #[op4 kd n a b] w fun e w'=>e=.returned (.bool true)∧Mod (fun _=>False) w w'
set_option maxHeartbeats 1000000 in
set_option maxRecDepth 100000 in
theorem upto_any (v:Value) (lo hi:Int) (w:World) (hS:Scr w v) (hP:Plays lo hi) :
  Calls Tryz.prog 13 #[v,.int .i64 lo,.int .i64 hi] w fun e w'=>e=.returned (.int .i64 (-1))∧Mod (fun _=>False) w w':=by
 obtain ⟨ao,len,cap,rfl,hlen,hc⟩:=hS
 unfold maxLen at hlen
 have HC:Hid (∀ i,i < len→∃ bk off kd n a b,ao=some ⟨bk,off,none⟩∧bk < w.heap.size ∧
  w.cell? ⟨bk,off+i*4,none⟩=some (.int .i64 kd)∧w.cell? ⟨bk,off+i*4+1,none⟩=some (.int .i64 n)∧w.cell? ⟨bk,off+i*4+2,none⟩=some (.string a)∧w.cell? ⟨bk,off+i*4+3,none⟩=some (.string b) ∧
  a.size≤maxLen∧b.size≤maxLen∧(Lit.int .i64 n).wf=true):=hc
 have HP:Hid (Plays lo hi):=hP
 clear hc hP
 go_enter Tryz.func13,Tryz.ntmps13
 go_wp2_with fail
 go_loopw [7] (fun i wr=>∃ k:Nat,k≤len∧i=.int .i64 k∧Mod (fun _=>False) w wr) (fun i _=>len - (intOf i).toNat)
 case atStart=>exact ⟨0,by omega,rfl,Mod.refl _ _⟩
 case round =>
  obtain ⟨k,hk,rfl,hm⟩:=hrel
  by_cases hlt:k < len
  ·obtain ⟨bk,off,kd,n,a,b,rfl,hbk,c0,c1,c2,c3,ha,hb,hn⟩:=HC.out k hlt
   have HA:Hid (a.size≤maxLen∧b.size≤maxLen∧(Lit.int .i64 n).wf=true):=⟨ha,hb,hn⟩
   have hbe:wr.heap[bk]?=w.heap[bk]?:=hm.block bk hbk (fun f=>f)
   have d0:=(World.cell?_of_block (a:=⟨bk,off+k*4,none⟩) hbe).trans c0
   have d1:=(World.cell?_of_block (a:=⟨bk,off+k*4+1,none⟩) hbe).trans c1
   have d2:=(World.cell?_of_block (a:=⟨bk,off+k*4+2,none⟩) hbe).trans c2
   have d3:=(World.cell?_of_block (a:=⟨bk,off+k*4+3,none⟩) hbe).trans c3
   clear c0 c1 c2 c3 ha hb hn hbe HC
   have hma:Mod (fun _=>False) wr (wr.alloc (.cells #[.int .i64 kd,.int .i64 n,.string a,.string b] 32)):=(Mod.refl _ wr).alloc _
   by_cases h1:lo≤kd
   ·by_cases h2:kd≤hi
    ·go_wp2_with fail
     refine (HP.out kd n a b _ h1 h2 HA.out.1 HA.out.2.1 HA.out.2.2).mono ?_
     rintro e w2 ⟨rfl,hm2⟩
     have hm3:=hm.trans (hma.trans hm2)
     clear hm hma hm2 d0 d1 d2 d3
     go_wp2_with fail
     go_roundw
     case rel=>exact ⟨k+1,by omega,by go_num,hm3⟩
     case measure=>simp [intOf];omega
    ·have hm3:=hm.trans hma
     clear hm hma
     go_wp2_with fail
     go_roundw
     case rel=>exact ⟨k+1,by omega,by go_num,hm3⟩
     case measure=>simp [intOf];omega
   ·have hm3:=hm.trans hma
    clear hm hma
    go_wp2_with fail
    go_roundw
    case rel=>exact ⟨k+1,by omega,by go_num,hm3⟩
    case measure=>simp [intOf];omega
  ·clear HC
   go_wp2_with fail
   go_ret
   exact ⟨rfl,hm⟩
end Go.Proofs.YtmnfndpbblpjiaaGreatDoor

/- From an argument that can be read to a script in memory: what every proof of a row over scripts shares. -/
namespace Go.Proofs.YtmnfndpbblpjiaaGreatDoor
open Go.ChangeShapes Go.WideShapes Go.ChangeAt Go.RowKit Go.Deep Go.Joins
theorem Tryz.own:ownKnob Tryz.prog.godebug=none:=by kernel_rfl
theorem Tryz.laidOut:laidOutB Tryz.prog=true:=by kernel_rfl
theorem Tryz.cellsOp:Tryz.prog.cellsOf 32=4:=by kernel_rfl
theorem Tryz.cellsInt:Tryz.prog.cellsOf 3=1:=by kernel_rfl
theorem Tryz.cellsStr:Tryz.prog.cellsOf 9=1:=by kernel_rfl
theorem list4 {α:Type} {l:List α} (h:l.length=4):∃ a b c d,l=[a,b,c,d]:=by
 match l,h with
 | [a,b,c,d],_=>exact ⟨a,b,c,d,rfl⟩
set_option maxRecDepth 100000 in
theorem scr_of {H:Type} {enc:TypeId × Value→H} {W:World} {fuel:Nat} {v:Value} {x:DataW H × List MemPlace} (hv:∃ a len cap,v=.slice a len cap) (h:DataW.trod enc Tryz.prog W 0 (fun _=>true) true fuel 22 v.cells.toList=some x):Scr W v:=by
 obtain ⟨a0,l0,cp0,rfl⟩:=hv
 rcases open_slice Tryz.underlying22 h with ⟨hcs,_⟩ | ⟨a,len,cap,m,n,D,Pl,hcs,_,hl,hm,hmm,_,hx⟩
 ·simp [Value.cells] at hcs
  obtain ⟨rfl,rfl,rfl⟩:=hcs
  exact ⟨none,0,0,rfl,by unfold maxLen;omega,fun i hi=>by omega⟩
 ·simp [Value.cells] at hcs
  obtain ⟨rfl,rfl,rfl⟩:=hcs
  refine ⟨some a,l0,cp0,rfl,by omega,fun i hi=>?_⟩
  have him:i < m:=by simp at hmm;omega
  obtain ⟨cs',h1,h2⟩:=hx i him
  rw [Tryz.cellsOp] at h1
  obtain ⟨_,hlen,hcell⟩:=World.cells?_some h1
  obtain ⟨y0,y1,y2,y3,n',_,_,g0,g1,g2,g3⟩:=trod_struct4 Tryz.underlying32 h2
  obtain ⟨v0,v1,v2,v3,rfl⟩:=list4 hlen
  ·simp [Tryz.cellsInt,Tryz.cellsStr] at g0 g1 g2 g3
   obtain ⟨kd,e0,-,-⟩:=DataW.trod_int Tryz.underlying3 g0
   obtain ⟨nn,e1,-,wn⟩:=DataW.trod_int Tryz.underlying3 g1
   obtain ⟨s1,e2,-,hs1⟩:=DataW.trod_string Tryz.underlying9 g2
   obtain ⟨s2,e3,-,hs2⟩:=DataW.trod_string Tryz.underlying9 g3
   simp at e0 e1 e2 e3
   subst e0 e1 e2 e3
   have k0:=hcell 0 (by omega)
   have k1:=hcell 1 (by omega)
   have k2:=hcell 2 (by omega)
   have k3:=hcell 3 (by omega)
   rw [add_add] at k0 k1 k2 k3
   obtain ⟨bk,off,spot⟩:=a
   have hsp:spot=none:=by
    obtain ⟨cs0,z1,_⟩:=hx 0 (by omega)
    rw [Tryz.cellsOp] at z1
    obtain ⟨_,zl,zc⟩:=World.cells?_some z1
    obtain ⟨z0,_,_,_,rfl⟩:=list4 zl
    have:=zc 0 (by omega)
    rw [add_add] at this
    simpa [Addr.add] using World.cell?_spot (by simpa using this:W.cell? (Addr.add ⟨bk,off,spot⟩ 0)=some z0)
   subst hsp
   have hadd:∀ j,(⟨bk,off,none⟩:Addr).add j=⟨bk,off+j,none⟩:=fun j=>by
    unfold Addr.add
    by_cases h0:j=0
    ·subst h0;simp
    ·simp [h0]
   rw [hadd] at k0 k1 k2 k3
   have hb:bk < W.heap.size:=by
    have:∃ o,W.heap[bk]?=some o:=by
     cases ho:W.heap[bk]? with
     | none=>simp [World.cell?,ho] at k1
     | some o=>exact ⟨o,rfl⟩
    obtain ⟨o,ho⟩:=this
    exact lt_of_block ho
   exact ⟨bk,off,kd,nn,s1,s2,rfl,hb,by simpa using k0,by simpa [Nat.add_assoc] using k1,by simpa [Nat.add_assoc] using k2,by simpa [Nat.add_assoc] using k3,hs1,hs2,wn⟩
end Go.Proofs.YtmnfndpbblpjiaaGreatDoor

/- A world in which the three listed tables of Go's own library lie as their text lays them: for the witness of a row. -/
namespace Go.Proofs.YtmnfndpbblpjiaaGreatDoor
open Go.ChangeShapes Go.WideShapes Go.ChangeAt Go.RowKit
def layCells (c:Array Value):Obj→Obj
 | .cells _ t frozen=>.cells c t frozen
 | o=>o
def laidOn (W:World):World :=
 { W with heap:=((W.heap.modify 0 (layCells #[.int .u64 1,.int .u64 10,.int .u64 100,.int .u64 1000,.int .u64 10000,.int .u64 100000,.int .u64 1000000,.int .u64 10000000,.int .u64 100000000,.int .u64 1000000000,.int .u64 10000000000,.int .u64 100000000000,.int .u64 1000000000000,.int .u64 10000000000000,.int .u64 100000000000000,.int .u64 1000000000000000,.int .u64 10000000000000000,.int .u64 100000000000000000,.int .u64 1000000000000000000,.int .u64 10000000000000000000])).modify 1 (layCells #[.int .u8 0,.int .u8 1,.int .u8 28,.int .u8 2,.int .u8 29,.int .u8 14,.int .u8 24,.int .u8 3,.int .u8 30,.int .u8 22,.int .u8 20,.int .u8 15,.int .u8 25,.int .u8 17,.int .u8 4,.int .u8 8,.int .u8 31,.int .u8 27,.int .u8 13,.int .u8 23,.int .u8 21,.int .u8 19,.int .u8 16,.int .u8 7,.int .u8 26,.int .u8 12,.int .u8 18,.int .u8 6,.int .u8 11,.int .u8 5,.int .u8 10,.int .u8 9])).modify 2 (layCells #[.int .u8 0,.int .u8 1,.int .u8 56,.int .u8 2,.int .u8 57,.int .u8 49,.int .u8 28,.int .u8 3,.int .u8 61,.int .u8 58,.int .u8 42,.int .u8 50,.int .u8 38,.int .u8 29,.int .u8 17,.int .u8 4,.int .u8 62,.int .u8 47,.int .u8 59,.int .u8 36,.int .u8 45,.int .u8 43,.int .u8 51,.int .u8 22,.int .u8 53,.int .u8 39,.int .u8 33,.int .u8 30,.int .u8 24,.int .u8 18,.int .u8 12,.int .u8 5,.int .u8 63,.int .u8 55,.int .u8 48,.int .u8 27,.int .u8 60,.int .u8 41,.int .u8 37,.int .u8 16,.int .u8 46,.int .u8 35,.int .u8 44,.int .u8 21,.int .u8 52,.int .u8 32,.int .u8 23,.int .u8 11,.int .u8 54,.int .u8 26,.int .u8 40,.int .u8 15,.int .u8 34,.int .u8 20,.int .u8 31,.int .u8 10,.int .u8 25,.int .u8 14,.int .u8 19,.int .u8 9,.int .u8 13,.int .u8 8,.int .u8 7,.int .u8 6]) }
theorem laid_met (os:Os):laidMet Tryz.prog Rows.checksRow.laid ((laidOn (World.holding Tryz.prog os ⟨#[],#[],[]⟩)).forCall (fun _ _=>0) ⟨#[],#[.slice none 0 0],[]⟩).memory :=
 laidMet_of_run' 8 (by kernel_rfl) (by kernel_rfl)
theorem plain_of {name:String} {k:FuncId} {fk:Func} (hk:Tryz.prog.funcNamed name=some k) (hfk:Tryz.prog.funcs[k]?=some fk) (hp:fk.params=#[22]) (f:FuncId) (fn:Func) (hf:Tryz.pinned.checked.prog.funcNamed name=some f) (hfn:Tryz.pinned.checked.prog.funcs[f]?=some fn) :
  false=Tryz.pinned.checked.prog.looks []∧∀ (j:Nat) t,fn.params[j]?=some t→Tryz.pinned.checked.prog.wantsStandIn t=false:=by
 obtain rfl:f=k:=Option.some.inj (hk.symm.trans hf) |>.symm
 obtain rfl:fn=fk:=(Option.some.inj (hfk.symm.trans hfn)).symm
 refine ⟨by kernel_rfl,fun j t ht=>?_⟩
 rw [hp] at ht
 obtain rfl:t=22:=by simpa using Array.mem_of_getElem? ht
 exact (show Tryz.prog.wantsStandIn 22=false by kernel_rfl)
end Go.Proofs.YtmnfndpbblpjiaaGreatDoor

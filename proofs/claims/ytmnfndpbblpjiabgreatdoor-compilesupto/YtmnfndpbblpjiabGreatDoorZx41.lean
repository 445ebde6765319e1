/- The document's constructions, as they lie in memory. -/
import Derived.Test.YtmnfndpbblpjiabGreatDoorZx40
namespace Go.Proofs.YtmnfndpbblpjiabGreatDoor
open Go.RowKit Pu
structure TV where
 p:PV
 l:LV
abbrev TV.v (z:TV):Value:=.agg #[.bool z.p.x.b,.slice z.p.x.a z.p.x.n z.p.x.c,.bool z.p.y.b,.slice z.p.y.a z.p.y.n z.p.y.c,.bool z.p.w.b,.slice z.p.w.a z.p.w.n z.p.w.c,.bool z.l.p.x.b,.slice z.l.p.x.a z.l.p.x.n z.l.p.x.c,.bool z.l.p.y.b,.slice z.l.p.y.a z.l.p.y.n z.l.p.y.c,.bool z.l.p.w.b,.slice z.l.p.w.a z.l.p.w.n z.l.p.w.c,.bool z.l.x.b,.slice z.l.x.a z.l.x.n z.l.x.c,.bool z.l.y.b,.slice z.l.y.a z.l.y.n z.l.y.c]
structure TI (w:World) (z:TV) (T:rM) (m k:Nat):Prop where
 p:PI w z.p T.P m
 l:LI w z.l T.L k k
def stS:Bool->UInt8->ByteArray
 | true,c=>⟨#[c]⟩
 | false,_=>⟨#[]⟩
def gu (w:World) (T:rM) (b:Bool) (c:UInt8) (m k:Nat) (e:Ending) (w':World):Prop:=Mod (fun _=>False) w w'/\∃ z:TV,e=.returned (.tuple #[z.v,.string (stS b c)])/\(b=false->TI w' z T m k)
theorem LI.zero (w:World) {m d:Nat} (h:12<=m) (h':12<=d):LI w ⟨⟨⟨false,none,0,0⟩,⟨false,none,0,0⟩,⟨false,none,0,0⟩⟩,⟨false,none,0,0⟩,⟨false,none,0,0⟩⟩ l0 m d:=⟨PI.zero w h,NI.zero w h',NI.zero w h'⟩
theorem LI.up {w:World} {l:LV} {r:RL} {m d n e:Nat} (h:LI w l r m d) (hm:m<=n) (hd:d<=e):LI w l r n e:=⟨h.p.up hm,h.x.up hd,h.y.up hd⟩
theorem Cl.lt {w:World} {g off:Nat} {cs:Array Value} {c:Value} (h:Cl w g off cs) (h0:cs[0]?=some c):g < w.heap.size:=by
 have:=h 0 c h0
 by_cases hg:g < w.heap.size
 ·exact hg
 ·exfalso
  simp[World.cell?,Array.getElem?_eq_none (Nat.le_of_not_lt hg)]at this
theorem Cl.ne {w:World} {g off:Nat} {c:Value} {cs:List Value} (h:Cl w g off (c :: cs).toArray):g≠w.heap.size:=by have:=h.lt (c:=c) (by simp);omega
theorem Cl.os {w:World} {g k off:Nat} {cs:Array Value} (h:Cl w g off cs) (hg:g≠k) (i:Nat) (vs:List Value):Cl (Go.Proofs.YtmnfndpbblpjiabGreatDoor.sets w k i vs) g off cs:=by
 induction vs generalizing w i with
 | nil=>exact h
 | cons v vs ih=>exact ih (h.o hg i v) _
theorem vT {w:World} {k0:Nat} {t0:TypeId} {Lv Lx SX SY Xg Xh v06 v07 v08 v09 abl abm abn abo abp abq:Value} (h0:Bk w k0 #[Lv,Lx,SX,SY,Xg,Xh,v06,v07,v08,v09,abl,abm,abn,abo,abp,abq] t0):w.cell? ⟨k0,0,none⟩=some Lv/\w.cell? ⟨k0,1,none⟩=some Lx/\w.cell? ⟨k0,2,none⟩=some SX/\w.cell? ⟨k0,3,none⟩=some SY/\w.cell? ⟨k0,4,none⟩=some Xg/\w.cell? ⟨k0,5,none⟩=some Xh/\w.cell? ⟨k0,6,none⟩=some v06/\w.cell? ⟨k0,7,none⟩=some v07/\w.cell? ⟨k0,8,none⟩=some v08/\w.cell? ⟨k0,9,none⟩=some v09/\w.cell? ⟨k0,10,none⟩=some abl/\w.cell? ⟨k0,11,none⟩=some abm/\w.cell? ⟨k0,12,none⟩=some abn/\w.cell? ⟨k0,13,none⟩=some abo/\w.cell? ⟨k0,14,none⟩=some abp/\w.cell? ⟨k0,15,none⟩=some abq:=⟨h0.c 0,h0.c 1,h0.c 2,h0.c 3,h0.c 4,h0.c 5,h0.c 6,h0.c 7,h0.c 8,h0.c 9,h0.c 10,h0.c 11,h0.c 12,h0.c 13,h0.c 14,h0.c 15⟩
abbrev pO:Array Value:=#[.bool false,.slice none 0 0,.bool false,.slice none 0 0,.bool false,.slice none 0 0,.bool false,.slice none 0 0,.bool false,.slice none 0 0,.bool false,.slice none 0 0,.bool false,.slice none 0 0,.bool false,.slice none 0 0]
theorem Cl.al {w:World} {g off:Nat} {cs:Array Value} (h:Cl w g off cs) (o:Obj):Cl (w.alloc o) g off cs:=h.k ((Mod.refl _ w).alloc o)
theorem Cl.uy {W:World} {g off:Nat} {cs:Array Value} (h:Cl W.drew g off cs) (o:Obj):Cl (W.alloc o).drew g off cs:=h.k (bC W o)
def PV.l (z:PV):List Value:=[.bool z.x.b,.slice z.x.a z.x.n z.x.c,.bool z.y.b,.slice z.y.a z.y.n z.y.c,.bool z.w.b,.slice z.w.a z.w.n z.w.c]
def LV.s (p:PV) (x y:NV):List Value:=[.bool p.x.b,.slice p.x.a p.x.n p.x.c,.bool p.y.b,.slice p.y.a p.y.n p.y.c,.bool p.w.b,.slice p.w.a p.w.n p.w.c,.bool x.b,.slice x.a x.n x.c,.bool y.b,.slice y.a y.n y.c]
def TV.s (p:PV) (l:LV):List Value:=[.bool p.x.b,.slice p.x.a p.x.n p.x.c,.bool p.y.b,.slice p.y.a p.y.n p.y.c,.bool p.w.b,.slice p.w.a p.w.n p.w.c,.bool l.p.x.b,.slice l.p.x.a l.p.x.n l.p.x.c,.bool l.p.y.b,.slice l.p.y.a l.p.y.n l.p.y.c,.bool l.p.w.b,.slice l.p.w.a l.p.w.n l.p.w.c,.bool l.x.b,.slice l.x.a l.x.n l.x.c,.bool l.y.b,.slice l.y.a l.y.n l.y.c]
theorem stP (w:World) (k:Nat) (z:PV):Go.Proofs.YtmnfndpbblpjiabGreatDoor.sets w k 0 z.l=((((((w.setCell ⟨k,0,none⟩ (.bool z.x.b)).setCell ⟨k,1,none⟩ (.slice z.x.a z.x.n z.x.c)).setCell ⟨k,2,none⟩ (.bool z.y.b)).setCell ⟨k,3,none⟩ (.slice z.y.a z.y.n z.y.c)).setCell ⟨k,4,none⟩ (.bool z.w.b)).setCell ⟨k,5,none⟩ (.slice z.w.a z.w.n z.w.c)):=rfl
theorem yJ (w:World) (k:Nat) (p:PV) (x y:NV):Go.Proofs.YtmnfndpbblpjiabGreatDoor.sets w k 6 (LV.s p x y)=((((((((((w.setCell ⟨k,6,none⟩ (.bool p.x.b)).setCell ⟨k,7,none⟩ (.slice p.x.a p.x.n p.x.c)).setCell ⟨k,8,none⟩ (.bool p.y.b)).setCell ⟨k,9,none⟩ (.slice p.y.a p.y.n p.y.c)).setCell ⟨k,10,none⟩ (.bool p.w.b)).setCell ⟨k,11,none⟩ (.slice p.w.a p.w.n p.w.c)).setCell ⟨k,12,none⟩ (.bool x.b)).setCell ⟨k,13,none⟩ (.slice x.a x.n x.c)).setCell ⟨k,14,none⟩ (.bool y.b)).setCell ⟨k,15,none⟩ (.slice y.a y.n y.c)):=rfl
theorem OT (w:World) (k:Nat) (p:PV) (l:LV):Go.Proofs.YtmnfndpbblpjiabGreatDoor.sets w k 0 (TV.s p l)=((((((((((((((((w.setCell ⟨k,0,none⟩ (.bool p.x.b)).setCell ⟨k,1,none⟩ (.slice p.x.a p.x.n p.x.c)).setCell ⟨k,2,none⟩ (.bool p.y.b)).setCell ⟨k,3,none⟩ (.slice p.y.a p.y.n p.y.c)).setCell ⟨k,4,none⟩ (.bool p.w.b)).setCell ⟨k,5,none⟩ (.slice p.w.a p.w.n p.w.c)).setCell ⟨k,6,none⟩ (.bool l.p.x.b)).setCell ⟨k,7,none⟩ (.slice l.p.x.a l.p.x.n l.p.x.c)).setCell ⟨k,8,none⟩ (.bool l.p.y.b)).setCell ⟨k,9,none⟩ (.slice l.p.y.a l.p.y.n l.p.y.c)).setCell ⟨k,10,none⟩ (.bool l.p.w.b)).setCell ⟨k,11,none⟩ (.slice l.p.w.a l.p.w.n l.p.w.c)).setCell ⟨k,12,none⟩ (.bool l.x.b)).setCell ⟨k,13,none⟩ (.slice l.x.a l.x.n l.x.c)).setCell ⟨k,14,none⟩ (.bool l.y.b)).setCell ⟨k,15,none⟩ (.slice l.y.a l.y.n l.y.c)):=rfl
theorem Bk.tP {w:World} {k:Nat} {t:TypeId} (h:Bk w k #[.bool false,.slice none 0 0,.bool false,.slice none 0 0,.bool false,.slice none 0 0,.bool false,.slice none 0 0,.bool false,.slice none 0 0,.bool false,.slice none 0 0,.bool false,.slice none 0 0,.bool false,.slice none 0 0] t) (z:PV):Bk (Go.Proofs.YtmnfndpbblpjiabGreatDoor.sets w k 0 z.l) k #[.bool z.x.b,.slice z.x.a z.x.n z.x.c,.bool z.y.b,.slice z.y.a z.y.n z.y.c,.bool z.w.b,.slice z.w.a z.w.n z.w.c,.bool false,.slice none 0 0,.bool false,.slice none 0 0,.bool false,.slice none 0 0,.bool false,.slice none 0 0,.bool false,.slice none 0 0] t:=by
 have e:=((((((h.set 0 (.bool z.x.b)).set 1 (.slice z.x.a z.x.n z.x.c)).set 2 (.bool z.y.b)).set 3 (.slice z.y.a z.y.n z.y.c)).set 4 (.bool z.w.b)).set 5 (.slice z.w.a z.w.n z.w.c))
 simp only[List.setIfInBounds_toArray,List.set_cons_zero,List.set_cons_succ]at e
 exact e
theorem Bk.tL {w:World} {k:Nat} {t:TypeId} (h:Bk w k #[.bool false,.slice none 0 0,.bool false,.slice none 0 0,.bool false,.slice none 0 0,.bool false,.slice none 0 0,.bool false,.slice none 0 0,.bool false,.slice none 0 0,.bool false,.slice none 0 0,.bool false,.slice none 0 0] t) (p:PV) (x y:NV):Bk (Go.Proofs.YtmnfndpbblpjiabGreatDoor.sets w k 6 (LV.s p x y)) k #[.bool false,.slice none 0 0,.bool false,.slice none 0 0,.bool false,.slice none 0 0,.bool p.x.b,.slice p.x.a p.x.n p.x.c,.bool p.y.b,.slice p.y.a p.y.n p.y.c,.bool p.w.b,.slice p.w.a p.w.n p.w.c,.bool x.b,.slice x.a x.n x.c,.bool y.b,.slice y.a y.n y.c] t:=by
 have e:=((((((((((h.set 6 (.bool p.x.b)).set 7 (.slice p.x.a p.x.n p.x.c)).set 8 (.bool p.y.b)).set 9 (.slice p.y.a p.y.n p.y.c)).set 10 (.bool p.w.b)).set 11 (.slice p.w.a p.w.n p.w.c)).set 12 (.bool x.b)).set 13 (.slice x.a x.n x.c)).set 14 (.bool y.b)).set 15 (.slice y.a y.n y.c))
 simp only[List.setIfInBounds_toArray,List.set_cons_zero,List.set_cons_succ]at e
 exact e
theorem Bk.tT {w:World} {k:Nat} {t:TypeId} (h:Bk w k #[.bool false,.slice none 0 0,.bool false,.slice none 0 0,.bool false,.slice none 0 0,.bool false,.slice none 0 0,.bool false,.slice none 0 0,.bool false,.slice none 0 0,.bool false,.slice none 0 0,.bool false,.slice none 0 0] t) (p:PV) (l:LV):Bk (Go.Proofs.YtmnfndpbblpjiabGreatDoor.sets w k 0 (TV.s p l)) k #[.bool p.x.b,.slice p.x.a p.x.n p.x.c,.bool p.y.b,.slice p.y.a p.y.n p.y.c,.bool p.w.b,.slice p.w.a p.w.n p.w.c,.bool l.p.x.b,.slice l.p.x.a l.p.x.n l.p.x.c,.bool l.p.y.b,.slice l.p.y.a l.p.y.n l.p.y.c,.bool l.p.w.b,.slice l.p.w.a l.p.w.n l.p.w.c,.bool l.x.b,.slice l.x.a l.x.n l.x.c,.bool l.y.b,.slice l.y.a l.y.n l.y.c] t:=by
 have e:=((((((((((((((((h.set 0 (.bool p.x.b)).set 1 (.slice p.x.a p.x.n p.x.c)).set 2 (.bool p.y.b)).set 3 (.slice p.y.a p.y.n p.y.c)).set 4 (.bool p.w.b)).set 5 (.slice p.w.a p.w.n p.w.c)).set 6 (.bool l.p.x.b)).set 7 (.slice l.p.x.a l.p.x.n l.p.x.c)).set 8 (.bool l.p.y.b)).set 9 (.slice l.p.y.a l.p.y.n l.p.y.c)).set 10 (.bool l.p.w.b)).set 11 (.slice l.p.w.a l.p.w.n l.p.w.c)).set 12 (.bool l.x.b)).set 13 (.slice l.x.a l.x.n l.x.c)).set 14 (.bool l.y.b)).set 15 (.slice l.y.a l.y.n l.y.c))
 simp only[List.setIfInBounds_toArray,List.set_cons_zero,List.set_cons_succ]at e
 exact e
theorem Bk.fs {w:World} {k:Nat} {cs:Array Value} {t:TypeId} (h:Bk w k cs t):w.frozen? ⟨k,0,none⟩=false/\w.frozen? ⟨k,1,none⟩=false/\w.frozen? ⟨k,2,none⟩=false/\w.frozen? ⟨k,3,none⟩=false/\w.frozen? ⟨k,4,none⟩=false/\w.frozen? ⟨k,5,none⟩=false/\w.frozen? ⟨k,6,none⟩=false/\w.frozen? ⟨k,7,none⟩=false/\w.frozen? ⟨k,8,none⟩=false/\w.frozen? ⟨k,9,none⟩=false/\w.frozen? ⟨k,10,none⟩=false/\w.frozen? ⟨k,11,none⟩=false/\w.frozen? ⟨k,12,none⟩=false/\w.frozen? ⟨k,13,none⟩=false/\w.frozen? ⟨k,14,none⟩=false/\w.frozen? ⟨k,15,none⟩=false:=⟨h.fz 0,h.fz 1,h.fz 2,h.fz 3,h.fz 4,h.fz 5,h.fz 6,h.fz 7,h.fz 8,h.fz 9,h.fz 10,h.fz 11,h.fz 12,h.fz 13,h.fz 14,h.fz 15⟩
theorem Mod.stk {w W:World} {k:Nat} (h:Mod (fun _=>False) w W) (hk:w.heap.size<=k) (i:Nat) (vs:List Value):Mod (fun _=>False) w (Go.Proofs.YtmnfndpbblpjiabGreatDoor.sets W k i vs):=(Mod.sets (h.mono (q:=fun i=>w.heap.size<=i) (fun _ _ f=>f.elim)) (fun _=>hk)).mono (fun i hi h=>by omega)
abbrev zC:PV:=⟨⟨false,none,0,0⟩,⟨false,none,0,0⟩,⟨false,none,0,0⟩⟩
abbrev pQ:LV:=⟨zC,⟨false,none,0,0⟩,⟨false,none,0,0⟩⟩
theorem BG {w W:World} {T:rM} {b:Bool} {c:UInt8} {m d:Nat} {p:PV} {l:LV} (hb:Bk W w.heap.size #[.bool false,.slice none 0 0,.bool false,.slice none 0 0,.bool false,.slice none 0 0,.bool false,.slice none 0 0,.bool false,.slice none 0 0,.bool false,.slice none 0 0,.bool false,.slice none 0 0,.bool false,.slice none 0 0] 169) (hm:Mod (fun _=>False) w W) (h:b=false->PI W p T.P m/\LI W l T.L d d):gu w T b c m d (.returned (.tuple #[TV.v ⟨p,l⟩,.string (stS b c)])) (Go.Proofs.YtmnfndpbblpjiabGreatDoor.sets W w.heap.size 0 (TV.s p l)):=⟨hm.stk (Nat.le_refl _) 0 _,⟨p,l⟩,rfl,fun e=>⟨(h e).1.aL hb (by decide) 0 _,(h e).2.aL hb (by decide) 0 _⟩⟩
end Go.Proofs.YtmnfndpbblpjiabGreatDoor

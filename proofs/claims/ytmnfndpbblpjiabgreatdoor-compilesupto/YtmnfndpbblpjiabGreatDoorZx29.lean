/- The document's numbers, points, ways, lines and things in memory, with a bound on their digits. -/
import Derived.Deep.DeepCutAuto
import Derived.Test.YtmnfndpbblpjiabGreatDoorZx20
namespace Go.Proofs.YtmnfndpbblpjiabGreatDoor
open Go.RowKit Pu
structure NV where
 b:Bool
 a:Option Addr
 n:Nat
 c:Nat
abbrev NV.v (x:NV):Value:=.agg #[.bool x.b,.slice x.a x.n x.c]
def NI (w:World) (x:NV) (i:Int) (m:Nat):Prop:=∃ l:List Nat,l.length=x.n/\Nm w x.b (.slice x.a x.n x.c) l/\num x.b l=i/\x.n+12<=m
def uq (w:World) (i:Int) (m:Nat) (e:Ending) (w':World):Prop:=Mod (fun _=>False) w w'/\∃ z:NV,e=.returned z.v/\NI w' z i m
def pR (w:World) (b:Bool) (e:Ending) (w':World):Prop:=Mod (fun _=>False) w w'/\e=.returned (.bool b)
structure PV where
 x:NV
 y:NV
 w:NV
structure VV where
 x:NV
 y:NV
structure LV where
 p:PV
 x:NV
 y:NV
abbrev VV.v (u:VV):Value:=.agg #[.bool u.x.b,.slice u.x.a u.x.n u.x.c,.bool u.y.b,.slice u.y.a u.y.n u.y.c]
abbrev PV.v (p:PV):Value:=.agg #[.bool p.x.b,.slice p.x.a p.x.n p.x.c,.bool p.y.b,.slice p.y.a p.y.n p.y.c,.bool p.w.b,.slice p.w.a p.w.n p.w.c]
abbrev LV.v (l:LV):Value:=.agg #[.bool l.p.x.b,.slice l.p.x.a l.p.x.n l.p.x.c,.bool l.p.y.b,.slice l.p.y.a l.p.y.n l.p.y.c,.bool l.p.w.b,.slice l.p.w.a l.p.w.n l.p.w.c,.bool l.x.b,.slice l.x.a l.x.n l.x.c,.bool l.y.b,.slice l.y.a l.y.n l.y.c]
structure PI (w:World) (p:PV) (t:T3) (m:Nat):Prop where
 x:NI w p.x t.x m
 y:NI w p.y t.y m
 w:NI w p.w t.w m
structure VI (w:World) (u:VV) (t:V2) (m:Nat):Prop where
 x:NI w u.x t.x m
 y:NI w u.y t.y m
structure LI (w:World) (l:LV) (r:RL) (m d:Nat):Prop where
 p:PI w l.p r.p m
 x:NI w l.x r.d.x d
 y:NI w l.y r.d.y d
def TU (w:World) (t:V2) (m:Nat) (e:Ending) (w':World):Prop:=Mod (fun _=>False) w w'/\∃ z:VV,e=.returned z.v/\VI w' z t m
def xG (w:World) (t:T3) (m:Nat) (e:Ending) (w':World):Prop:=Mod (fun _=>False) w w'/\∃ z:PV,e=.returned z.v/\PI w' z t m
def IW (w:World) (t:T3) (b:Bool) (m:Nat) (e:Ending) (w':World):Prop:=Mod (fun _=>False) w w'/\∃ z:PV,e=.returned (.tuple #[z.v,.bool b])/\PI w' z t m
def Bk (w:World) (b:Nat) (cs:Array Value) (t:TypeId):Prop:=w.heap[b]?=some (.cells cs t (0,0))
section
variable {w w':World} {b:Nat} {cs:Array Value} {t:TypeId} {x:NV} {i:Int} {m n:Nat} {p:PV} {u:VV} {l:LV} {tt:T3} {vv:V2} {rr:RL}
theorem Bk.c (h:Bk w b cs t) (i:Nat):w.cell? ⟨b,i,none⟩=cs[i]?:=by unfold Bk at h;simp[World.cell?,h]
theorem Bk.fz (h:Bk w b cs t) (i:Nat):w.frozen? ⟨b,i,none⟩=false:=by unfold Bk at h;simp[World.frozen?,h]
theorem Bk.keep {q:Nat->Prop} (h:Bk w b cs t) (hm:Mod q w w') (hp:¬ q b):Bk w' b cs t:=hm.keep h hp
theorem Bk.k (h:Bk w b cs t) (hm:Mod (fun _=>False) w w'):Bk w' b cs t:=hm.keep h (fun f=>f)
theorem aQ (w:World) (cs:Array Value) (t:TypeId):Bk (w.alloc (.cells cs t)) w.heap.size cs t:=by unfold Bk;show (w.heap.push _)[w.heap.size]?=_;simp
theorem Bk.set (h:Bk w b cs t) (k:Nat) (y:Value):Bk (w.setCell ⟨b,k,none⟩ y) b (cs.setIfInBounds k y) t:=by
 unfold Bk at *;simp[World.setCell,Array.getElem?_modify,h]
theorem VD {v:Value} {n:Nat} {xs:List Value} (h:w.ownsRow 0 3 1 v n xs) (hb:Bk w b cs t) (ht:t≠3) (k:Nat) (y:Value):(w.setCell ⟨b,k,none⟩ y).ownsRow 0 3 1 v n xs:=by
 refine dW h ((Mod.refl (fun i=>i=b) w).setCell _ _ (fun _=>rfl)) (fun q hq he=>?_)
 subst he
 obtain⟨_,⟨he,_⟩ | ⟨g,c,cur,he,_,hg,_⟩⟩:=h
 ·rw[he]at hq;simp[Value.ownBlock]at hq
 ·rw[he]at hq;simp[Value.ownBlock]at hq
  subst hq
  unfold Bk at hb;rw[hg]at hb;simp at hb;exact ht hb.2.symm
theorem NI.k (h:NI w x i m) (hm:Mod (fun _=>False) w w'):NI w' x i m:=by obtain⟨l,h1,h2,h3⟩:=h;exact⟨l,h1,h2.mod hm,h3⟩
theorem NI.up (h:NI w x i m) (hn:m<=n):NI w x i n:=by obtain⟨l,h1,h2,h3,h4⟩:=h;exact⟨l,h1,h2,h3,by omega⟩
theorem NI.st (h:NI w x i m) (hb:Bk w b cs t) (ht:t≠3) (k:Nat) (y:Value):NI (w.setCell ⟨b,k,none⟩ y) x i m:=by
 obtain⟨l,h1,h2,h3⟩:=h;exact⟨l,h1,⟨h2.1,VD h2.2 hb ht k y⟩,h3⟩
theorem NI.lo (h:NI w x i m):12<=m:=by obtain⟨l,h1,h2,h3,h4⟩:=h;omega
theorem Bk.o {c:Nat} (h:Bk w b cs t) (hc:b≠c) (k:Nat) (y:Value):Bk (w.setCell ⟨c,k,none⟩ y) b cs t:=by
 unfold Bk at *;rw[Below.heap_setCell _ _ _ _ (by simpa using hc)];exact h
theorem Bk.ne (h:Bk w b cs t):b≠w.heap.size:=by have:=lt_of_block h;omega
theorem PI.k (h:PI w p tt m) (hm:Mod (fun _=>False) w w'):PI w' p tt m:=⟨h.x.k hm,h.y.k hm,h.w.k hm⟩
theorem VI.k (h:VI w u vv m) (hm:Mod (fun _=>False) w w'):VI w' u vv m:=⟨h.x.k hm,h.y.k hm⟩
theorem LI.k (h:LI w l rr m n) (hm:Mod (fun _=>False) w w'):LI w' l rr m n:=⟨h.p.k hm,h.x.k hm,h.y.k hm⟩
theorem PI.up (h:PI w p tt m) (hn:m<=n):PI w p tt n:=⟨h.x.up hn,h.y.up hn,h.w.up hn⟩
theorem VI.up (h:VI w u vv m) (hn:m<=n):VI w u vv n:=⟨h.x.up hn,h.y.up hn⟩
end
abbrev NV.r (x:NV):Array Value:=#[.bool x.b,.slice x.a x.n x.c]
abbrev BN (k:Nat) (x:NV) (w:World):Prop:=w.cell? ⟨k,0,none⟩=some (.bool x.b)/\w.cell? ⟨k,1,none⟩=some (.slice x.a x.n x.c)
theorem sN {w:World} {k:Nat} {t:TypeId} {x:NV} (h:Bk w k x.r t):BN k x w:=⟨h.c 0,h.c 1⟩
abbrev VV.r (x:VV):Array Value:=#[.bool x.x.b,.slice x.x.a x.x.n x.x.c,.bool x.y.b,.slice x.y.a x.y.n x.y.c]
abbrev BV (k:Nat) (x:VV) (w:World):Prop:=w.cell? ⟨k,0,none⟩=some (.bool x.x.b)/\w.cell? ⟨k,1,none⟩=some (.slice x.x.a x.x.n x.x.c)/\w.cell? ⟨k,2,none⟩=some (.bool x.y.b)/\w.cell? ⟨k,3,none⟩=some (.slice x.y.a x.y.n x.y.c)
theorem sV {w:World} {k:Nat} {t:TypeId} {x:VV} (h:Bk w k x.r t):BV k x w:=⟨h.c 0,h.c 1,h.c 2,h.c 3⟩
abbrev PV.r (x:PV):Array Value:=#[.bool x.x.b,.slice x.x.a x.x.n x.x.c,.bool x.y.b,.slice x.y.a x.y.n x.y.c,.bool x.w.b,.slice x.w.a x.w.n x.w.c]
abbrev BP (k:Nat) (x:PV) (w:World):Prop:=w.cell? ⟨k,0,none⟩=some (.bool x.x.b)/\w.cell? ⟨k,1,none⟩=some (.slice x.x.a x.x.n x.x.c)/\w.cell? ⟨k,2,none⟩=some (.bool x.y.b)/\w.cell? ⟨k,3,none⟩=some (.slice x.y.a x.y.n x.y.c)/\w.cell? ⟨k,4,none⟩=some (.bool x.w.b)/\w.cell? ⟨k,5,none⟩=some (.slice x.w.a x.w.n x.w.c)
theorem sP {w:World} {k:Nat} {t:TypeId} {x:PV} (h:Bk w k x.r t):BP k x w:=⟨h.c 0,h.c 1,h.c 2,h.c 3,h.c 4,h.c 5⟩
abbrev LV.r (x:LV):Array Value:=#[.bool x.p.x.b,.slice x.p.x.a x.p.x.n x.p.x.c,.bool x.p.y.b,.slice x.p.y.a x.p.y.n x.p.y.c,.bool x.p.w.b,.slice x.p.w.a x.p.w.n x.p.w.c,.bool x.x.b,.slice x.x.a x.x.n x.x.c,.bool x.y.b,.slice x.y.a x.y.n x.y.c]
abbrev BL (k:Nat) (x:LV) (w:World):Prop:=w.cell? ⟨k,0,none⟩=some (.bool x.p.x.b)/\w.cell? ⟨k,1,none⟩=some (.slice x.p.x.a x.p.x.n x.p.x.c)/\w.cell? ⟨k,2,none⟩=some (.bool x.p.y.b)/\w.cell? ⟨k,3,none⟩=some (.slice x.p.y.a x.p.y.n x.p.y.c)/\w.cell? ⟨k,4,none⟩=some (.bool x.p.w.b)/\w.cell? ⟨k,5,none⟩=some (.slice x.p.w.a x.p.w.n x.p.w.c)/\w.cell? ⟨k,6,none⟩=some (.bool x.x.b)/\w.cell? ⟨k,7,none⟩=some (.slice x.x.a x.x.n x.x.c)/\w.cell? ⟨k,8,none⟩=some (.bool x.y.b)/\w.cell? ⟨k,9,none⟩=some (.slice x.y.a x.y.n x.y.c)
theorem sL {w:World} {k:Nat} {t:TypeId} {x:LV} (h:Bk w k x.r t):BL k x w:=⟨h.c 0,h.c 1,h.c 2,h.c 3,h.c 4,h.c 5,h.c 6,h.c 7,h.c 8,h.c 9⟩
theorem vN {w:World} {k0:Nat} {t0:TypeId} {Lv Lx:Value} (h0:Bk w k0 #[Lv,Lx] t0):w.cell? ⟨k0,0,none⟩=some Lv/\w.cell? ⟨k0,1,none⟩=some Lx:=⟨h0.c 0,h0.c 1⟩
theorem vV {w:World} {k0:Nat} {t0:TypeId} {Lv Lx SX SY:Value} (h0:Bk w k0 #[Lv,Lx,SX,SY] t0):w.cell? ⟨k0,0,none⟩=some Lv/\w.cell? ⟨k0,1,none⟩=some Lx/\w.cell? ⟨k0,2,none⟩=some SX/\w.cell? ⟨k0,3,none⟩=some SY:=⟨h0.c 0,h0.c 1,h0.c 2,h0.c 3⟩
theorem vP {w:World} {k0:Nat} {t0:TypeId} {Lv Lx SX SY Xg Xh:Value} (h0:Bk w k0 #[Lv,Lx,SX,SY,Xg,Xh] t0):w.cell? ⟨k0,0,none⟩=some Lv/\w.cell? ⟨k0,1,none⟩=some Lx/\w.cell? ⟨k0,2,none⟩=some SX/\w.cell? ⟨k0,3,none⟩=some SY/\w.cell? ⟨k0,4,none⟩=some Xg/\w.cell? ⟨k0,5,none⟩=some Xh:=⟨h0.c 0,h0.c 1,h0.c 2,h0.c 3,h0.c 4,h0.c 5⟩
theorem vL {w:World} {k0:Nat} {t0:TypeId} {Lv Lx SX SY Xg Xh v06 v07 v08 v09:Value} (h0:Bk w k0 #[Lv,Lx,SX,SY,Xg,Xh,v06,v07,v08,v09] t0):w.cell? ⟨k0,0,none⟩=some Lv/\w.cell? ⟨k0,1,none⟩=some Lx/\w.cell? ⟨k0,2,none⟩=some SX/\w.cell? ⟨k0,3,none⟩=some SY/\w.cell? ⟨k0,4,none⟩=some Xg/\w.cell? ⟨k0,5,none⟩=some Xh/\w.cell? ⟨k0,6,none⟩=some v06/\w.cell? ⟨k0,7,none⟩=some v07/\w.cell? ⟨k0,8,none⟩=some v08/\w.cell? ⟨k0,9,none⟩=some v09:=⟨h0.c 0,h0.c 1,h0.c 2,h0.c 3,h0.c 4,h0.c 5,h0.c 6,h0.c 7,h0.c 8,h0.c 9⟩
theorem Bk.al {w:World} {b:Nat} {cs:Array Value} {t:TypeId} (h:Bk w b cs t) (o:Obj):Bk (w.alloc o) b cs t:=h.k ((Mod.refl _ w).alloc o)
theorem bC (W:World) (o:Obj):Mod (fun _=>False) W.drew (W.alloc o).drew:=by
 have h:=((Mod.refl (fun _=>False) W).alloc o).drew
 exact⟨h.os,h.tape,h.output,h.size,h.block⟩
theorem Bk.uy {W:World} {b:Nat} {cs:Array Value} {t:TypeId} (h:Bk W.drew b cs t) (o:Obj):Bk (W.alloc o).drew b cs t:=h.k (bC W o)
abbrev oN:Obj:=.cells #[.bool false,.slice none 0 0] 154
abbrev oV:Obj:=.cells #[.bool false,.slice none 0 0,.bool false,.slice none 0 0] 206
abbrev oP:Obj:=.cells #[.bool false,.slice none 0 0,.bool false,.slice none 0 0,.bool false,.slice none 0 0] 165
abbrev oL:Obj:=.cells #[.bool false,.slice none 0 0,.bool false,.slice none 0 0,.bool false,.slice none 0 0,.bool false,.slice none 0 0,.bool false,.slice none 0 0] 167
theorem jL (W:World) (cs:Array Value) (t:TypeId):Bk (W.alloc (.cells cs t)).drew W.heap.size cs t:=aQ W cs t
def sets (w:World) (k:Nat):Nat->List Value->World
 | _,[]=>w
 | i,v :: vs=>sets (w.setCell ⟨k,i,none⟩ v) k (i+1) vs
section
variable {w a:World} {b k i m:Nat} {cs:Array Value} {t:TypeId} {x:NV} {n:Int} {vs:List Value}
theorem Mod.sets {q:Nat->Prop} (h:Mod q a w) (hk:k < a.heap.size->q k):Mod q a (sets w k i vs):=by
 induction vs generalizing w i with
 | nil=>exact h
 | cons v vs ih=>exact ih (h.setCell _ _ hk)
theorem Bk.os (h:Bk w b cs t) (hb:b≠k) (i:Nat) (vs:List Value):Bk (Go.Proofs.YtmnfndpbblpjiabGreatDoor.sets w k i vs) b cs t:=by
 induction vs generalizing w i with
 | nil=>exact h
 | cons v vs ih=>exact ih (h.o hb i v) _
theorem NI.aL (h:NI w x n m) (hb:Bk w k cs t) (ht:t≠3) (i:Nat) (vs:List Value):NI (Go.Proofs.YtmnfndpbblpjiabGreatDoor.sets w k i vs) x n m:=by
 induction vs generalizing w i cs with
 | nil=>exact h
 | cons v vs ih=>exact ih (h.st hb ht i v) (hb.set i v) _
theorem PI.aL {p:PV} {tt:T3} (h:PI w p tt m) (hb:Bk w k cs t) (ht:t≠3) (i:Nat) (vs:List Value):PI (Go.Proofs.YtmnfndpbblpjiabGreatDoor.sets w k i vs) p tt m:=⟨h.x.aL hb ht i vs,h.y.aL hb ht i vs,h.w.aL hb ht i vs⟩
theorem VI.aL {u:VV} {vv:V2} (h:VI w u vv m) (hb:Bk w k cs t) (ht:t≠3) (i:Nat) (vs:List Value):VI (Go.Proofs.YtmnfndpbblpjiabGreatDoor.sets w k i vs) u vv m:=⟨h.x.aL hb ht i vs,h.y.aL hb ht i vs⟩
theorem LI.aL {l:LV} {r:RL} {d:Nat} (h:LI w l r m d) (hb:Bk w k cs t) (ht:t≠3) (i:Nat) (vs:List Value):LI (Go.Proofs.YtmnfndpbblpjiabGreatDoor.sets w k i vs) l r m d:=⟨h.p.aL hb ht i vs,h.x.aL hb ht i vs,h.y.aL hb ht i vs⟩
end
theorem zm (w:World) (c1 c2:Array Value) (t1 t2:TypeId):Mod (fun _=>False) w ((w.alloc (.cells c1 t1)).alloc (.cells c2 t2))/\Bk ((w.alloc (.cells c1 t1)).alloc (.cells c2 t2)) (w.heap.size) c1 t1/\Bk ((w.alloc (.cells c1 t1)).alloc (.cells c2 t2)) (w.heap.size+1) c2 t2:=by
 have a1:=aQ w c1 t1
 have m1:Mod (fun _=>False) w (w.alloc (.cells c1 t1)):=(Mod.refl _ _).alloc _
 have a2:=aQ (w.alloc (.cells c1 t1)) c2 t2
 have m2:Mod (fun _=>False) (w.alloc (.cells c1 t1)) ((w.alloc (.cells c1 t1)).alloc (.cells c2 t2)):=(Mod.refl _ _).alloc _
 simp only[World.size_alloc]at a2
 exact⟨m1.trans m2,(a1).k m2,a2⟩
theorem zU (w:World) (c1 c2 c3:Array Value) (t1 t2 t3:TypeId):Mod (fun _=>False) w (((w.alloc (.cells c1 t1)).alloc (.cells c2 t2)).alloc (.cells c3 t3))/\Bk (((w.alloc (.cells c1 t1)).alloc (.cells c2 t2)).alloc (.cells c3 t3)) (w.heap.size) c1 t1/\Bk (((w.alloc (.cells c1 t1)).alloc (.cells c2 t2)).alloc (.cells c3 t3)) (w.heap.size+1) c2 t2/\Bk (((w.alloc (.cells c1 t1)).alloc (.cells c2 t2)).alloc (.cells c3 t3)) (w.heap.size+1+1) c3 t3:=by
 have a1:=aQ w c1 t1
 have m1:Mod (fun _=>False) w (w.alloc (.cells c1 t1)):=(Mod.refl _ _).alloc _
 have a2:=aQ (w.alloc (.cells c1 t1)) c2 t2
 have m2:Mod (fun _=>False) (w.alloc (.cells c1 t1)) ((w.alloc (.cells c1 t1)).alloc (.cells c2 t2)):=(Mod.refl _ _).alloc _
 have a3:=aQ ((w.alloc (.cells c1 t1)).alloc (.cells c2 t2)) c3 t3
 have m3:Mod (fun _=>False) ((w.alloc (.cells c1 t1)).alloc (.cells c2 t2)) (((w.alloc (.cells c1 t1)).alloc (.cells c2 t2)).alloc (.cells c3 t3)):=(Mod.refl _ _).alloc _
 simp only[World.size_alloc]at a2 a3
 exact⟨(m1.trans m2).trans m3,((a1).k m2).k m3,(a2).k m3,a3⟩
theorem Uk (w:World) (c1 c2 c3 c4:Array Value) (t1 t2 t3 t4:TypeId):Mod (fun _=>False) w ((((w.alloc (.cells c1 t1)).alloc (.cells c2 t2)).alloc (.cells c3 t3)).alloc (.cells c4 t4))/\Bk ((((w.alloc (.cells c1 t1)).alloc (.cells c2 t2)).alloc (.cells c3 t3)).alloc (.cells c4 t4)) (w.heap.size) c1 t1/\Bk ((((w.alloc (.cells c1 t1)).alloc (.cells c2 t2)).alloc (.cells c3 t3)).alloc (.cells c4 t4)) (w.heap.size+1) c2 t2/\Bk ((((w.alloc (.cells c1 t1)).alloc (.cells c2 t2)).alloc (.cells c3 t3)).alloc (.cells c4 t4)) (w.heap.size+1+1) c3 t3/\Bk ((((w.alloc (.cells c1 t1)).alloc (.cells c2 t2)).alloc (.cells c3 t3)).alloc (.cells c4 t4)) (w.heap.size+1+1+1) c4 t4:=by
 have a1:=aQ w c1 t1
 have m1:Mod (fun _=>False) w (w.alloc (.cells c1 t1)):=(Mod.refl _ _).alloc _
 have a2:=aQ (w.alloc (.cells c1 t1)) c2 t2
 have m2:Mod (fun _=>False) (w.alloc (.cells c1 t1)) ((w.alloc (.cells c1 t1)).alloc (.cells c2 t2)):=(Mod.refl _ _).alloc _
 have a3:=aQ ((w.alloc (.cells c1 t1)).alloc (.cells c2 t2)) c3 t3
 have m3:Mod (fun _=>False) ((w.alloc (.cells c1 t1)).alloc (.cells c2 t2)) (((w.alloc (.cells c1 t1)).alloc (.cells c2 t2)).alloc (.cells c3 t3)):=(Mod.refl _ _).alloc _
 have a4:=aQ (((w.alloc (.cells c1 t1)).alloc (.cells c2 t2)).alloc (.cells c3 t3)) c4 t4
 have m4:Mod (fun _=>False) (((w.alloc (.cells c1 t1)).alloc (.cells c2 t2)).alloc (.cells c3 t3)) ((((w.alloc (.cells c1 t1)).alloc (.cells c2 t2)).alloc (.cells c3 t3)).alloc (.cells c4 t4)):=(Mod.refl _ _).alloc _
 simp only[World.size_alloc]at a2 a3 a4
 exact⟨((m1.trans m2).trans m3).trans m4,(((a1).k m2).k m3).k m4,((a2).k m3).k m4,(a3).k m4,a4⟩
theorem abH (w:World) (c1 c2 c3 c4 c5:Array Value) (t1 t2 t3 t4 t5:TypeId):Mod (fun _=>False) w (((((w.alloc (.cells c1 t1)).alloc (.cells c2 t2)).alloc (.cells c3 t3)).alloc (.cells c4 t4)).alloc (.cells c5 t5))/\Bk (((((w.alloc (.cells c1 t1)).alloc (.cells c2 t2)).alloc (.cells c3 t3)).alloc (.cells c4 t4)).alloc (.cells c5 t5)) (w.heap.size) c1 t1/\Bk (((((w.alloc (.cells c1 t1)).alloc (.cells c2 t2)).alloc (.cells c3 t3)).alloc (.cells c4 t4)).alloc (.cells c5 t5)) (w.heap.size+1) c2 t2/\Bk (((((w.alloc (.cells c1 t1)).alloc (.cells c2 t2)).alloc (.cells c3 t3)).alloc (.cells c4 t4)).alloc (.cells c5 t5)) (w.heap.size+1+1) c3 t3/\Bk (((((w.alloc (.cells c1 t1)).alloc (.cells c2 t2)).alloc (.cells c3 t3)).alloc (.cells c4 t4)).alloc (.cells c5 t5)) (w.heap.size+1+1+1) c4 t4/\Bk (((((w.alloc (.cells c1 t1)).alloc (.cells c2 t2)).alloc (.cells c3 t3)).alloc (.cells c4 t4)).alloc (.cells c5 t5)) (w.heap.size+1+1+1+1) c5 t5:=by
 have a1:=aQ w c1 t1
 have m1:Mod (fun _=>False) w (w.alloc (.cells c1 t1)):=(Mod.refl _ _).alloc _
 have a2:=aQ (w.alloc (.cells c1 t1)) c2 t2
 have m2:Mod (fun _=>False) (w.alloc (.cells c1 t1)) ((w.alloc (.cells c1 t1)).alloc (.cells c2 t2)):=(Mod.refl _ _).alloc _
 have a3:=aQ ((w.alloc (.cells c1 t1)).alloc (.cells c2 t2)) c3 t3
 have m3:Mod (fun _=>False) ((w.alloc (.cells c1 t1)).alloc (.cells c2 t2)) (((w.alloc (.cells c1 t1)).alloc (.cells c2 t2)).alloc (.cells c3 t3)):=(Mod.refl _ _).alloc _
 have a4:=aQ (((w.alloc (.cells c1 t1)).alloc (.cells c2 t2)).alloc (.cells c3 t3)) c4 t4
 have m4:Mod (fun _=>False) (((w.alloc (.cells c1 t1)).alloc (.cells c2 t2)).alloc (.cells c3 t3)) ((((w.alloc (.cells c1 t1)).alloc (.cells c2 t2)).alloc (.cells c3 t3)).alloc (.cells c4 t4)):=(Mod.refl _ _).alloc _
 have a5:=aQ ((((w.alloc (.cells c1 t1)).alloc (.cells c2 t2)).alloc (.cells c3 t3)).alloc (.cells c4 t4)) c5 t5
 have m5:Mod (fun _=>False) ((((w.alloc (.cells c1 t1)).alloc (.cells c2 t2)).alloc (.cells c3 t3)).alloc (.cells c4 t4)) (((((w.alloc (.cells c1 t1)).alloc (.cells c2 t2)).alloc (.cells c3 t3)).alloc (.cells c4 t4)).alloc (.cells c5 t5)):=(Mod.refl _ _).alloc _
 simp only[World.size_alloc]at a2 a3 a4 a5
 exact⟨(((m1.trans m2).trans m3).trans m4).trans m5,((((a1).k m2).k m3).k m4).k m5,(((a2).k m3).k m4).k m5,((a3).k m4).k m5,(a4).k m5,a5⟩
theorem abI (w:World) (c1 c2 c3 c4 c5 c6:Array Value) (t1 t2 t3 t4 t5 t6:TypeId):Mod (fun _=>False) w ((((((w.alloc (.cells c1 t1)).alloc (.cells c2 t2)).alloc (.cells c3 t3)).alloc (.cells c4 t4)).alloc (.cells c5 t5)).alloc (.cells c6 t6))/\Bk ((((((w.alloc (.cells c1 t1)).alloc (.cells c2 t2)).alloc (.cells c3 t3)).alloc (.cells c4 t4)).alloc (.cells c5 t5)).alloc (.cells c6 t6)) (w.heap.size) c1 t1/\Bk ((((((w.alloc (.cells c1 t1)).alloc (.cells c2 t2)).alloc (.cells c3 t3)).alloc (.cells c4 t4)).alloc (.cells c5 t5)).alloc (.cells c6 t6)) (w.heap.size+1) c2 t2/\Bk ((((((w.alloc (.cells c1 t1)).alloc (.cells c2 t2)).alloc (.cells c3 t3)).alloc (.cells c4 t4)).alloc (.cells c5 t5)).alloc (.cells c6 t6)) (w.heap.size+1+1) c3 t3/\Bk ((((((w.alloc (.cells c1 t1)).alloc (.cells c2 t2)).alloc (.cells c3 t3)).alloc (.cells c4 t4)).alloc (.cells c5 t5)).alloc (.cells c6 t6)) (w.heap.size+1+1+1) c4 t4/\Bk ((((((w.alloc (.cells c1 t1)).alloc (.cells c2 t2)).alloc (.cells c3 t3)).alloc (.cells c4 t4)).alloc (.cells c5 t5)).alloc (.cells c6 t6)) (w.heap.size+1+1+1+1) c5 t5/\Bk ((((((w.alloc (.cells c1 t1)).alloc (.cells c2 t2)).alloc (.cells c3 t3)).alloc (.cells c4 t4)).alloc (.cells c5 t5)).alloc (.cells c6 t6)) (w.heap.size+1+1+1+1+1) c6 t6:=by
 have a1:=aQ w c1 t1
 have m1:Mod (fun _=>False) w (w.alloc (.cells c1 t1)):=(Mod.refl _ _).alloc _
 have a2:=aQ (w.alloc (.cells c1 t1)) c2 t2
 have m2:Mod (fun _=>False) (w.alloc (.cells c1 t1)) ((w.alloc (.cells c1 t1)).alloc (.cells c2 t2)):=(Mod.refl _ _).alloc _
 have a3:=aQ ((w.alloc (.cells c1 t1)).alloc (.cells c2 t2)) c3 t3
 have m3:Mod (fun _=>False) ((w.alloc (.cells c1 t1)).alloc (.cells c2 t2)) (((w.alloc (.cells c1 t1)).alloc (.cells c2 t2)).alloc (.cells c3 t3)):=(Mod.refl _ _).alloc _
 have a4:=aQ (((w.alloc (.cells c1 t1)).alloc (.cells c2 t2)).alloc (.cells c3 t3)) c4 t4
 have m4:Mod (fun _=>False) (((w.alloc (.cells c1 t1)).alloc (.cells c2 t2)).alloc (.cells c3 t3)) ((((w.alloc (.cells c1 t1)).alloc (.cells c2 t2)).alloc (.cells c3 t3)).alloc (.cells c4 t4)):=(Mod.refl _ _).alloc _
 have a5:=aQ ((((w.alloc (.cells c1 t1)).alloc (.cells c2 t2)).alloc (.cells c3 t3)).alloc (.cells c4 t4)) c5 t5
 have m5:Mod (fun _=>False) ((((w.alloc (.cells c1 t1)).alloc (.cells c2 t2)).alloc (.cells c3 t3)).alloc (.cells c4 t4)) (((((w.alloc (.cells c1 t1)).alloc (.cells c2 t2)).alloc (.cells c3 t3)).alloc (.cells c4 t4)).alloc (.cells c5 t5)):=(Mod.refl _ _).alloc _
 have a6:=aQ (((((w.alloc (.cells c1 t1)).alloc (.cells c2 t2)).alloc (.cells c3 t3)).alloc (.cells c4 t4)).alloc (.cells c5 t5)) c6 t6
 have m6:Mod (fun _=>False) (((((w.alloc (.cells c1 t1)).alloc (.cells c2 t2)).alloc (.cells c3 t3)).alloc (.cells c4 t4)).alloc (.cells c5 t5)) ((((((w.alloc (.cells c1 t1)).alloc (.cells c2 t2)).alloc (.cells c3 t3)).alloc (.cells c4 t4)).alloc (.cells c5 t5)).alloc (.cells c6 t6)):=(Mod.refl _ _).alloc _
 simp only[World.size_alloc]at a2 a3 a4 a5 a6
 exact⟨((((m1.trans m2).trans m3).trans m4).trans m5).trans m6,(((((a1).k m2).k m3).k m4).k m5).k m6,((((a2).k m3).k m4).k m5).k m6,(((a3).k m4).k m5).k m6,((a4).k m5).k m6,(a5).k m6,a6⟩
def n0:NV:=⟨false,none,0,0⟩
def p0:PV:=⟨n0,n0,n0⟩
theorem NI.zero (w:World) {m:Nat} (h:12<=m):NI w ⟨false,none,0,0⟩ 0 m:=⟨[],rfl,⟨⟨fun _ h=>by simp at h,fun _ h=>by simp at h,fun _=>rfl⟩,World.ownsRow_nil _ _ _ _⟩,rfl,h⟩
theorem PI.zero (w:World) {m:Nat} (h:12<=m):PI w ⟨⟨false,none,0,0⟩,⟨false,none,0,0⟩,⟨false,none,0,0⟩⟩ t0 m:=⟨NI.zero w h,NI.zero w h,NI.zero w h⟩
section
variable {w w':World} {x y:NV} {i j:Int} {m n k:Nat} {e:Ending}
theorem uq.of (h:NumEnd w i n e w') (hm:n+12<=m):uq w i m e w':=by
 obtain⟨h1,nb,v,l,rfl,hN,hx,hl⟩:=h
 obtain⟨ao,cap,rfl,-⟩:=aj hN.2
 exact⟨h1,⟨nb,ao,l.length,cap⟩,rfl,l,rfl,hN,hx,by show l.length+12<=m;omega⟩
theorem bM (hx:NI w x i m) (hy:NI w y j n) (h:m+n<=1000000000) (hk:m+n<=k+8):Calls Tryz.prog 153 #[x.v,y.v] w (uq w (i*j) k):=by
 obtain⟨l,l1,l2,rfl,l4⟩:=hx
 obtain⟨r,r1,r2,rfl,r4⟩:=hy
 exact (Dr x.b y.b _ _ l r w l2 r2 (by omega) (by omega)).mono fun e w' h=>uq.of h (by omega)
theorem Ba (hx:NI w x i m) (hy:NI w y j n) (h:m<=1000000000) (h':n<=1000000000) (hk:m+4<=k) (hk':n+4<=k):Calls Tryz.prog 151 #[x.v,y.v] w (uq w (i+j) k):=by
 obtain⟨l,l1,l2,rfl,l4⟩:=hx
 obtain⟨r,r1,r2,rfl,r4⟩:=hy
 exact (A9 x.b y.b _ _ l r w l2 r2 (by omega) (by omega)).mono fun e w' h=>uq.of h (by omega)
theorem tV (hx:NI w x i m) (hy:NI w y j n) (h:m<=1000000000) (h':n<=1000000000) (hk:m+4<=k) (hk':n+4<=k):Calls Tryz.prog 152 #[x.v,y.v] w (uq w (i - j) k):=by
 obtain⟨l,l1,l2,rfl,l4⟩:=hx
 obtain⟨r,r1,r2,rfl,r4⟩:=hy
 exact (Dc x.b y.b _ _ l r w l2 r2 (by omega) (by omega)).mono fun e w' h=>uq.of h (by omega)
theorem xY (hx:NI w x i m) (h:m<=1000000000):Calls Tryz.prog 168 #[x.v] w (uq w (-i) m):=by
 obtain⟨l,l1,l2,rfl,l4⟩:=hx
 refine (Gq x.b _ l w l2 (by omega)).mono fun e w' h=>?_
 obtain⟨rfl,hm⟩:=h
 have hc:=Ar l2.1
 exact⟨hm,⟨sj x.b l,x.a,x.n,x.c⟩,rfl,l,l1,⟨hc.1,(l2.mod hm).2⟩,hc.2,l4⟩
theorem EC (hx:NI w x i m) (h:m<=1000000000):Calls Tryz.prog 107 #[x.v] w fun e w'=>Mod (fun _=>False) w w'/\e=.returned (.int .i64 (jF i)):=by
 obtain⟨l,l1,l2,rfl,l4⟩:=hx
 exact (wV x.b _ l w l2 (by omega)).mono fun e w' h=>⟨h.2,h.1⟩
theorem RD (n:Int) (w:World) (h1:-10000 < n) (h2:n < 10000):Calls Tryz.prog 115 #[.int .i64 n] w (uq w n 13):=(Eo n w h1 h2).mono fun e w' h=>uq.of h (by omega)
theorem NI.neg (h:NI w x i m):(x.b=true↔i < 0):=by obtain⟨l,l1,l2,rfl,l4⟩:=h;exact (l2.1.sign.2).symm
end
end Go.Proofs.YtmnfndpbblpjiabGreatDoor

/- The program's steps: what fits. -/
import Derived.Deep.WholeRow
import Derived.Deep.MidRow
import Derived.Deep.RegionHeld3
import Derived.Deep.AppendLies
import Derived.BigRegion
import Derived.Test.YtmnfndpbblpjiaaGreatDoorZr02
import Derived.Test.YtmnfndpbblpjiaaGreatDoorZr19
namespace Go.Proofs.YtmnfndpbblpjiaaGreatDoor
open Go.RowKit Pu
def stA (t:Stp):Array Value:=#[.int .u8 t.op,.int .u8 t.x,.int .u8 t.y,.int .u8 t.z]
abbrev stV (t:Stp):Value:=.agg #[.int .u8 t.op,.int .u8 t.x,.int .u8 t.y,.int .u8 t.z]
end Go.Proofs.YtmnfndpbblpjiaaGreatDoor

/- A whole block's value loaded, a whole value stored, where a walk stands at the operation. -/
namespace Go.Proofs.YtmnfndpbblpjiaaGreatDoor
open Go.RowKit
theorem wpList_load_row {P:Program} {ops:Array Oper} {rest:List Oper} {op:Oper} {a:Act} {w:World} {Q:Exit→Act→World→Prop} (hgd:op.guard=none) (ty:TypeId) (x:Operand) (ho:op.op=.load ty x)
  (b:Nat) (hx:a.eval x=.pointer (some ⟨b,0,none⟩)) (C:Array Value) (t:TypeId) (fr:Nat × Nat) (hb:w.heap[b]?=some (.cells C t fr)) (d:TypeDesc)
  (hu:P.underlying ty=some d) (hd:d.isRow=true) (hi:(P.info? ty).map (·.size)=some C.size)
  (h:wpList P ops Q rest (a.put op.dst (.agg C)) w):wpList P ops Q (op :: rest) a w :=
 wpList_plain hgd fun _ hK=>by
  have hl:=run_loadVar_row w b t ty C fr d hb hu (by cases d <;> simp_all [TypeDesc.isRow]) hi
  unfold Oper.wp execOp
  simp only [ho,hx,Instr.loadAt,Instr.sureAddr,Sem.run_bind,Sem.run_pure,Result.andThen_ok,hl]
  exact hK _ _ h
theorem wpList_store_row {P:Program} {ops:Array Oper} {rest:List Oper} {op:Oper} {a:Act} {w:World} {Q:Exit→Act→World→Prop} (hgd:op.guard=none) (ty:TypeId) (x y:Operand) (ho:op.op=.store ty x y)
  (b:Nat) (C C':Array Value) (t:TypeId) (hx:a.eval x=.pointer (some ⟨b,0,none⟩)) (hy:a.eval y=.agg C') (hb:w.heap[b]?=some (.cells C t (0,0)))
  (hi:(P.info? ty).map (·.size)=some C'.size) (hs:C.size=C'.size) (h1:C'.all (·.oneCell')=true)
  (h:wpList P ops Q rest (a.put op.dst undef) (w.setRow b C')):wpList P ops Q (op :: rest) a w :=
 wpList_plain hgd fun _ hK=>by
  have hl:=run_storeVar_row w b t ty C C' hb hi hs h1
  unfold Oper.wp execOp
  simp only [ho,hx,hy,Instr.storeAt,Instr.sureAddr,Sem.run_bind,Sem.run_pure,Result.andThen_ok,hl]
  exact hK _ _ h
end Go.Proofs.YtmnfndpbblpjiaaGreatDoor

/- The program's stepFits. -/
namespace Go.Proofs.YtmnfndpbblpjiaaGreatDoor
open Go.RowKit Pu
theorem cells4 {w:World} {b:Nat} {t:Stp} (h:w.heap[b]?=some (.cells #[.int .u8 t.op,.int .u8 t.x,.int .u8 t.y,.int .u8 t.z] 107 (0,0))) :
  w.cell? ⟨b,0,none⟩=some (.int .u8 t.op)∧w.cell? ⟨b,1,none⟩=some (.int .u8 t.x)∧w.cell? ⟨b,2,none⟩=some (.int .u8 t.y)∧w.cell? ⟨b,3,none⟩=some (.int .u8 t.z):=by simp [World.cell?,h]
theorem cells3 {w:World} {b:Nat} {x y z:Value} {ty:TypeId} (h:w.heap[b]?=some (.cells #[x,y,z] ty (0,0))) :
  w.cell? ⟨b,0,none⟩=some x∧w.cell? ⟨b,1,none⟩=some y∧w.cell? ⟨b,2,none⟩=some z:=by simp [World.cell?,h]
theorem alloc2_at (w:World) (o1 o2:Obj):((w.alloc o1).alloc o2).heap[w.heap.size]?=some o1∧((w.alloc o1).alloc o2).heap[w.heap.size+1]?=some o2:=by
 refine ⟨?_,by simpa using heap_alloc_new (w.alloc o1) o2⟩
 rw [Below.heap_alloc _ _ _ (by simp)];exact heap_alloc_new w o1
theorem alloc3_at (w:World) (o1 o2 o3:Obj):(((w.alloc o1).alloc o2).alloc o3).heap[w.heap.size]?=some o1∧(((w.alloc o1).alloc o2).alloc o3).heap[w.heap.size+1]?=some o2∧(((w.alloc o1).alloc o2).alloc o3).heap[w.heap.size+2]?=some o3:=by
 refine ⟨?_,?_,?_⟩
 ·rw [Below.heap_alloc _ _ _ (by simp;omega),Below.heap_alloc _ _ _ (by simp)];exact heap_alloc_new w o1
 ·rw [Below.heap_alloc _ _ _ (by simp)];simpa using heap_alloc_new (w.alloc o1) o2
 ·simpa using heap_alloc_new ((w.alloc o1).alloc o2) o3
theorem Tryz.infoSt:(Tryz.prog.info? 107).map (fun i=>(i.zero,i.size,i.bytes))=some (some (.agg #[.int .u8 0,.int .u8 0,.int .u8 0,.int .u8 0]),4,4):=by kernel_rfl
def pcells (t:Stp):List Value:=[.int .u8 t.op,.int .u8 t.x,.int .u8 t.y,.int .u8 t.z]
def pcellsOf (l:List Stp):List Value:=l.flatMap pcells
theorem pcellsOf_snoc (q:List Stp) (t:Stp):pcellsOf q++pcells t=pcellsOf (q++[t]):=by simp [pcellsOf]
theorem pcellsOf_at (q:List Stp) (j i:Nat) (hj:j < q.length) (hi:i < 4):(pcellsOf q)[j*4+i]?=(pcells q[j])[i]?:=by
 induction q generalizing j with
 | nil=>simp at hj
 | cons t q ih =>
  cases j with
  | zero =>
   simp only [pcellsOf,List.flatMap_cons,Nat.zero_mul,Nat.zero_add,List.getElem_cons_zero]
   rw [List.getElem?_append_left (by simpa [pcells] using hi)]
  | succ j =>
   have:=ih j (by simpa using hj)
   simp only [pcellsOf,List.flatMap_cons,List.getElem_cons_succ] at *
   rw [List.getElem?_append_right (by simp [pcells];omega),← this]
   congr 1
   simp [pcells];omega
def PLst (w:World) (base:Nat) (v:Value) (l:List Stp):Prop:=w.ownsRow base 107 4 v l.length (pcellsOf l)
theorem PLst.cell {w:World} {base:Nat} {ao:Option Addr} {cap:Nat} {l:List Stp} (h:PLst w base (.slice ao l.length cap) l) {j:Nat} (hj:j < l.length) :
  ∃ gb,ao=some ⟨gb,0,none⟩∧w.cell? ⟨gb,j*4,none⟩=some (.int .u8 l[j].op)∧w.cell? ⟨gb,j*4+1,none⟩=some (.int .u8 l[j].x)∧w.cell? ⟨gb,j*4+2,none⟩=some (.int .u8 l[j].y)∧w.cell? ⟨gb,j*4+3,none⟩=some (.int .u8 l[j].z):=by
 unfold PLst at h
 obtain ⟨gb,rfl,h0⟩:=owns_cell h (j:=j*4+0) (by omega)
 have h1:=h.cellAt (j*4+1) (by omega)
 have h2:=h.cellAt (j*4+2) (by omega)
 have h3:=h.cellAt (j*4+3) (by omega)
 rw [pcellsOf_at l j _ hj (by omega)] at h0 h1 h2 h3
 exact ⟨gb,rfl,by simpa [pcells] using h0,by simpa [pcells] using h1,by simpa [pcells] using h2,by simpa [pcells] using h3⟩
theorem PLst.mod {w w':World} {base:Nat} {v:Value} {l:List Stp} (h:PLst w base v l) (hm:Mod (fun _=>False) w w'):PLst w' base v l:=owns_mod h hm (fun _ _ f=>f)
theorem bne_t {c m:Nat} (h:¬ c=m):((c:Int) != (m:Int))=true:=by simp;omega
theorem bne_f {c m:Nat} (h:c=m):((c:Int) != (m:Int))=false:=by subst h;simp
theorem set3_2 {w:World} {b:Nat} {x y z z':Value} {ty:TypeId} (h:w.heap[b]?=some (.cells #[x,y,z] ty (0,0))):(w.setCell ⟨b,2,none⟩ z').heap[b]?=some (.cells #[x,y,z'] ty (0,0)):=by
 simp [World.setCell,Array.getElem?_modify,h]
theorem set3_0 {w:World} {b:Nat} {x y z z':Value} {ty:TypeId} (h:w.heap[b]?=some (.cells #[x,y,z] ty (0,0))):(w.setCell ⟨b,0,none⟩ z').heap[b]?=some (.cells #[z',y,z] ty (0,0)):=by
 simp [World.setCell,Array.getElem?_modify,h]
theorem set3_1 {w:World} {b:Nat} {x y z z':Value} {ty:TypeId} (h:w.heap[b]?=some (.cells #[x,y,z] ty (0,0))):(w.setCell ⟨b,1,none⟩ z').heap[b]?=some (.cells #[x,z',z] ty (0,0)):=by
 simp [World.setCell,Array.getElem?_modify,h]
def set3 (w:World) (b:Nat) (x y z:Value):World:=((w.setCell ⟨b,0,none⟩ x).setCell ⟨b,1,none⟩ y).setCell ⟨b,2,none⟩ z
theorem set3_own (w:World) (b:Nat) (x y z:Value):Mod (fun q=>q=b) w (set3 w b x y z):=by
 have h0:Mod (fun q=>q=b) w (w.setCell ⟨b,0,none⟩ x):=(Mod.refl _ w).setCell ⟨b,0,none⟩ x (fun _=>rfl)
 have h1:=h0.setCell ⟨b,1,none⟩ y (fun _=>rfl)
 exact h1.setCell ⟨b,2,none⟩ z (fun _=>rfl)
theorem set3_mod {p:Nat→Prop} {a w:World} (h:Mod p a w) (b:Nat) (x y z:Value) (hb:a.heap.size≤b):Mod p a (set3 w b x y z):=by
 have h0:=h.setCell ⟨b,0,none⟩ x (fun h=>absurd h (Nat.not_lt.2 hb))
 have h1:=h0.setCell ⟨b,1,none⟩ y (fun h=>absurd h (Nat.not_lt.2 hb))
 exact h1.setCell ⟨b,2,none⟩ z (fun h=>absurd h (Nat.not_lt.2 hb))
theorem set3_at {w:World} {b:Nat} {x y z x' y' z':Value} {ty:TypeId} (h:w.heap[b]?=some (.cells #[x,y,z] ty (0,0))):(set3 w b x' y' z').heap[b]?=some (.cells #[x',y',z'] ty (0,0)):=set3_2 (set3_1 (set3_0 h))
theorem fz3 {w:World} {b:Nat} {C:Array Value} {ty:TypeId} (h:w.heap[b]?=some (.cells C ty (0,0))) (i:Nat):w.frozen? ⟨b,i,none⟩=false:=by simp [World.frozen?,h]
def Stm (w:World) (k:Nat):Prop:=∃ c z,w.heap[k]?=some (.cells c 107 z)∨w.heap[k]?=some (.cells c 86 z)
def Kp (mb:Nat) (w w':World):Prop:=Mod (fun k=>Stm w k∧mb≤k) w w'
section
variable {mb:Nat}
theorem Kp.refl (mb:Nat) (w:World):Kp mb w w:=Mod.refl _ w
theorem Kp.trans {a b c:World} (h:Kp mb a b) (k:Kp mb b c):Kp mb a c :=
 ⟨k.os.trans h.os,k.tape.trans h.tape,k.output.trans h.output,Nat.le_trans h.size k.size,fun i hi hn=>by
  have e:=h.block i hi hn
  rw [← e]
  refine k.block i (Nat.lt_of_lt_of_le hi h.size) (fun ⟨⟨c,z,hc⟩,hb⟩=>hn ⟨⟨c,z,?_⟩,hb⟩)
  rwa [e] at hc⟩
theorem Kp.of {w w':World} (h:Mod (fun _=>False) w w'):Kp mb w w':=h.mono (fun _ _ f=>f.elim)
theorem Kp.alloc {a b:World} (h:Kp mb a b) (o:Obj):Kp mb a (b.alloc o):=Mod.alloc h o
theorem Kp.keep {a b:World} (h:Kp mb a b) {k:Nat} {c:Array Value} {t:TypeId} {z:Nat × Nat} (hk:a.heap[k]?=some (.cells c t z)) (h1:t≠107) (h2:t≠86):b.heap[k]?=some (.cells c t z):=by
 refine Mod.keep h hk ?_
 rintro ⟨⟨c',z',e | e⟩,-⟩
 ·rw [hk] at e;cases e;exact h1 rfl
 ·rw [hk] at e;cases e;exact h2 rfl
end
def Mkr (w:World) (mb:Nat) (L:List Stp) (s i:Nat):Prop:=∃ v,w.heap[mb]?=some (.cells #[v,.int .u8 s,.int .u8 i] 86 (0,0))∧PLst w (mb+1) v L
theorem Mkr.lt {w:World} {mb s i:Nat} {L:List Stp} (h:Mkr w mb L s i):mb < w.heap.size:=by obtain ⟨v,h1,-⟩:=h;exact lt_of_block h1
theorem Mkr.mod {w w':World} {mb s i:Nat} {L:List Stp} (h:Mkr w mb L s i) (hm:Mod (fun _=>False) w w'):Mkr w' mb L s i:=by
 obtain ⟨v,h1,h2⟩:=h
 exact ⟨v,hm.keep h1 (fun f=>f),h2.mod hm⟩
theorem Mkr.alloc {w:World} {mb s i:Nat} {L:List Stp} (h:Mkr w mb L s i) (o:Obj):Mkr (w.alloc o) mb L s i:=h.mod ((Mod.refl _ w).alloc o)
set_option maxHeartbeats 1600000 in
set_option maxRecDepth 4000 in
theorem madd_any (mb:Nat) (L:List Stp) (s i:Nat) (t:Stp) (w:World) (hM:Mkr w mb L s i) (hl:L.length≤3000) (ht:Small t) :
  Calls Tryz.prog 59 #[.pointer (some ⟨mb,0,none⟩),.int .u8 t.op,.int .u8 t.x,.int .u8 t.y,.int .u8 t.z] w fun e w'=>e=.returned (.tuple #[])∧Kp mb w w'∧Mkr w' mb (L++[t]) s i:=by
 obtain ⟨i0,hi,hz0,hz1,hz2⟩:=info_parts Tryz.infoSt
 obtain ⟨v,hb,hP⟩:=hM
 unfold PLst at hP
 obtain ⟨po,pcap,rfl,-⟩:=owns_form hP
 obtain ⟨c0,c1,c2⟩:=cells3 hb
 have hlt:=lt_of_block hb
 obtain ⟨t1,t2,t3,t4⟩:=ht
 have hst:∀ k,(Value.slice po L.length pcap).ownBlock=some k→Stm w k∧mb≤k:=by
  intro k hk
  have hlo:=(hP.lt k hk).1
  obtain ⟨_,⟨he,_⟩ | ⟨g1,c1,cur1,he1,_,hb1,_⟩⟩:=hP
  ·rw [he] at hk;simp [Value.ownBlock] at hk
  ·rw [he1] at hk
   simp [Value.ownBlock] at hk
   subst hk
   exact ⟨⟨_,_,.inl hb1⟩,by omega⟩
 have HST:Hid _:=hst
 have HB:Hid _:=hb
 clear hst hb
 go_enter Tryz.func59,Tryz.ntmps59
 go_wp2_with (at_builtin;refine wpList_append_own _ rfl _ _ 50 rfl (mb+1) 107 i0 _ 4 4 Tryz.underlying50 hi hz0 hz1 hz2 rfl (by decide) _ _ _ rfl (hP.alloc _) ⟨w.heap.size,0,none⟩ 1 1 (pcells t) rfl rfl ?c1 ?c2 ?c3 ?c4 ?c5 ?_)
 case c1=>exact World.news_of_block (cs:=#[.int .u8 t.op,.int .u8 t.x,.int .u8 t.y,.int .u8 t.z]) (t:=107) (fr:=(0,0)) (heap_alloc_new w _)
 case c2=>simp [pcells,Value.oneCell']
 case c3=>unfold maxLen;omega
 case c4=>omega
 case c5=>simp;omega
 intro v' w4 hown4 hgrow _
 obtain ⟨vo,vcap,rfl,-⟩:=owns_form hown4
 have hgm:Mod (fun i=>mb+1≤i) w w4:=((Mod.refl _ w).alloc _).grown hgrow (fun i hi _=>(hP.lt i hi).1)
 have hkp:Kp mb w w4:=Mod.grown ((Mod.refl _ w).alloc _) hgrow (fun i hi _=>HST.out i hi)
 have hb4:=hgm.keep HB.out (by omega)
 have f0:=fz3 hb4 0
 have h5:=set3_0 (z':=.slice vo (L.length+1) vcap) hb4
 have hkp5:Kp mb w (w4.setCell ⟨mb,0,none⟩ (.slice vo (L.length+1) vcap)):=Mod.setCell hkp ⟨mb,0,none⟩ (.slice vo (L.length+1) vcap) (fun _=>⟨⟨_,_,.inr HB.out⟩,Nat.le_refl _⟩)
 have hP5:PLst (w4.setCell ⟨mb,0,none⟩ (.slice vo (L.length+1) vcap)) (mb+1) (.slice vo (L.length+1) vcap) (L++[t]):=by
  unfold PLst;rw [← pcellsOf_snoc]
  refine owns_mod (p:=fun q=>q=mb) (by simpa using hown4) ((Mod.refl _ w4).setCell ⟨mb,0,none⟩ (.slice vo (L.length+1) vcap) (fun _=>rfl)) (fun g h1 h2=>by omega)
 obtain ⟨d0,d1,d2⟩:=cells3 hb4
 have HX:Hid _:=And.intro hkp5 (And.intro h5 hP5)
 clear hown4 hgrow hgm hkp h5 hkp5 hP5 hP HST HB hb4
 go_wp2_with fail
 exact bodyPost_end (v:=.tuple #[]) (by simp [results,Tryz.results59]) rfl ⟨rfl,HX.out.1,_,HX.out.2.1,HX.out.2.2⟩
theorem Mkr.set1 {w:World} {mb s i:Nat} {L:List Stp} (h:Mkr w mb L s i) (j:Nat):Mkr (w.setCell ⟨mb,1,none⟩ (.int .u8 j)) mb L j i∧Kp mb w (w.setCell ⟨mb,1,none⟩ (.int .u8 j)):=by
 obtain ⟨v,hb,hP⟩:=h
 refine ⟨⟨v,set3_1 hb,?_⟩,Mod.setCell (Mod.refl _ w) ⟨mb,1,none⟩ _ (fun _=>⟨⟨_,_,.inr hb⟩,Nat.le_refl _⟩)⟩
 exact owns_mod (p:=fun q=>q=mb) hP ((Mod.refl _ w).setCell ⟨mb,1,none⟩ _ (fun _=>rfl)) (fun g h1 h2=>by omega)
theorem Mkr.set2 {w:World} {mb s i:Nat} {L:List Stp} (h:Mkr w mb L s i) (j:Nat):Mkr (w.setCell ⟨mb,2,none⟩ (.int .u8 j)) mb L s j∧Kp mb w (w.setCell ⟨mb,2,none⟩ (.int .u8 j)):=by
 obtain ⟨v,hb,hP⟩:=h
 refine ⟨⟨v,set3_2 hb,?_⟩,Mod.setCell (Mod.refl _ w) ⟨mb,2,none⟩ _ (fun _=>⟨⟨_,_,.inr hb⟩,Nat.le_refl _⟩)⟩
 exact owns_mod (p:=fun q=>q=mb) hP ((Mod.refl _ w).setCell ⟨mb,2,none⟩ _ (fun _=>rfl)) (fun g h1 h2=>by omega)
theorem Mkr.cells {w:World} {mb s i:Nat} {L:List Stp} (h:Mkr w mb L s i):w.cell? ⟨mb,1,none⟩=some (.int .u8 s)∧w.cell? ⟨mb,2,none⟩=some (.int .u8 i)∧∀ k,w.frozen? ⟨mb,k,none⟩=false:=by
 obtain ⟨v,hb,-⟩:=h
 obtain ⟨c0,c1,c2⟩:=cells3 hb
 exact ⟨c1,c2,fun k=>fz3 hb k⟩
def Room (L:List Stp) (s k:Nat):Prop:=L.length+k≤2500∧s+k≤200
theorem Room.mono {L:List Stp} {s k j:Nat} (h:Room L s k) (hj:j≤k):Room L s j:=⟨by have:=h.1;omega,by have:=h.2;omega⟩
theorem Room.app {L F:List Stp} {s k:Nat} (n:Nat) (h:Room L s (n+k)) (hF:F.length≤n):Room (L++F) (s+n) k:=⟨by have:=h.1;simp;omega,by have:=h.2;omega⟩
def MkEnd (w w':World) (mb:Nat) (L:List Stp) (s i:Nat):Prop:=Kp mb w w'∧Mkr w' mb L s i
set_option maxHeartbeats 800000 in
theorem mwork_any (mb:Nat) (L:List Stp) (s i op y z:Nat) (w:World) (hM:Mkr w mb L s i) (hr:Room L s 1) (h1:op < 256) (h2:y < 256) (h3:z < 256) :
  Calls Tryz.prog 178 #[.pointer (some ⟨mb,0,none⟩),.int .u8 op,.int .u8 y,.int .u8 z] w fun e w'=>e=.returned (.int .u8 s)∧MkEnd w w' mb (L++[⟨op,s,y,z⟩]) (s+1) i:=by
 obtain ⟨r1,r2⟩:=hr
 have w1:IntKind.u8.wrap ((s:Int)+1)=((s+1:Nat):Int):=by simp [IntKind.wrap,IntKind.signed,IntKind.bits];omega
 obtain ⟨c1,c2,f⟩:=hM.cells
 have f1:=f 1
 obtain ⟨hM1,hk1⟩:=hM.set1 (s+1)
 have hlt:=hM.lt
 have hadd:=madd_any mb L (s+1) i ⟨op,s,y,z⟩ _ hM1 (by omega) ⟨h1,by show s < 256;omega,h2,h3⟩
 have HK:Hid _:=hk1
 clear hM hM1 hk1 f
 go_enter Tryz.func178,Tryz.ntmps178
 go_wp2_with fail
 refine hadd.mono ?_
 rintro e w2 ⟨rfl,hk2,hM2⟩
 have HX:Hid _:=And.intro (Kp.trans HK.out hk2) hM2
 clear hadd hk2 hM2 HK
 go_wp2_with fail
 go_ret
 exact ⟨rfl,HX.out⟩
end Go.Proofs.YtmnfndpbblpjiaaGreatDoor

/- The maker's small methods: each sets the next registers. -/
namespace Go.Proofs.YtmnfndpbblpjiaaGreatDoor
open Go.RowKit Pu
abbrev mP (mb:Nat):Value:=.pointer (some ⟨mb,0,none⟩)
abbrev rV (r:Nat):Value:=.int .u8 (r:Int)
theorem MkEnd.trans {a b c:World} {mb s i s' i':Nat} {L L':List Stp} (h:MkEnd a b mb L s i) (k:MkEnd b c mb L' s' i'):MkEnd a c mb L' s' i':=⟨Kp.trans h.1 k.1,k.2⟩
set_option maxHeartbeats 400000 in
theorem mcon_any (mb:Nat) (L:List Stp) (s i n:Nat) (w:World) (hM:Mkr w mb L s i) (hr:Room L s 1) (hn:n < 256) :
  Calls Tryz.prog 154 #[mP mb,rV n] w fun e w'=>e=.returned (rV s)∧MkEnd w w' mb (L++[⟨1,s,n,0⟩]) (s+1) i:=by
 have h:=mwork_any mb L s i 1 n 0 w hM hr (by omega) hn (by omega)
 clear hM
 go_enter Tryz.func154,Tryz.ntmps154
 go_wp2_with fail
 refine h.mono ?_
 rintro e w2 ⟨rfl,hE⟩
 have HE:Hid _:=hE
 clear h hE
 go_wp2_with fail
 go_ret
 exact ⟨rfl,HE.out⟩
set_option maxHeartbeats 400000 in
theorem msum_any (mb:Nat) (L:List Stp) (s i y z:Nat) (w:World) (hM:Mkr w mb L s i) (hr:Room L s 1) (hy:y < 256) (hz:z < 256) :
  Calls Tryz.prog 157 #[mP mb,rV y,rV z] w fun e w'=>e=.returned (rV s)∧MkEnd w w' mb (L++[⟨2,s,y,z⟩]) (s+1) i:=by
 have h:=mwork_any mb L s i 2 y z w hM hr (by omega) hy hz
 clear hM
 go_enter Tryz.func157,Tryz.ntmps157
 go_wp2_with fail
 refine h.mono ?_
 rintro e w2 ⟨rfl,hE⟩
 have HE:Hid _:=hE
 clear h hE
 go_wp2_with fail
 go_ret
 exact ⟨rfl,HE.out⟩
set_option maxHeartbeats 400000 in
theorem mdif_any (mb:Nat) (L:List Stp) (s i y z:Nat) (w:World) (hM:Mkr w mb L s i) (hr:Room L s 1) (hy:y < 256) (hz:z < 256) :
  Calls Tryz.prog 155 #[mP mb,rV y,rV z] w fun e w'=>e=.returned (rV s)∧MkEnd w w' mb (L++[⟨3,s,y,z⟩]) (s+1) i:=by
 have h:=mwork_any mb L s i 3 y z w hM hr (by omega) hy hz
 clear hM
 go_enter Tryz.func155,Tryz.ntmps155
 go_wp2_with fail
 refine h.mono ?_
 rintro e w2 ⟨rfl,hE⟩
 have HE:Hid _:=hE
 clear h hE
 go_wp2_with fail
 go_ret
 exact ⟨rfl,HE.out⟩
set_option maxHeartbeats 400000 in
theorem mpro_any (mb:Nat) (L:List Stp) (s i y z:Nat) (w:World) (hM:Mkr w mb L s i) (hr:Room L s 1) (hy:y < 256) (hz:z < 256) :
  Calls Tryz.prog 150 #[mP mb,rV y,rV z] w fun e w'=>e=.returned (rV s)∧MkEnd w w' mb (L++[⟨4,s,y,z⟩]) (s+1) i:=by
 have h:=mwork_any mb L s i 4 y z w hM hr (by omega) hy hz
 clear hM
 go_enter Tryz.func150,Tryz.ntmps150
 go_wp2_with fail
 refine h.mono ?_
 rintro e w2 ⟨rfl,hE⟩
 have HE:Hid _:=hE
 clear h hE
 go_wp2_with fail
 go_ret
 exact ⟨rfl,HE.out⟩
set_option maxHeartbeats 400000 in
theorem msgn_any (mb:Nat) (L:List Stp) (s i y:Nat) (w:World) (hM:Mkr w mb L s i) (hr:Room L s 1) (hy:y < 256) :
  Calls Tryz.prog 153 #[mP mb,rV y] w fun e w'=>e=.returned (rV s)∧MkEnd w w' mb (L++[⟨5,s,y,0⟩]) (s+1) i:=by
 have h:=mwork_any mb L s i 5 y 0 w hM hr (by omega) hy (by omega)
 clear hM
 go_enter Tryz.func153,Tryz.ntmps153
 go_wp2_with fail
 refine h.mono ?_
 rintro e w2 ⟨rfl,hE⟩
 have HE:Hid _:=hE
 clear h hE
 go_wp2_with fail
 go_ret
 exact ⟨rfl,HE.out⟩
set_option maxHeartbeats 800000 in
theorem mneg_any (mb:Nat) (L:List Stp) (s i y:Nat) (w:World) (hM:Mkr w mb L s i) (hroom:Room L s 2) (hy:y < 256) :
  Calls Tryz.prog 149 #[mP mb,rV y] w fun e w'=>e=.returned (rV (s+1))∧MkEnd w w' mb (L++negL s y) (s+2) i:=by
 have r2:=hroom.2
 go_enter Tryz.func149,Tryz.ntmps149
 go_wp2_with fail
 refine (mcon_any mb L s i 0 w hM (hroom.mono (by omega)) (by omega)).mono ?_
 rintro e w1 ⟨rfl,hE1⟩
 have R1:Room (L++[⟨1,s,0,0⟩]) (s+1) 1:=Room.app 1 (k:=1) hroom (by simp)
 have HE1:Hid _:=hE1
 clear hE1 hM
 go_wp2_with fail
 refine (mdif_any mb (L++[⟨1,s,0,0⟩]) (s+1) i s y w1 HE1.out.2 (R1.mono (by omega)) (by omega) hy).mono ?_
 rintro e w2 ⟨rfl,hE2⟩
 have HE2:Hid _:=MkEnd.trans HE1.out hE2
 clear hE2 HE1
 go_wp2_with fail
 go_ret
 have hL:((L++[⟨1,s,0,0⟩])++[⟨3,s+1,s,y⟩])=L++negL s y:=by simp [negL]
 exact ⟨rfl,by rw [← hL];exact HE2.out⟩
set_option maxHeartbeats 800000 in
theorem misn_any (mb:Nat) (L:List Stp) (s i y:Nat) (w:World) (hM:Mkr w mb L s i) (hroom:Room L s 4) (hy:y < 256) :
  Calls Tryz.prog 97 #[mP mb,rV y] w fun e w'=>e=.returned (rV (s+3))∧MkEnd w w' mb (L++isnL s y) (s+4) i:=by
 have r2:=hroom.2
 go_enter Tryz.func97,Tryz.ntmps97
 go_wp2_with fail
 refine (msgn_any mb L s i y w hM (hroom.mono (by omega)) hy).mono ?_
 rintro e w1 ⟨rfl,hE1⟩
 have R1:Room (L++[⟨5,s,y,0⟩]) (s+1) 3:=Room.app 1 (k:=3) hroom (by simp)
 have HE1:Hid _:=hE1
 clear hE1 hM
 go_wp2_with fail
 refine (mpro_any mb (L++[⟨5,s,y,0⟩]) (s+1) i s s w1 HE1.out.2 (R1.mono (by omega)) (by omega) (by omega)).mono ?_
 rintro e w2 ⟨rfl,hE2⟩
 have R2:Room ((L++[⟨5,s,y,0⟩])++[⟨4,s+1,s,s⟩]) (s+2) 2:=Room.app 1 (k:=2) R1 (by simp)
 have HE2:Hid _:=MkEnd.trans HE1.out hE2
 clear hE2 HE1
 go_wp2_with fail
 refine (mcon_any mb ((L++[⟨5,s,y,0⟩])++[⟨4,s+1,s,s⟩]) (s+2) i 1 w2 HE2.out.2 (R2.mono (by omega)) (by omega)).mono ?_
 rintro e w3 ⟨rfl,hE3⟩
 have R3:Room (((L++[⟨5,s,y,0⟩])++[⟨4,s+1,s,s⟩])++[⟨1,s+2,1,0⟩]) (s+3) 1:=Room.app 1 (k:=1) R2 (by simp)
 have HE3:Hid _:=MkEnd.trans HE2.out hE3
 clear hE3 HE2
 go_wp2_with fail
 refine (mdif_any mb (((L++[⟨5,s,y,0⟩])++[⟨4,s+1,s,s⟩])++[⟨1,s+2,1,0⟩]) (s+3) i (s+2) (s+1) w3 HE3.out.2 (R3.mono (by omega)) (by omega) (by omega)).mono ?_
 rintro e w4 ⟨rfl,hE4⟩
 have HE4:Hid _:=MkEnd.trans HE3.out hE4
 clear hE4 HE3
 go_wp2_with fail
 go_ret
 have hL:((((L++[⟨5,s,y,0⟩])++[⟨4,s+1,s,s⟩])++[⟨1,s+2,1,0⟩])++[⟨3,s+3,s+2,s+1⟩])=L++isnL s y:=by simp [isnL]
 exact ⟨rfl,by rw [← hL];exact HE4.out⟩
set_option maxHeartbeats 800000 in
theorem mpS_any (mb:Nat) (L:List Stp) (s i p q r t:Nat) (w:World) (hM:Mkr w mb L s i) (hroom:Room L s 3) (hp:p < 256) (hq:q < 256) (hr:r < 256) (ht:t < 256) :
  Calls Tryz.prog 106 #[mP mb,rV p,rV q,rV r,rV t] w fun e w'=>e=.returned (rV (s+2))∧MkEnd w w' mb (L++prodS s p q r t) (s+3) i:=by
 have r2:=hroom.2
 go_enter Tryz.func106,Tryz.ntmps106
 go_wp2_with fail
 refine (mpro_any mb L s i p q w hM (hroom.mono (by omega)) hp hq).mono ?_
 rintro e w1 ⟨rfl,hE1⟩
 have R1:Room (L++[⟨4,s,p,q⟩]) (s+1) 2:=Room.app 1 (k:=2) hroom (by simp)
 have HE1:Hid _:=hE1
 clear hE1 hM
 go_wp2_with fail
 refine (mpro_any mb (L++[⟨4,s,p,q⟩]) (s+1) i r t w1 HE1.out.2 (R1.mono (by omega)) hr ht).mono ?_
 rintro e w2 ⟨rfl,hE2⟩
 have R2:Room ((L++[⟨4,s,p,q⟩])++[⟨4,s+1,r,t⟩]) (s+2) 1:=Room.app 1 (k:=1) R1 (by simp)
 have HE2:Hid _:=MkEnd.trans HE1.out hE2
 clear hE2 HE1
 go_wp2_with fail
 refine (msum_any mb ((L++[⟨4,s,p,q⟩])++[⟨4,s+1,r,t⟩]) (s+2) i s (s+1) w2 HE2.out.2 (R2.mono (by omega)) (by omega) (by omega)).mono ?_
 rintro e w3 ⟨rfl,hE3⟩
 have HE3:Hid _:=MkEnd.trans HE2.out hE3
 clear hE3 HE2
 go_wp2_with fail
 go_ret
 have hL:(((L++[⟨4,s,p,q⟩])++[⟨4,s+1,r,t⟩])++[⟨2,s+2,s,s+1⟩])=L++prodS s p q r t:=by simp [prodS]
 exact ⟨rfl,by rw [← hL];exact HE3.out⟩
set_option maxHeartbeats 800000 in
theorem mpD_any (mb:Nat) (L:List Stp) (s i p q r t:Nat) (w:World) (hM:Mkr w mb L s i) (hroom:Room L s 3) (hp:p < 256) (hq:q < 256) (hr:r < 256) (ht:t < 256) :
  Calls Tryz.prog 152 #[mP mb,rV p,rV q,rV r,rV t] w fun e w'=>e=.returned (rV (s+2))∧MkEnd w w' mb (L++prodD s p q r t) (s+3) i:=by
 have r2:=hroom.2
 go_enter Tryz.func152,Tryz.ntmps152
 go_wp2_with fail
 refine (mpro_any mb L s i p q w hM (hroom.mono (by omega)) hp hq).mono ?_
 rintro e w1 ⟨rfl,hE1⟩
 have R1:Room (L++[⟨4,s,p,q⟩]) (s+1) 2:=Room.app 1 (k:=2) hroom (by simp)
 have HE1:Hid _:=hE1
 clear hE1 hM
 go_wp2_with fail
 refine (mpro_any mb (L++[⟨4,s,p,q⟩]) (s+1) i r t w1 HE1.out.2 (R1.mono (by omega)) hr ht).mono ?_
 rintro e w2 ⟨rfl,hE2⟩
 have R2:Room ((L++[⟨4,s,p,q⟩])++[⟨4,s+1,r,t⟩]) (s+2) 1:=Room.app 1 (k:=1) R1 (by simp)
 have HE2:Hid _:=MkEnd.trans HE1.out hE2
 clear hE2 HE1
 go_wp2_with fail
 refine (mdif_any mb ((L++[⟨4,s,p,q⟩])++[⟨4,s+1,r,t⟩]) (s+2) i s (s+1) w2 HE2.out.2 (R2.mono (by omega)) (by omega) (by omega)).mono ?_
 rintro e w3 ⟨rfl,hE3⟩
 have HE3:Hid _:=MkEnd.trans HE2.out hE3
 clear hE3 HE2
 go_wp2_with fail
 go_ret
 have hL:(((L++[⟨4,s,p,q⟩])++[⟨4,s+1,r,t⟩])++[⟨3,s+2,s,s+1⟩])=L++prodD s p q r t:=by simp [prodD]
 exact ⟨rfl,by rw [← hL];exact HE3.out⟩
set_option maxHeartbeats 800000 in
theorem minp_any (mb:Nat) (L:List Stp) (s i:Nat) (w:World) (hM:Mkr w mb L s i) (hr:Room L s 1) (hi:i < 200) :
  Calls Tryz.prog 156 #[mP mb] w fun e w'=>e=.returned (rV s)∧MkEnd w w' mb (L++[⟨0,s,i,0⟩]) (s+1) (i+1):=by
 have w1:IntKind.u8.wrap ((i:Int)+1)=((i+1:Nat):Int):=by simp [IntKind.wrap,IntKind.signed,IntKind.bits];omega
 obtain ⟨c1,c2,f⟩:=hM.cells
 have f2:=f 2
 obtain ⟨hM1,hk1⟩:=hM.set2 (i+1)
 have hlt:=hM.lt
 have h:=mwork_any mb L s (i+1) 0 i 0 _ hM1 hr (by omega) (by omega) (by omega)
 have HK:Hid _:=hk1
 clear hM hM1 hk1 f
 go_enter Tryz.func156,Tryz.ntmps156
 go_wp2_with fail
 refine h.mono ?_
 rintro e w2 ⟨rfl,hk2,hM2⟩
 have HX:Hid _:=And.intro (Kp.trans HK.out hk2) hM2
 clear h hk2 hM2 HK
 go_wp2_with fail
 go_ret
 exact ⟨rfl,HX.out⟩
abbrev trV (t:Tr):Value:=.agg #[rV t.x,rV t.y,rV t.w]
abbrev trO (t:Tr):Obj:=.cells #[rV t.x,rV t.y,rV t.w] 88
theorem sz_al (w:World) (o:Obj):(w.alloc o).heap.size=w.heap.size+1:=by simp
abbrev trZ:Obj:=.cells #[.int .u8 0,.int .u8 0,.int .u8 0] 88
def S8 (t:Tr):Prop:=t.x < 256∧t.y < 256∧t.w < 256
abbrev At3 (w:World) (k:Nat) (x y z:Value):Prop:=w.heap[k]?=some (.cells #[x,y,z] 88 (0,0))
abbrev AtT (w:World) (k:Nat) (t:Tr):Prop:=At3 w k (rV t.x) (rV t.y) (rV t.w)
theorem At3.kp {w w':World} {mb k:Nat} {x y z:Value} (h:At3 w k x y z) (hk:Kp mb w w'):At3 w' k x y z:=hk.keep h (by decide) (by decide)
theorem At3.md {w w':World} {k:Nat} {x y z:Value} (h:At3 w k x y z) (hk:Mod (fun _=>False) w w'):At3 w' k x y z:=hk.keep h (fun f=>f)
theorem At3.al {w:World} {k:Nat} {x y z:Value} (h:At3 w k x y z) (o:Obj):At3 (w.alloc o) k x y z:=h.md ((Mod.refl _ w).alloc o)
theorem MkEnd.al {a b:World} {mb s i:Nat} {L:List Stp} (h:MkEnd a b mb L s i) (o:Obj):MkEnd a (b.alloc o) mb L s i:=⟨h.1.alloc o,h.2.alloc o⟩
theorem MkEnd.st {a b:World} {mb s i k:Nat} {L:List Stp} {x y z x' y' z':Value} (h:MkEnd a b mb L s i) (hz:At3 b k x y z) (hk:a.heap.size≤k):MkEnd a (set3 b k x' y' z') mb L s i:=by
 refine ⟨set3_mod h.1 k x' y' z' hk,?_⟩
 obtain ⟨v,hb,hP⟩:=h.2
 have hm:=set3_own b k x' y' z'
 refine ⟨v,hm.keep hb (fun e=>?_),owns_mod' hP hm (fun g hg e=>?_)⟩
 ·subst e;unfold At3 at hz;rw [hb] at hz;cases hz
 ·subst e
  obtain ⟨_,⟨he,_⟩ | ⟨g1,c1,cur1,he1,_,hb1,_⟩⟩:=hP
  ·rw [he] at hg;simp [Value.ownBlock] at hg
  ·rw [he1] at hg
   simp [Value.ownBlock] at hg
   subst hg
   unfold At3 at hz
   rw [hb1] at hz;cases hz
set_option maxHeartbeats 1600000 in
theorem mcross_any (mb:Nat) (L:List Stp) (s i:Nat) (a b:Tr) (w:World) (hM:Mkr w mb L s i) (hroom:Room L s 9) (h_a:S8 a) (h_b:S8 b) :
  Calls Tryz.prog 105 #[mP mb,trV a,trV b] w fun e w'=>e=.returned (trV (crossR s))∧MkEnd w w' mb (L++crossL s a b) (s+9) (i+0):=by
 obtain ⟨h_ax,h_ay,h_aw⟩:=h_a
 obtain ⟨h_bx,h_by,h_bw⟩:=h_b
 have r2:=hroom.2
 have E0:MkEnd w (((((w.alloc (trO a))).alloc (trO b))).alloc (trZ)) mb L s i:=(MkEnd.al (MkEnd.al (MkEnd.al (show MkEnd w w mb L s i from ⟨Kp.refl mb w,hM⟩) _) _) _)
 have f_a:AtT (((((w.alloc (trO a))).alloc (trO b))).alloc (trZ)) (w.heap.size) a:=by
  have h:=heap_alloc_new w (trO a)
  exact (At3.al (At3.al h _) _)
 have f_b:AtT (((((w.alloc (trO a))).alloc (trO b))).alloc (trZ)) (w.heap.size+1) b:=by
  have h:=heap_alloc_new (w.alloc (trO a)) (trO b)
  simp only [sz_al] at h
  exact (At3.al h _)
 have f_RES:At3 (((((w.alloc (trO a))).alloc (trO b))).alloc (trZ)) (w.heap.size+1+1) (.int .u8 0) (.int .u8 0) (.int .u8 0):=by
  have h:=heap_alloc_new (((w.alloc (trO a))).alloc (trO b)) (trZ)
  simp only [sz_al] at h
  exact h
 have hsz:w.heap.size+3≤((((((w.alloc (trO a))).alloc (trO b))).alloc (trZ))).heap.size:=by simp only [sz_al];omega
 go_enter Tryz.func105,Tryz.ntmps105
 go_wp2_with fail
 generalize (((w.alloc (.cells #[rV a.x,rV a.y,rV a.w] 88)).alloc (.cells #[rV b.x,rV b.y,rV b.w] 88)).alloc (.cells #[.int .u8 0,.int .u8 0,.int .u8 0] 88))=w0 at *
 refine (mpD_any mb _ s i a.y b.w a.w b.y w0 E0.2 (hroom.mono (by omega)) h_ay h_bw h_aw h_by).mono ?_
 rintro e w1 ⟨he,k1⟩
 obtain ⟨v_x,hv⟩:∃ x:Nat,x=s+2:=⟨_,rfl⟩
 have b_x:v_x < 256:=by omega
 have he2:e=.returned (rV v_x):=by rw [hv];exact he
 have Hv_x:Hid (v_x=s+2):=hv
 clear he hv
 subst he2
 have E1:MkEnd w w1 mb (L++prodD s a.y b.w a.w b.y) (s+3) (i):=MkEnd.trans E0 k1
 have R1:Room (L++prodD s a.y b.w a.w b.y) (s+3) 6:=Room.app 3 (k:=6) hroom (Nat.le_of_eq rfl)
 replace f_a:=At3.kp f_a k1.1
 replace f_b:=At3.kp f_b k1.1
 replace f_RES:=At3.kp f_RES k1.1
 replace hsz:=Nat.le_trans hsz k1.1.size
 clear k1 E0 hroom
 obtain ⟨q_a0,q_a1,q_a2⟩:=cells3 f_a
 obtain ⟨q_b0,q_b1,q_b2⟩:=cells3 f_b
 have HH:Hid _:=And.intro E1 (And.intro hsz (And.intro f_a (And.intro f_b f_RES)))
 clear E1 hsz f_a f_b f_RES
 go_wp2_with fail
 clear q_a0 q_a1 q_a2 q_b0 q_b1 q_b2
 obtain ⟨E1,hsz,f_a,f_b,f_RES⟩:=HH.out
 clear HH
 refine (mpD_any mb _ (s+3) i a.w b.x a.x b.w w1 E1.2 (R1.mono (by omega)) h_aw h_bx h_ax h_bw).mono ?_
 rintro e w2 ⟨he,k2⟩
 obtain ⟨v_y,hv⟩:∃ x:Nat,x=s+3+2:=⟨_,rfl⟩
 have b_y:v_y < 256:=by omega
 have he2:e=.returned (rV v_y):=by rw [hv];exact he
 have Hv_y:Hid (v_y=s+3+2):=hv
 clear he hv
 subst he2
 have E2:MkEnd w w2 mb ((L++prodD s a.y b.w a.w b.y)++prodD (s+3) a.w b.x a.x b.w) (s+6) (i):=MkEnd.trans E1 k2
 have R2:Room ((L++prodD s a.y b.w a.w b.y)++prodD (s+3) a.w b.x a.x b.w) (s+6) 3:=Room.app 3 (k:=3) R1 (Nat.le_of_eq rfl)
 replace f_a:=At3.kp f_a k2.1
 replace f_b:=At3.kp f_b k2.1
 replace f_RES:=At3.kp f_RES k2.1
 replace hsz:=Nat.le_trans hsz k2.1.size
 clear k2 E1 R1
 obtain ⟨q_a0,q_a1,q_a2⟩:=cells3 f_a
 obtain ⟨q_b0,q_b1,q_b2⟩:=cells3 f_b
 have HH:Hid _:=And.intro E2 (And.intro hsz (And.intro f_a (And.intro f_b f_RES)))
 clear E2 hsz f_a f_b f_RES
 go_wp2_with fail
 clear q_a0 q_a1 q_a2 q_b0 q_b1 q_b2
 obtain ⟨E2,hsz,f_a,f_b,f_RES⟩:=HH.out
 clear HH
 refine (mpD_any mb _ (s+6) i a.x b.y a.y b.x w2 E2.2 (R2.mono (by omega)) h_ax h_by h_ay h_bx).mono ?_
 rintro e w3 ⟨he,k3⟩
 obtain ⟨v_w,hv⟩:∃ x:Nat,x=s+6+2:=⟨_,rfl⟩
 have b_w:v_w < 256:=by omega
 have he2:e=.returned (rV v_w):=by rw [hv];exact he
 have Hv_w:Hid (v_w=s+6+2):=hv
 clear he hv
 subst he2
 have E3:MkEnd w w3 mb (((L++prodD s a.y b.w a.w b.y)++prodD (s+3) a.w b.x a.x b.w)++prodD (s+6) a.x b.y a.y b.x) (s+9) (i):=MkEnd.trans E2 k3
 replace f_a:=At3.kp f_a k3.1
 replace f_b:=At3.kp f_b k3.1
 replace f_RES:=At3.kp f_RES k3.1
 replace hsz:=Nat.le_trans hsz k3.1.size
 clear k3 E2 R2
 have z0:=fz3 f_RES 0
 have z1:=fz3 f_RES 1
 have z2:=fz3 f_RES 2
 obtain ⟨y0,y1,y2⟩:=cells3 f_RES
 have HC:Hid _:=cells3 (set3_at (x':=rV (v_x)) (y':=rV (v_y)) (z':=rV (v_w)) f_RES)
 have HE:Hid _:=E3.st (x':=rV (v_x)) (y':=rV (v_y)) (z':=rV (v_w)) f_RES (by omega)
 have hlt:=lt_of_block f_RES
 clear E3 f_a f_b f_RES
 go_wp2_with fail
 obtain ⟨g0,g1,g2⟩:=HC.out
 unfold set3 at g0 g1 g2
 have hL:(((L++prodD s a.y b.w a.w b.y)++prodD (s+3) a.w b.x a.x b.w)++prodD (s+6) a.x b.y a.y b.x)=L++crossL s a b:=by
  have e_x:=Hv_x.out
  have e_y:=Hv_y.out
  have e_w:=Hv_w.out
  subst e_x e_y e_w
  simp only [List.append_assoc]
  rfl
 have hR:(.agg #[rV (v_x),rV (v_y),rV (v_w)]:Value)=trV (crossR s):=by rw [Hv_x.out,Hv_y.out,Hv_w.out];rfl
 exact bodyPost_ret (v:=.agg #[rV (v_x),rV (v_y),rV (v_w)]) (by simp [results,Tryz.results105,go_sem,g0,g1,g2]) rfl ⟨by rw [hR],by rw [← hL];exact HE.out⟩
set_option maxHeartbeats 1600000 in
theorem mdot_any (mb:Nat) (L:List Stp) (s i:Nat) (a b:Tr) (w:World) (hM:Mkr w mb L s i) (hroom:Room L s 5) (h_a:S8 a) (h_b:S8 b) :
  Calls Tryz.prog 147 #[mP mb,trV a,trV b] w fun e w'=>e=.returned (rV (s+4))∧MkEnd w w' mb (L++dotL s a b) (s+5) (i+0):=by
 obtain ⟨h_ax,h_ay,h_aw⟩:=h_a
 obtain ⟨h_bx,h_by,h_bw⟩:=h_b
 have r2:=hroom.2
 have E0:MkEnd w (((w.alloc (trO a))).alloc (trO b)) mb L s i:=(MkEnd.al (MkEnd.al (show MkEnd w w mb L s i from ⟨Kp.refl mb w,hM⟩) _) _)
 have f_a:AtT (((w.alloc (trO a))).alloc (trO b)) (w.heap.size) a:=by
  have h:=heap_alloc_new w (trO a)
  exact (At3.al h _)
 have f_b:AtT (((w.alloc (trO a))).alloc (trO b)) (w.heap.size+1) b:=by
  have h:=heap_alloc_new (w.alloc (trO a)) (trO b)
  simp only [sz_al] at h
  exact h
 have hsz:w.heap.size+2≤((((w.alloc (trO a))).alloc (trO b))).heap.size:=by simp only [sz_al];omega
 go_enter Tryz.func147,Tryz.ntmps147
 go_wp2_with fail
 generalize ((w.alloc (.cells #[rV a.x,rV a.y,rV a.w] 88)).alloc (.cells #[rV b.x,rV b.y,rV b.w] 88))=w0 at *
 refine (mpS_any mb _ s i a.x b.x a.y b.y w0 E0.2 (hroom.mono (by omega)) h_ax h_bx h_ay h_by).mono ?_
 rintro e w1 ⟨he,k1⟩
 obtain ⟨v_xy,hv⟩:∃ x:Nat,x=s+2:=⟨_,rfl⟩
 have b_xy:v_xy < 256:=by omega
 have he2:e=.returned (rV v_xy):=by rw [hv];exact he
 have Hv_xy:Hid (v_xy=s+2):=hv
 clear he hv
 subst he2
 have E1:MkEnd w w1 mb (L++prodS s a.x b.x a.y b.y) (s+3) (i):=MkEnd.trans E0 k1
 have R1:Room (L++prodS s a.x b.x a.y b.y) (s+3) 2:=Room.app 3 (k:=2) hroom (Nat.le_of_eq rfl)
 replace f_a:=At3.kp f_a k1.1
 replace f_b:=At3.kp f_b k1.1
 replace hsz:=Nat.le_trans hsz k1.1.size
 clear k1 E0 hroom
 obtain ⟨q_a0,q_a1,q_a2⟩:=cells3 f_a
 obtain ⟨q_b0,q_b1,q_b2⟩:=cells3 f_b
 have HH:Hid _:=And.intro E1 (And.intro hsz (And.intro f_a f_b))
 clear E1 hsz f_a f_b
 go_wp2_with fail
 clear q_a0 q_a1 q_a2 q_b0 q_b1 q_b2
 obtain ⟨E1,hsz,f_a,f_b⟩:=HH.out
 clear HH
 refine (mpro_any mb _ (s+3) i a.w b.w w1 E1.2 (R1.mono (by omega)) h_aw h_bw).mono ?_
 rintro e w2 ⟨he,k2⟩
 obtain ⟨v_w,hv⟩:∃ x:Nat,x=s+3:=⟨_,rfl⟩
 have b_w:v_w < 256:=by omega
 have he2:e=.returned (rV v_w):=by rw [hv];exact he
 have Hv_w:Hid (v_w=s+3):=hv
 clear he hv
 subst he2
 have E2:MkEnd w w2 mb ((L++prodS s a.x b.x a.y b.y)++[⟨4,s+3,a.w,b.w⟩]) (s+4) (i):=MkEnd.trans E1 k2
 have R2:Room ((L++prodS s a.x b.x a.y b.y)++[⟨4,s+3,a.w,b.w⟩]) (s+4) 1:=Room.app 1 (k:=1) R1 (Nat.le_of_eq rfl)
 replace f_a:=At3.kp f_a k2.1
 replace f_b:=At3.kp f_b k2.1
 replace hsz:=Nat.le_trans hsz k2.1.size
 clear k2 E1 R1
 obtain ⟨q_a0,q_a1,q_a2⟩:=cells3 f_a
 obtain ⟨q_b0,q_b1,q_b2⟩:=cells3 f_b
 have HH:Hid _:=And.intro E2 (And.intro hsz (And.intro f_a f_b))
 clear E2 hsz f_a f_b
 go_wp2_with fail
 clear q_a0 q_a1 q_a2 q_b0 q_b1 q_b2
 obtain ⟨E2,hsz,f_a,f_b⟩:=HH.out
 clear HH
 refine (msum_any mb _ (s+4) i v_xy v_w w2 E2.2 (R2.mono (by omega)) b_xy b_w).mono ?_
 rintro e w3 ⟨rfl,k3⟩
 have E3:MkEnd w w3 mb (((L++prodS s a.x b.x a.y b.y)++[⟨4,s+3,a.w,b.w⟩])++[⟨2,s+4,v_xy,v_w⟩]) (s+5) (i):=MkEnd.trans E2 k3
 replace f_a:=At3.kp f_a k3.1
 replace f_b:=At3.kp f_b k3.1
 replace hsz:=Nat.le_trans hsz k3.1.size
 clear k3 E2 R2
 have HE:Hid _:=E3
 clear E3 f_a f_b
 go_wp2_with fail
 go_ret
 have hL:(((L++prodS s a.x b.x a.y b.y)++[⟨4,s+3,a.w,b.w⟩])++[⟨2,s+4,v_xy,v_w⟩])=L++dotL s a b:=by
  have e_xy:=Hv_xy.out
  have e_w:=Hv_w.out
  subst e_xy e_w
  simp only [List.append_assoc]
  rfl
 exact ⟨rfl,by rw [← hL];exact HE.out⟩
set_option maxHeartbeats 1600000 in
theorem mvol_any (mb:Nat) (L:List Stp) (s i:Nat) (a b c:Tr) (w:World) (hM:Mkr w mb L s i) (hroom:Room L s 14) (h_a:S8 a) (h_b:S8 b) (h_c:S8 c) :
  Calls Tryz.prog 94 #[mP mb,trV a,trV b,trV c] w fun e w'=>e=.returned (rV (s+13))∧MkEnd w w' mb (L++volL s a b c) (s+14) (i+0):=by
 obtain ⟨h_ax,h_ay,h_aw⟩:=h_a
 obtain ⟨h_bx,h_by,h_bw⟩:=h_b
 obtain ⟨h_cx,h_cy,h_cw⟩:=h_c
 have r2:=hroom.2
 have E0:MkEnd w (((((w.alloc (trO a))).alloc (trO b))).alloc (trO c)) mb L s i:=(MkEnd.al (MkEnd.al (MkEnd.al (show MkEnd w w mb L s i from ⟨Kp.refl mb w,hM⟩) _) _) _)
 have f_a:AtT (((((w.alloc (trO a))).alloc (trO b))).alloc (trO c)) (w.heap.size) a:=by
  have h:=heap_alloc_new w (trO a)
  exact (At3.al (At3.al h _) _)
 have f_b:AtT (((((w.alloc (trO a))).alloc (trO b))).alloc (trO c)) (w.heap.size+1) b:=by
  have h:=heap_alloc_new (w.alloc (trO a)) (trO b)
  simp only [sz_al] at h
  exact (At3.al h _)
 have f_c:AtT (((((w.alloc (trO a))).alloc (trO b))).alloc (trO c)) (w.heap.size+1+1) c:=by
  have h:=heap_alloc_new (((w.alloc (trO a))).alloc (trO b)) (trO c)
  simp only [sz_al] at h
  exact h
 have hsz:w.heap.size+3≤((((((w.alloc (trO a))).alloc (trO b))).alloc (trO c))).heap.size:=by simp only [sz_al];omega
 go_enter Tryz.func94,Tryz.ntmps94
 go_wp2_with fail
 generalize (((w.alloc (.cells #[rV a.x,rV a.y,rV a.w] 88)).alloc (.cells #[rV b.x,rV b.y,rV b.w] 88)).alloc (.cells #[rV c.x,rV c.y,rV c.w] 88))=w0 at *
 refine (mcross_any mb _ s i a b w0 E0.2 (hroom.mono (by omega)) ⟨h_ax,h_ay,h_aw⟩ ⟨h_bx,h_by,h_bw⟩).mono ?_
 rintro e w1 ⟨rfl,k1⟩
 have E1:MkEnd w w1 mb (L++crossL s a b) (s+9) (i):=MkEnd.trans E0 k1
 have R1:Room (L++crossL s a b) (s+9) 5:=Room.app 9 (k:=5) hroom (Nat.le_of_eq rfl)
 replace f_a:=At3.kp f_a k1.1
 replace f_b:=At3.kp f_b k1.1
 replace f_c:=At3.kp f_c k1.1
 replace hsz:=Nat.le_trans hsz k1.1.size
 clear k1 E0 hroom
 have f_t:AtT (w1.alloc (.cells #[rV (crossR s).x,rV (crossR s).y,rV (crossR s).w] 88)) w1.heap.size (crossR s):=heap_alloc_new w1 _
 replace E1:=E1.al (.cells #[rV (crossR s).x,rV (crossR s).y,rV (crossR s).w] 88)
 replace f_a:=At3.al f_a (.cells #[rV (crossR s).x,rV (crossR s).y,rV (crossR s).w] 88)
 replace f_b:=At3.al f_b (.cells #[rV (crossR s).x,rV (crossR s).y,rV (crossR s).w] 88)
 replace f_c:=At3.al f_c (.cells #[rV (crossR s).x,rV (crossR s).y,rV (crossR s).w] 88)
 replace hsz:_≤(w1.alloc (.cells #[rV (crossR s).x,rV (crossR s).y,rV (crossR s).w] 88)).heap.size:=Nat.le_trans hsz (by simp)
 obtain ⟨q_a0,q_a1,q_a2⟩:=cells3 f_a
 obtain ⟨q_b0,q_b1,q_b2⟩:=cells3 f_b
 obtain ⟨q_c0,q_c1,q_c2⟩:=cells3 f_c
 obtain ⟨q_t0,q_t1,q_t2⟩:=cells3 f_t
 have HH:Hid _:=And.intro E1 (And.intro hsz (And.intro f_a (And.intro f_b (And.intro f_c f_t))))
 clear E1 hsz f_a f_b f_c f_t
 go_wp2_with fail
 generalize w1.alloc (.cells #[rV (crossR s).x,rV (crossR s).y,rV (crossR s).w] 88)=w1b at *
 clear q_a0 q_a1 q_a2 q_b0 q_b1 q_b2 q_c0 q_c1 q_c2 q_t0 q_t1 q_t2
 obtain ⟨E1,hsz,f_a,f_b,f_c,f_t⟩:=HH.out
 clear HH
 refine (mdot_any mb _ (s+9) i (crossR s) c w1b E1.2 (R1.mono (by omega)) ⟨by show s+2 < 256;first | exact (by omega) | omega,by show s+5 < 256;first | exact (by omega) | omega,by show s+8 < 256;first | exact (by omega) | omega⟩ ⟨h_cx,h_cy,h_cw⟩).mono ?_
 rintro e w2 ⟨rfl,k2⟩
 have E2:MkEnd w w2 mb ((L++crossL s a b)++dotL (s+9) (crossR s) c) (s+14) (i):=MkEnd.trans E1 k2
 replace f_a:=At3.kp f_a k2.1
 replace f_b:=At3.kp f_b k2.1
 replace f_c:=At3.kp f_c k2.1
 replace f_t:=At3.kp f_t k2.1
 replace hsz:=Nat.le_trans hsz k2.1.size
 clear k2 E1 R1
 have HE:Hid _:=E2
 clear E2 f_a f_b f_c f_t
 go_wp2_with fail
 go_ret
 have hL:((L++crossL s a b)++dotL (s+9) (crossR s) c)=L++volL s a b c:=by
  simp only [List.append_assoc]
  rfl
 exact ⟨rfl,by rw [← hL];exact HE.out⟩
set_option maxHeartbeats 1600000 in
theorem mgiv_any (mb:Nat) (L:List Stp) (s i:Nat) (w:World) (hM:Mkr w mb L s i) (hroom:Room L s 3)  (hin:i < 100) :
  Calls Tryz.prog 98 #[mP mb] w fun e w'=>e=.returned (trV (givenR s))∧MkEnd w w' mb (L++givenL s i) (s+3) (i+2):=by
 have r2:=hroom.2
 have E0:MkEnd w (w.alloc (trZ)) mb L s i:=(MkEnd.al (show MkEnd w w mb L s i from ⟨Kp.refl mb w,hM⟩) _)
 have f_RES:At3 (w.alloc (trZ)) (w.heap.size) (.int .u8 0) (.int .u8 0) (.int .u8 0):=by
  have h:=heap_alloc_new w (trZ)
  exact h
 have hsz:w.heap.size+1≤((w.alloc (trZ))).heap.size:=by simp only [sz_al];omega
 go_enter Tryz.func98,Tryz.ntmps98
 go_wp2_with fail
 generalize (w.alloc (.cells #[.int .u8 0,.int .u8 0,.int .u8 0] 88))=w0 at *
 refine (minp_any mb _ s i  w0 E0.2 (hroom.mono (by omega))  (by omega)).mono ?_
 rintro e w1 ⟨he,k1⟩
 obtain ⟨v_x,hv⟩:∃ x:Nat,x=s:=⟨_,rfl⟩
 have b_x:v_x < 256:=by omega
 have he2:e=.returned (rV v_x):=by rw [hv];exact he
 have Hv_x:Hid (v_x=s):=hv
 clear he hv
 subst he2
 have E1:MkEnd w w1 mb (L++[⟨0,s,i,0⟩]) (s+1) (i+1):=MkEnd.trans E0 k1
 have R1:Room (L++[⟨0,s,i,0⟩]) (s+1) 2:=Room.app 1 (k:=2) hroom (Nat.le_of_eq rfl)
 replace f_RES:=At3.kp f_RES k1.1
 replace hsz:=Nat.le_trans hsz k1.1.size
 clear k1 E0 hroom
 have HH:Hid _:=And.intro E1 (And.intro hsz f_RES)
 clear E1 hsz f_RES
 go_wp2_with fail
 obtain ⟨E1,hsz,f_RES⟩:=HH.out
 clear HH
 refine (minp_any mb _ (s+1) (i+1)  w1 E1.2 (R1.mono (by omega))  (by omega)).mono ?_
 rintro e w2 ⟨he,k2⟩
 obtain ⟨v_y,hv⟩:∃ x:Nat,x=s+1:=⟨_,rfl⟩
 have b_y:v_y < 256:=by omega
 have he2:e=.returned (rV v_y):=by rw [hv];exact he
 have Hv_y:Hid (v_y=s+1):=hv
 clear he hv
 subst he2
 have E2:MkEnd w w2 mb ((L++[⟨0,s,i,0⟩])++[⟨0,s+1,i+1,0⟩]) (s+2) (i+2):=MkEnd.trans E1 k2
 have R2:Room ((L++[⟨0,s,i,0⟩])++[⟨0,s+1,i+1,0⟩]) (s+2) 1:=Room.app 1 (k:=1) R1 (Nat.le_of_eq rfl)
 replace f_RES:=At3.kp f_RES k2.1
 replace hsz:=Nat.le_trans hsz k2.1.size
 clear k2 E1 R1
 have HH:Hid _:=And.intro E2 (And.intro hsz f_RES)
 clear E2 hsz f_RES
 go_wp2_with fail
 obtain ⟨E2,hsz,f_RES⟩:=HH.out
 clear HH
 refine (mcon_any mb _ (s+2) (i+2) 1 w2 E2.2 (R2.mono (by omega)) (by omega)).mono ?_
 rintro e w3 ⟨he,k3⟩
 obtain ⟨v_w,hv⟩:∃ x:Nat,x=s+2:=⟨_,rfl⟩
 have b_w:v_w < 256:=by omega
 have he2:e=.returned (rV v_w):=by rw [hv];exact he
 have Hv_w:Hid (v_w=s+2):=hv
 clear he hv
 subst he2
 have E3:MkEnd w w3 mb (((L++[⟨0,s,i,0⟩])++[⟨0,s+1,i+1,0⟩])++[⟨1,s+2,1,0⟩]) (s+3) (i+2):=MkEnd.trans E2 k3
 replace f_RES:=At3.kp f_RES k3.1
 replace hsz:=Nat.le_trans hsz k3.1.size
 clear k3 E2 R2
 have z0:=fz3 f_RES 0
 have z1:=fz3 f_RES 1
 have z2:=fz3 f_RES 2
 obtain ⟨y0,y1,y2⟩:=cells3 f_RES
 have HC:Hid _:=cells3 (set3_at (x':=rV (v_x)) (y':=rV (v_y)) (z':=rV (v_w)) f_RES)
 have HE:Hid _:=E3.st (x':=rV (v_x)) (y':=rV (v_y)) (z':=rV (v_w)) f_RES (by omega)
 have hlt:=lt_of_block f_RES
 clear E3 f_RES
 go_wp2_with fail
 obtain ⟨g0,g1,g2⟩:=HC.out
 unfold set3 at g0 g1 g2
 have hL:(((L++[⟨0,s,i,0⟩])++[⟨0,s+1,i+1,0⟩])++[⟨1,s+2,1,0⟩])=L++givenL s i:=by
  have e_x:=Hv_x.out
  have e_y:=Hv_y.out
  have e_w:=Hv_w.out
  subst e_x e_y e_w
  simp only [List.append_assoc]
  rfl
 have hR:(.agg #[rV (v_x),rV (v_y),rV (v_w)]:Value)=trV (givenR s):=by rw [Hv_x.out,Hv_y.out,Hv_w.out];rfl
 exact bodyPost_ret (v:=.agg #[rV (v_x),rV (v_y),rV (v_w)]) (by simp [results,Tryz.results98,go_sem,g0,g1,g2]) rfl ⟨by rw [hR],by rw [← hL];exact HE.out⟩
set_option maxHeartbeats 1600000 in
theorem mmid_any (mb:Nat) (L:List Stp) (s i:Nat) (a b:Tr) (w:World) (hM:Mkr w mb L s i) (hroom:Room L s 8) (h_a:S8 a) (h_b:S8 b) :
  Calls Tryz.prog 99 #[mP mb,trV a,trV b] w fun e w'=>e=.returned (trV (midR s))∧MkEnd w w' mb (L++midL s a b) (s+8) (i+0):=by
 obtain ⟨h_ax,h_ay,h_aw⟩:=h_a
 obtain ⟨h_bx,h_by,h_bw⟩:=h_b
 have r2:=hroom.2
 have E0:MkEnd w (((((w.alloc (trO a))).alloc (trO b))).alloc (trZ)) mb L s i:=(MkEnd.al (MkEnd.al (MkEnd.al (show MkEnd w w mb L s i from ⟨Kp.refl mb w,hM⟩) _) _) _)
 have f_a:AtT (((((w.alloc (trO a))).alloc (trO b))).alloc (trZ)) (w.heap.size) a:=by
  have h:=heap_alloc_new w (trO a)
  exact (At3.al (At3.al h _) _)
 have f_b:AtT (((((w.alloc (trO a))).alloc (trO b))).alloc (trZ)) (w.heap.size+1) b:=by
  have h:=heap_alloc_new (w.alloc (trO a)) (trO b)
  simp only [sz_al] at h
  exact (At3.al h _)
 have f_RES:At3 (((((w.alloc (trO a))).alloc (trO b))).alloc (trZ)) (w.heap.size+1+1) (.int .u8 0) (.int .u8 0) (.int .u8 0):=by
  have h:=heap_alloc_new (((w.alloc (trO a))).alloc (trO b)) (trZ)
  simp only [sz_al] at h
  exact h
 have hsz:w.heap.size+3≤((((((w.alloc (trO a))).alloc (trO b))).alloc (trZ))).heap.size:=by simp only [sz_al];omega
 go_enter Tryz.func99,Tryz.ntmps99
 go_wp2_with fail
 generalize (((w.alloc (.cells #[rV a.x,rV a.y,rV a.w] 88)).alloc (.cells #[rV b.x,rV b.y,rV b.w] 88)).alloc (.cells #[.int .u8 0,.int .u8 0,.int .u8 0] 88))=w0 at *
 refine (mpS_any mb _ s i a.x b.w b.x a.w w0 E0.2 (hroom.mono (by omega)) h_ax h_bw h_bx h_aw).mono ?_
 rintro e w1 ⟨he,k1⟩
 obtain ⟨v_x,hv⟩:∃ x:Nat,x=s+2:=⟨_,rfl⟩
 have b_x:v_x < 256:=by omega
 have he2:e=.returned (rV v_x):=by rw [hv];exact he
 have Hv_x:Hid (v_x=s+2):=hv
 clear he hv
 subst he2
 have E1:MkEnd w w1 mb (L++prodS s a.x b.w b.x a.w) (s+3) (i):=MkEnd.trans E0 k1
 have R1:Room (L++prodS s a.x b.w b.x a.w) (s+3) 5:=Room.app 3 (k:=5) hroom (Nat.le_of_eq rfl)
 replace f_a:=At3.kp f_a k1.1
 replace f_b:=At3.kp f_b k1.1
 replace f_RES:=At3.kp f_RES k1.1
 replace hsz:=Nat.le_trans hsz k1.1.size
 clear k1 E0 hroom
 obtain ⟨q_a0,q_a1,q_a2⟩:=cells3 f_a
 obtain ⟨q_b0,q_b1,q_b2⟩:=cells3 f_b
 have HH:Hid _:=And.intro E1 (And.intro hsz (And.intro f_a (And.intro f_b f_RES)))
 clear E1 hsz f_a f_b f_RES
 go_wp2_with fail
 clear q_a0 q_a1 q_a2 q_b0 q_b1 q_b2
 obtain ⟨E1,hsz,f_a,f_b,f_RES⟩:=HH.out
 clear HH
 refine (mpS_any mb _ (s+3) i a.y b.w b.y a.w w1 E1.2 (R1.mono (by omega)) h_ay h_bw h_by h_aw).mono ?_
 rintro e w2 ⟨he,k2⟩
 obtain ⟨v_y,hv⟩:∃ x:Nat,x=s+3+2:=⟨_,rfl⟩
 have b_y:v_y < 256:=by omega
 have he2:e=.returned (rV v_y):=by rw [hv];exact he
 have Hv_y:Hid (v_y=s+3+2):=hv
 clear he hv
 subst he2
 have E2:MkEnd w w2 mb ((L++prodS s a.x b.w b.x a.w)++prodS (s+3) a.y b.w b.y a.w) (s+6) (i):=MkEnd.trans E1 k2
 have R2:Room ((L++prodS s a.x b.w b.x a.w)++prodS (s+3) a.y b.w b.y a.w) (s+6) 2:=Room.app 3 (k:=2) R1 (Nat.le_of_eq rfl)
 replace f_a:=At3.kp f_a k2.1
 replace f_b:=At3.kp f_b k2.1
 replace f_RES:=At3.kp f_RES k2.1
 replace hsz:=Nat.le_trans hsz k2.1.size
 clear k2 E1 R1
 obtain ⟨q_a0,q_a1,q_a2⟩:=cells3 f_a
 obtain ⟨q_b0,q_b1,q_b2⟩:=cells3 f_b
 have HH:Hid _:=And.intro E2 (And.intro hsz (And.intro f_a (And.intro f_b f_RES)))
 clear E2 hsz f_a f_b f_RES
 go_wp2_with fail
 clear q_a0 q_a1 q_a2 q_b0 q_b1 q_b2
 obtain ⟨E2,hsz,f_a,f_b,f_RES⟩:=HH.out
 clear HH
 refine (mpro_any mb _ (s+6) i a.w b.w w2 E2.2 (R2.mono (by omega)) h_aw h_bw).mono ?_
 rintro e w3 ⟨he,k3⟩
 obtain ⟨v_h,hv⟩:∃ x:Nat,x=s+6:=⟨_,rfl⟩
 have b_h:v_h < 256:=by omega
 have he2:e=.returned (rV v_h):=by rw [hv];exact he
 have Hv_h:Hid (v_h=s+6):=hv
 clear he hv
 subst he2
 have E3:MkEnd w w3 mb (((L++prodS s a.x b.w b.x a.w)++prodS (s+3) a.y b.w b.y a.w)++[⟨4,s+6,a.w,b.w⟩]) (s+7) (i):=MkEnd.trans E2 k3
 have R3:Room (((L++prodS s a.x b.w b.x a.w)++prodS (s+3) a.y b.w b.y a.w)++[⟨4,s+6,a.w,b.w⟩]) (s+7) 1:=Room.app 1 (k:=1) R2 (Nat.le_of_eq rfl)
 replace f_a:=At3.kp f_a k3.1
 replace f_b:=At3.kp f_b k3.1
 replace f_RES:=At3.kp f_RES k3.1
 replace hsz:=Nat.le_trans hsz k3.1.size
 clear k3 E2 R2
 obtain ⟨q_a0,q_a1,q_a2⟩:=cells3 f_a
 obtain ⟨q_b0,q_b1,q_b2⟩:=cells3 f_b
 have HH:Hid _:=And.intro E3 (And.intro hsz (And.intro f_a (And.intro f_b f_RES)))
 clear E3 hsz f_a f_b f_RES
 go_wp2_with fail
 clear q_a0 q_a1 q_a2 q_b0 q_b1 q_b2
 obtain ⟨E3,hsz,f_a,f_b,f_RES⟩:=HH.out
 clear HH
 refine (msum_any mb _ (s+7) i v_h v_h w3 E3.2 (R3.mono (by omega)) b_h b_h).mono ?_
 rintro e w4 ⟨he,k4⟩
 obtain ⟨v_w,hv⟩:∃ x:Nat,x=s+7:=⟨_,rfl⟩
 have b_w:v_w < 256:=by omega
 have he2:e=.returned (rV v_w):=by rw [hv];exact he
 have Hv_w:Hid (v_w=s+7):=hv
 clear he hv
 subst he2
 have E4:MkEnd w w4 mb ((((L++prodS s a.x b.w b.x a.w)++prodS (s+3) a.y b.w b.y a.w)++[⟨4,s+6,a.w,b.w⟩])++[⟨2,s+7,v_h,v_h⟩]) (s+8) (i):=MkEnd.trans E3 k4
 replace f_a:=At3.kp f_a k4.1
 replace f_b:=At3.kp f_b k4.1
 replace f_RES:=At3.kp f_RES k4.1
 replace hsz:=Nat.le_trans hsz k4.1.size
 clear k4 E3 R3
 have z0:=fz3 f_RES 0
 have z1:=fz3 f_RES 1
 have z2:=fz3 f_RES 2
 obtain ⟨y0,y1,y2⟩:=cells3 f_RES
 have HC:Hid _:=cells3 (set3_at (x':=rV (v_x)) (y':=rV (v_y)) (z':=rV (v_w)) f_RES)
 have HE:Hid _:=E4.st (x':=rV (v_x)) (y':=rV (v_y)) (z':=rV (v_w)) f_RES (by omega)
 have hlt:=lt_of_block f_RES
 clear E4 f_a f_b f_RES
 go_wp2_with fail
 obtain ⟨g0,g1,g2⟩:=HC.out
 unfold set3 at g0 g1 g2
 have hL:((((L++prodS s a.x b.w b.x a.w)++prodS (s+3) a.y b.w b.y a.w)++[⟨4,s+6,a.w,b.w⟩])++[⟨2,s+7,v_h,v_h⟩])=L++midL s a b:=by
  have e_x:=Hv_x.out
  have e_y:=Hv_y.out
  have e_h:=Hv_h.out
  have e_w:=Hv_w.out
  subst e_x e_y e_h e_w
  simp only [List.append_assoc]
  rfl
 have hR:(.agg #[rV (v_x),rV (v_y),rV (v_w)]:Value)=trV (midR s):=by rw [Hv_x.out,Hv_y.out,Hv_w.out];rfl
 exact bodyPost_ret (v:=.agg #[rV (v_x),rV (v_y),rV (v_w)]) (by simp [results,Tryz.results99,go_sem,g0,g1,g2]) rfl ⟨by rw [hR],by rw [← hL];exact HE.out⟩
set_option maxHeartbeats 1600000 in
theorem mpar_any (mb:Nat) (L:List Stp) (s i:Nat) (p l:Tr) (w:World) (hM:Mkr w mb L s i) (hroom:Room L s 7) (h_p:S8 p) (h_l:S8 l) :
  Calls Tryz.prog 100 #[mP mb,trV p,trV l] w fun e w'=>e=.returned (trV (parR s))∧MkEnd w w' mb (L++parL s p l) (s+7) (i+0):=by
 obtain ⟨h_px,h_py,h_pw⟩:=h_p
 obtain ⟨h_lx,h_ly,h_lw⟩:=h_l
 have r2:=hroom.2
 have E0:MkEnd w (((((w.alloc (trO p))).alloc (trO l))).alloc (trZ)) mb L s i:=(MkEnd.al (MkEnd.al (MkEnd.al (show MkEnd w w mb L s i from ⟨Kp.refl mb w,hM⟩) _) _) _)
 have f_p:AtT (((((w.alloc (trO p))).alloc (trO l))).alloc (trZ)) (w.heap.size) p:=by
  have h:=heap_alloc_new w (trO p)
  exact (At3.al (At3.al h _) _)
 have f_l:AtT (((((w.alloc (trO p))).alloc (trO l))).alloc (trZ)) (w.heap.size+1) l:=by
  have h:=heap_alloc_new (w.alloc (trO p)) (trO l)
  simp only [sz_al] at h
  exact (At3.al h _)
 have f_RES:At3 (((((w.alloc (trO p))).alloc (trO l))).alloc (trZ)) (w.heap.size+1+1) (.int .u8 0) (.int .u8 0) (.int .u8 0):=by
  have h:=heap_alloc_new (((w.alloc (trO p))).alloc (trO l)) (trZ)
  simp only [sz_al] at h
  exact h
 have hsz:w.heap.size+3≤((((((w.alloc (trO p))).alloc (trO l))).alloc (trZ))).heap.size:=by simp only [sz_al];omega
 go_enter Tryz.func100,Tryz.ntmps100
 go_wp2_with fail
 generalize (((w.alloc (.cells #[rV p.x,rV p.y,rV p.w] 88)).alloc (.cells #[rV l.x,rV l.y,rV l.w] 88)).alloc (.cells #[.int .u8 0,.int .u8 0,.int .u8 0] 88))=w0 at *
 refine (mpro_any mb _ s i l.x p.w w0 E0.2 (hroom.mono (by omega)) h_lx h_pw).mono ?_
 rintro e w1 ⟨he,k1⟩
 obtain ⟨v_x,hv⟩:∃ x:Nat,x=s:=⟨_,rfl⟩
 have b_x:v_x < 256:=by omega
 have he2:e=.returned (rV v_x):=by rw [hv];exact he
 have Hv_x:Hid (v_x=s):=hv
 clear he hv
 subst he2
 have E1:MkEnd w w1 mb (L++[⟨4,s,l.x,p.w⟩]) (s+1) (i):=MkEnd.trans E0 k1
 have R1:Room (L++[⟨4,s,l.x,p.w⟩]) (s+1) 6:=Room.app 1 (k:=6) hroom (Nat.le_of_eq rfl)
 replace f_p:=At3.kp f_p k1.1
 replace f_l:=At3.kp f_l k1.1
 replace f_RES:=At3.kp f_RES k1.1
 replace hsz:=Nat.le_trans hsz k1.1.size
 clear k1 E0 hroom
 obtain ⟨q_p0,q_p1,q_p2⟩:=cells3 f_p
 obtain ⟨q_l0,q_l1,q_l2⟩:=cells3 f_l
 have HH:Hid _:=And.intro E1 (And.intro hsz (And.intro f_p (And.intro f_l f_RES)))
 clear E1 hsz f_p f_l f_RES
 go_wp2_with fail
 clear q_p0 q_p1 q_p2 q_l0 q_l1 q_l2
 obtain ⟨E1,hsz,f_p,f_l,f_RES⟩:=HH.out
 clear HH
 refine (mpro_any mb _ (s+1) i l.y p.w w1 E1.2 (R1.mono (by omega)) h_ly h_pw).mono ?_
 rintro e w2 ⟨he,k2⟩
 obtain ⟨v_y,hv⟩:∃ x:Nat,x=s+1:=⟨_,rfl⟩
 have b_y:v_y < 256:=by omega
 have he2:e=.returned (rV v_y):=by rw [hv];exact he
 have Hv_y:Hid (v_y=s+1):=hv
 clear he hv
 subst he2
 have E2:MkEnd w w2 mb ((L++[⟨4,s,l.x,p.w⟩])++[⟨4,s+1,l.y,p.w⟩]) (s+2) (i):=MkEnd.trans E1 k2
 have R2:Room ((L++[⟨4,s,l.x,p.w⟩])++[⟨4,s+1,l.y,p.w⟩]) (s+2) 5:=Room.app 1 (k:=5) R1 (Nat.le_of_eq rfl)
 replace f_p:=At3.kp f_p k2.1
 replace f_l:=At3.kp f_l k2.1
 replace f_RES:=At3.kp f_RES k2.1
 replace hsz:=Nat.le_trans hsz k2.1.size
 clear k2 E1 R1
 obtain ⟨q_p0,q_p1,q_p2⟩:=cells3 f_p
 obtain ⟨q_l0,q_l1,q_l2⟩:=cells3 f_l
 have HH:Hid _:=And.intro E2 (And.intro hsz (And.intro f_p (And.intro f_l f_RES)))
 clear E2 hsz f_p f_l f_RES
 go_wp2_with fail
 clear q_p0 q_p1 q_p2 q_l0 q_l1 q_l2
 obtain ⟨E2,hsz,f_p,f_l,f_RES⟩:=HH.out
 clear HH
 refine (mpS_any mb _ (s+2) i l.x p.x l.y p.y w2 E2.2 (R2.mono (by omega)) h_lx h_px h_ly h_py).mono ?_
 rintro e w3 ⟨he,k3⟩
 obtain ⟨v_h,hv⟩:∃ x:Nat,x=s+2+2:=⟨_,rfl⟩
 have b_h:v_h < 256:=by omega
 have he2:e=.returned (rV v_h):=by rw [hv];exact he
 have Hv_h:Hid (v_h=s+2+2):=hv
 clear he hv
 subst he2
 have E3:MkEnd w w3 mb (((L++[⟨4,s,l.x,p.w⟩])++[⟨4,s+1,l.y,p.w⟩])++prodS (s+2) l.x p.x l.y p.y) (s+5) (i):=MkEnd.trans E2 k3
 have R3:Room (((L++[⟨4,s,l.x,p.w⟩])++[⟨4,s+1,l.y,p.w⟩])++prodS (s+2) l.x p.x l.y p.y) (s+5) 2:=Room.app 3 (k:=2) R2 (Nat.le_of_eq rfl)
 replace f_p:=At3.kp f_p k3.1
 replace f_l:=At3.kp f_l k3.1
 replace f_RES:=At3.kp f_RES k3.1
 replace hsz:=Nat.le_trans hsz k3.1.size
 clear k3 E2 R2
 obtain ⟨q_p0,q_p1,q_p2⟩:=cells3 f_p
 obtain ⟨q_l0,q_l1,q_l2⟩:=cells3 f_l
 have HH:Hid _:=And.intro E3 (And.intro hsz (And.intro f_p (And.intro f_l f_RES)))
 clear E3 hsz f_p f_l f_RES
 go_wp2_with fail
 clear q_p0 q_p1 q_p2 q_l0 q_l1 q_l2
 obtain ⟨E3,hsz,f_p,f_l,f_RES⟩:=HH.out
 clear HH
 refine (mneg_any mb _ (s+5) i v_h w3 E3.2 (R3.mono (by omega)) b_h).mono ?_
 rintro e w4 ⟨he,k4⟩
 obtain ⟨v_w,hv⟩:∃ x:Nat,x=s+5+1:=⟨_,rfl⟩
 have b_w:v_w < 256:=by omega
 have he2:e=.returned (rV v_w):=by rw [hv];exact he
 have Hv_w:Hid (v_w=s+5+1):=hv
 clear he hv
 subst he2
 have E4:MkEnd w w4 mb ((((L++[⟨4,s,l.x,p.w⟩])++[⟨4,s+1,l.y,p.w⟩])++prodS (s+2) l.x p.x l.y p.y)++negL (s+5) v_h) (s+7) (i):=MkEnd.trans E3 k4
 replace f_p:=At3.kp f_p k4.1
 replace f_l:=At3.kp f_l k4.1
 replace f_RES:=At3.kp f_RES k4.1
 replace hsz:=Nat.le_trans hsz k4.1.size
 clear k4 E3 R3
 have z0:=fz3 f_RES 0
 have z1:=fz3 f_RES 1
 have z2:=fz3 f_RES 2
 obtain ⟨y0,y1,y2⟩:=cells3 f_RES
 have HC:Hid _:=cells3 (set3_at (x':=rV (v_x)) (y':=rV (v_y)) (z':=rV (v_w)) f_RES)
 have HE:Hid _:=E4.st (x':=rV (v_x)) (y':=rV (v_y)) (z':=rV (v_w)) f_RES (by omega)
 have hlt:=lt_of_block f_RES
 clear E4 f_p f_l f_RES
 go_wp2_with fail
 obtain ⟨g0,g1,g2⟩:=HC.out
 unfold set3 at g0 g1 g2
 have hL:((((L++[⟨4,s,l.x,p.w⟩])++[⟨4,s+1,l.y,p.w⟩])++prodS (s+2) l.x p.x l.y p.y)++negL (s+5) v_h)=L++parL s p l:=by
  have e_x:=Hv_x.out
  have e_y:=Hv_y.out
  have e_h:=Hv_h.out
  have e_w:=Hv_w.out
  subst e_x e_y e_h e_w
  simp only [List.append_assoc]
  rfl
 have hR:(.agg #[rV (v_x),rV (v_y),rV (v_w)]:Value)=trV (parR s):=by rw [Hv_x.out,Hv_y.out,Hv_w.out];rfl
 exact bodyPost_ret (v:=.agg #[rV (v_x),rV (v_y),rV (v_w)]) (by simp [results,Tryz.results100,go_sem,g0,g1,g2]) rfl ⟨by rw [hR],by rw [← hL];exact HE.out⟩
end Go.Proofs.YtmnfndpbblpjiaaGreatDoor

/- The program's wantedAhead. -/
import Derived.Deep.RegionWith
import Derived.Lib.AppendStr
import Derived.Test.YtmnfndpbblpjiabGreatDoorZc31
import Derived.Test.YtmnfndpbblpjiabGreatDoorZc36
namespace Go.Proofs.YtmnfndpbblpjiabGreatDoor
open Go.RowKit Pu
theorem results_one {fn : Func} {p : Tmp} {ty : TypeId} (h : fn.results = #[.cell p ty]) (tmps : Array Value) (P : Program) (w : World) :
  (results fn tmps).run P w = ((asAddr (tmps.getD p undef)).run P w).andThen fun a w₁ => (loadVar ty a).run P w₁ := by
 simp only [results,h]
 simp [Sem.run_bind,Result.andThen]
theorem setRow_at {w : World} {b : Nat} {C C' : Array Value} {t : TypeId} (h : w.heap[b]? = some (.cells C t (0,0))) : (w.setRow b C').heap[b]? = some (.cells C' t (0,0)) := by
 simp [World.setRow,Array.getElem?_modify,h]
theorem setRow_mod (w : World) (b : Nat) (C : Array Value) : Mod (fun q => q = b) w (w.setRow b C) :=
 ⟨rfl,rfl,rfl,by simp [World.setRow],fun k _ hk => by simp only [World.setRow]; rw [Array.getElem?_modify,if_neg (fun h => hk h.symm)]⟩
theorem setRow_new {w wX : World} {b : Nat} {C : Array Value} (h : Mod (fun _ => False) w wX) (hb : w.heap.size ≤ b) : Mod (fun _ => False) w (wX.setRow b C) := by
 have := (h.mono (q := fun q => q = b) (fun _ _ f => f.elim)).trans (setRow_mod wX b C)
 exact this.mono (fun k hk e => by omega)
end Go.Proofs.YtmnfndpbblpjiabGreatDoor

/- Whole numbers in limbs of nine decimal digits: plain. -/
namespace Go.Proofs.YtmnfndpbblpjiabGreatDoor.Pu
def v9 : List Nat → Nat
 | [] => 0
 | d :: l => d + 1000000000 * v9 l
def rest (a b : List Nat) (k br : Nat) : Nat := 1000000000 + a[k]?.getD 0 - br - b[k]?.getD 0
end Go.Proofs.YtmnfndpbblpjiabGreatDoor.Pu

/- The program's joinCode. -/
namespace Go.Proofs.YtmnfndpbblpjiabGreatDoor
open Go.RowKit Pu
theorem bvs_st {t : Stp} (h : Small t) : bvs (stB t) = pcells t := by
 obtain ⟨h1,h2,h3,h4⟩ := h
 simp [bvs,stB,pcells]
 omega
theorem owns_built {w : World} {b e : Nat} {c : Array Value} (h : w.heap[b]? = some (.cells c e (0,0))) (hc : c.size ≤ 1000) : w.ownsRow b e 1 (.slice (some ⟨b,0,none⟩) c.size c.size) c.size c.toList :=
 ⟨by simp,.inr ⟨b,c.size,c,rfl,Nat.le_refl _,h,Nat.le_refl _,by unfold maxLen; omega,by simp,by simpa using List.take_of_length_le (by simp)⟩⟩
theorem joined_head {r i n : Nat} (hr : r < 256) (hi : i < 256) (hn : n ≤ 3000) : bvs [82,85,UInt8.ofNat r,UInt8.ofNat i,UInt8.ofNat (n % 256),UInt8.ofNat (n / 256)] = [.int .u8 82,.int .u8 85,.int .u8 r,.int .u8 i,.int .u8 ((n : Int) % 256),.int .u8 ((n : Int) / 256)] := by
 simp [bvs]
 omega
set_option maxHeartbeats 1600000 in
set_option maxRecDepth 4000 in
theorem join_any (v : Value) (l : List Stp) (r i base : Nat) (w : World) (hl : l.length ≤ 3000) (hL : PLst w base v l) (hsm : ∀ t ∈ l,Small t) (hr : r < 256) (hi : i < 256) :
  Calls Tryz.prog 33 #[.agg #[.int .u8 r,.int .u8 i,v]] w fun e w' => e = .returned (S (joined r i l)) ∧ Mod (fun _ => False) w w' := by
 obtain ⟨i0,hii,hz0,hz1,hz2⟩ := info_parts Tryz.info5
 obtain ⟨ao,cap,rfl,-⟩ := owns_form hL
 have HSM : Hid (∀ t ∈ l,Small t) := hsm
 clear hsm
 go_enter Tryz.func33,Tryz.ntmps33
 go_wp2_with fail
 obtain ⟨a1,a2⟩ := alloc2_at w (.cells #[.int .u8 r,.int .u8 i,.slice ao l.length cap] 63) (.cells #[.int .u8 82,.int .u8 85,.int .u8 r,.int .u8 i,.int .u8 ((l.length : Int) % 256),.int .u8 ((l.length : Int) / 256)] 5)
 have hm0 : Mod (fun _ => False) w ((w.alloc (.cells #[.int .u8 r,.int .u8 i,.slice ao l.length cap] 63)).alloc (.cells #[.int .u8 82,.int .u8 85,.int .u8 r,.int .u8 i,.int .u8 ((l.length : Int) % 256),.int .u8 ((l.length : Int) / 256)] 5)) := ((Mod.refl _ w).alloc _).alloc _
 have hO0 := owns_built a2 (by simp)
 have hO1 : ((w.alloc (.cells #[.int .u8 r,.int .u8 i,.slice ao l.length cap] 63)).alloc (.cells #[.int .u8 82,.int .u8 85,.int .u8 r,.int .u8 i,.int .u8 ((l.length : Int) % 256),.int .u8 ((l.length : Int) / 256)] 5)).ownsRow (w.heap.size + 1) 5 1 (.slice (some ⟨w.heap.size + 1,0,none⟩) 6 6) ([82,85,UInt8.ofNat r,UInt8.ofNat i,UInt8.ofNat (l.length % 256),UInt8.ofNat (l.length / 256)] ++ (l.take 0).flatMap stB).length (bvs ([82,85,UInt8.ofNat r,UInt8.ofNat i,UInt8.ofNat (l.length % 256),UInt8.ofNat (l.length / 256)] ++ (l.take 0).flatMap stB)) := by
  simp only [List.take_zero,List.flatMap_nil,List.append_nil]
  rw [joined_head hr hi hl]
  exact hO0
 have hmw : w.heap.size < ((w.alloc (.cells #[.int .u8 r,.int .u8 i,.slice ao l.length cap] 63)).alloc (.cells #[.int .u8 82,.int .u8 85,.int .u8 r,.int .u8 i,.int .u8 ((l.length : Int) % 256),.int .u8 ((l.length : Int) / 256)] 5)).heap.size := by simp; omega
 clear hO0 a1 a2
 generalize ((w.alloc (.cells #[.int .u8 r,.int .u8 i,.slice ao l.length cap] 63)).alloc (.cells #[.int .u8 82,.int .u8 85,.int .u8 r,.int .u8 i,.int .u8 ((l.length : Int) % 256),.int .u8 ((l.length : Int) / 256)] 5)) = w1 at *
 go_loopw [4,24] (fun v kv wr => ∃ k : Nat,k ≤ l.length ∧ kv = .int .i64 k ∧ wr.ownsRow (w.heap.size + 1) 5 1 v ([82,85,UInt8.ofNat r,UInt8.ofNat i,UInt8.ofNat (l.length % 256),UInt8.ofNat (l.length / 256)] ++ (l.take k).flatMap stB).length (bvs ([82,85,UInt8.ofNat r,UInt8.ofNat i,UInt8.ofNat (l.length % 256),UInt8.ofNat (l.length / 256)] ++ (l.take k).flatMap stB)) ∧ Mod (fun _ => False) w wr ∧ w.heap.size < wr.heap.size) (fun _ kv _ => l.length - (intOf kv).toNat)
 case atStart => exact ⟨0,by omega,rfl,hO1,hm0,by omega⟩
 case round =>
  clear hO1 hm0 hmw
  obtain ⟨k,hk,rfl,hown,hm,hwl⟩ := hrel
  have HJ : Hid (∀ h : k < l.length,[82,85,UInt8.ofNat r,UInt8.ofNat i,UInt8.ofNat (l.length % 256),UInt8.ofNat (l.length / 256)] ++ (l.take (k + 1)).flatMap stB = ([82,85,UInt8.ofNat r,UInt8.ofNat i,UInt8.ofNat (l.length % 256),UInt8.ofNat (l.length / 256)] ++ (l.take k).flatMap stB) ++ stB l[k]) := fun h => by
   rw [List.take_succ_eq_append_getElem h,List.flatMap_append,← List.append_assoc,List.flatMap_cons,List.flatMap_nil,List.append_nil]
  have HJE : Hid (k = l.length → [82,85,UInt8.ofNat r,UInt8.ofNat i,UInt8.ofNat (l.length % 256),UInt8.ofNat (l.length / 256)] ++ (l.take k).flatMap stB = joined r i l) := fun h => by
   subst h; rw [List.take_length]; rfl
  have hjl : ([82,85,UInt8.ofNat r,UInt8.ofNat i,UInt8.ofNat (l.length % 256),UInt8.ofNat (l.length / 256)] ++ (l.take k).flatMap stB).length ≤ 20000 := by
   have : ∀ q : List Stp,(q.flatMap stB).length = 4 * q.length := fun q => by
    induction q with
    | nil => rfl
    | cons t q ih => simp [ih,stB]; omega
   simp [this]; omega
  generalize hjs : [82,85,UInt8.ofNat r,UInt8.ofNat i,UInt8.ofNat (l.length % 256),UInt8.ofNat (l.length / 256)] ++ (l.take k).flatMap stB = js at *
  clear hjs
  obtain ⟨jo,jcap,rfl,-⟩ := owns_form hown
  by_cases hlt : k < l.length
  ·have hLr := hL.mod hm
   obtain ⟨gb,rfl,c0,c1,c2,c3⟩ := hLr.cell hlt
   have HB4 : Hid (bvs (stB l[k]) = pcells l[k]) := bvs_st (HSM.out _ (List.getElem_mem hlt))
   have HJ1 : Hid _ := HJ.out hlt
   generalize l[k] = t at *
   clear hLr HJ HJE
   have hOa := owns_mod hown ((Mod.refl (fun _ => False) wr).alloc (.cells #[.int .u8 t.op,.int .u8 t.x,.int .u8 t.y,.int .u8 t.z] 94)) (fun _ _ f => f)
   go_wp2_with (at_builtin; refine wpList_append_own _ rfl _ _ 70 rfl (w.heap.size + 1) 5 i0 _ 1 1 Tryz.underlying70 hii hz0 hz1 hz2 rfl (by decide) _ _ _ rfl (hOa.alloc _) ⟨wr.heap.size + 1,0,none⟩ 4 4 (pcells t) rfl rfl ?c1 ?c2 ?c3 ?c4 ?c5 ?_)
   case c1 => exact World.news_of_block (cs := #[.int .u8 t.op,.int .u8 t.x,.int .u8 t.y,.int .u8 t.z]) (t := 5) (fr := (0,0)) (alloc2_at wr _ _).2
   case c2 => simp [pcells,Value.oneCell']
   case c3 => unfold maxLen; omega
   case c4 => omega
   case c5 => simp; omega
   intro v' w4 hown4 hgrow _
   have hgm : Mod (fun i => w.heap.size + 1 ≤ i) wr w4 := (((Mod.refl _ wr).alloc _).alloc _).grown hgrow (fun i hi _ => (hown.lt i hi).1)
   have hm4 : Mod (fun _ => False) w w4 := ⟨hgm.os.trans hm.os,hgm.tape.trans hm.tape,hgm.output.trans hm.output,Nat.le_trans hm.size hgm.size,fun i hi _ => (hgm.block i (by omega) (by omega)).trans (hm.block i hi (fun f => f))⟩
   have hwl4 : w.heap.size < w4.heap.size := by have := hgm.size; omega
   have HO4 : Hid (w4.ownsRow (w.heap.size + 1) 5 1 v' (js ++ stB t).length (bvs (js ++ stB t))) := show w4.ownsRow _ _ _ _ _ _ by
    have e : bvs (js ++ stB t) = bvs js ++ pcells t := by rw [← HB4.out]; simp [bvs]
    rw [e]
    simpa [stB] using hown4
   clear hown4 hgrow hgm hown hOa hm hwl
   go_wp2_with fail
   go_roundw
   case rel => exact ⟨k + 1,by omega,by go_num,by rw [HJ1.out]; exact HO4.out,hm4,hwl4⟩
   case measure => simp [intOf]; omega
  ·have HE : Hid (js = joined r i l) := HJE.out (by omega)
   have hcv := convert_owned (P := Tryz.prog) hown rfl Tryz.underlying70 Tryz.underlying5 Tryz.underlying9
   go_wp2_with fail
   go_ret
   exact ⟨by rw [← HE.out]; rfl,hm⟩
def zc (i : Nat) : Value := if i = 0 then .slice none 0 0 else if i = 513 then .slice none 0 0 else if i = 514 then .bool false else if i % 2 = 1 then .bool false else .slice none 0 0
end Go.Proofs.YtmnfndpbblpjiabGreatDoor

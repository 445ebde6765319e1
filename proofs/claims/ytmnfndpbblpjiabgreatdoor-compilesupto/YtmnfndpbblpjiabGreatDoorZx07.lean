/- The document's steps of a code; who sets a register; what a step reads; what is proper. -/
import Derived.Deep.RegionHeld3
import Derived.Deep.AppendLies
import Derived.Test.YtmnfndpbblpjiabGreatDoorZx06
set_option maxHeartbeats 3200000
set_option maxRecDepth 100000
namespace Go.Proofs.YtmnfndpbblpjiabGreatDoor
open Go.RowKit Pu
theorem wC (s:ByteArray) (u:World) (k:Nat) (hk:k < s.size) (i:Int) (hi:i=(k:Int)):(Instr.index 9 (.string s) (.int .i64 i)).run Tryz.prog u=.ok (.int .u8 s[k].toNat) u:=by
 subst hi
 rw[run_index_string u 9 s .i64 (k:Int) Tryz.underlying9]
 simp[hk]
theorem F8 (s:ByteArray) (u:World) (k:Nat) (hk:k < s.size):(Instr.index 9 (.string s) (.int .i64 (k:Int))).run Tryz.prog u=.ok (.int .u8 s[k].toNat) u:=wC s u k hk _ rfl
theorem F9 (s:ByteArray) (u:World) (k:Nat) (hk:k+1 < s.size):(Instr.index 9 (.string s) (.int .i64 ((k:Int)+1))).run Tryz.prog u=.ok (.int .u8 s[k+1].toNat) u:=wC s u _ hk _ (by omega)
theorem Gb (s:ByteArray) (u:World) (k:Nat) (hk:k+2 < s.size):(Instr.index 9 (.string s) (.int .i64 ((k:Int)+2))).run Tryz.prog u=.ok (.int .u8 s[k+2].toNat) u:=wC s u _ hk _ (by omega)
theorem Gc (s:ByteArray) (u:World) (k:Nat) (hk:k+3 < s.size):(Instr.index 9 (.string s) (.int .i64 ((k:Int)+3))).run Tryz.prog u=.ok (.int .u8 s[k+3].toNat) u:=wC s u _ hk _ (by omega)
theorem EU {n:Int} (h0:0<=n) (h:n<=1000000000):IntKind.i64.wrap n=n:=by
 have:(Lit.int .i64 n).wf=true:=by simp[Lit.wf,IntKind.min,IntKind.max,IntKind.signed,IntKind.bits];omega
 simp[IntKind.wrap,IntKind.signed,IntKind.bits];omega
theorem yN (b:UInt8):IntKind.i64.wrap (b.toNat:Int)=(b.toNat:Int):=EU (by omega) (by have:=b.toNat_lt;omega)
theorem LD (k:Nat) (h:k<=100000):IntKind.i64.wrap ((k:Int)+1)=(k:Int)+1:=EU (by omega) (by omega)
theorem LG (k:Nat) (h:k<=100000):IntKind.i64.wrap ((k:Int)+2)=(k:Int)+2:=EU (by omega) (by omega)
theorem LH (k:Nat) (h:k<=100000):IntKind.i64.wrap ((k:Int)+3)=(k:Int)+3:=EU (by omega) (by omega)
attribute [local go_sem] F8 F9 Gb Gc
attribute [local go_sem] yN LD LG LH
theorem uh (s:ByteArray) (w:World) (hs:s.size<=8006) :
  Calls Tryz.prog 66 #[.string s] w fun e w'=>Mod (fun _=>False) w w'/\∃ v,e=.returned v/\o8 w' w.heap.size v (steps s):=by
 obtain⟨i0,hi,hz0,hz1,hz2⟩:=info_parts Tryz.info71
 go_in
 go_wp2_with fail
 go_loopw [3,4] (fun v i wr=>∃ k j:Nat,k<=fI s/\Hid (j=6+4*k)/\i=.int .i64 j/\o8 wr w.heap.size v (jN s k)/\Mod (fun _=>False) w wr) (fun _ i _=>s.size - (intOf i).toNat)
 case atStart=>exact⟨0,6,by omega,rfl,rfl,World.ownsRow_nil _ _ _ _,Mod.refl _ _⟩
 case round =>
  obtain⟨k,j,hk,HJ,rfl,hL,hm⟩:=hrel
  have hsz:=hm.size
  unfold o8 at hL
  rw[bU]at hL
  have hn1:4*fI s<=s.size - 6:=by unfold fI;omega
  have hn2:s.size - 6 < 4*fI s+4:=by unfold fI;omega
  have hj:4*k<=j:=by have:=HJ.out;omega
  have hj2:j<=4*k+6:=by have:=HJ.out;omega
  obtain⟨ao,cap,rfl,-⟩:=aj hL
  by_cases hlt:k < fI s
  ·have h3:j+3 < s.size:=by have:=HJ.out;omega
   have h0:j < s.size:=by omega
   have h1:j+1 < s.size:=by omega
   have h2:j+2 < s.size:=by omega
   have HT:Hid (mV (bV s k)=[.int .i64 s[j].toNat,.int .i64 s[j+1].toNat,.int .i64 s[j+2].toNat,.int .i64 s[j+3].toNat]):=show mV (bV s k)=[.int .i64 s[j].toNat,.int .i64 s[j+1].toNat,.int .i64 s[j+2].toNat,.int .i64 s[j+3].toNat] by
    rw[<- dB h0,<- dB h1,<- dB h2,<- dB h3,HJ.out];rfl
   have i0a:(0:Int)<=(j:Int):=by omega
   have i0b:(j:Int) < (s.size:Int):=by omega
   have i1b:(j:Int)+1 < (s.size:Int):=by omega
   have i2b:(j:Int)+2 < (s.size:Int):=by omega
   have i3b:(j:Int)+3 < (s.size:Int):=by omega
   have i1a:(0:Int)<=(j:Int)+1:=by omega
   have i2a:(0:Int)<=(j:Int)+2:=by omega
   have i3a:(0:Int)<=(j:Int)+3:=by omega
   have hjb:j<=100000:=by omega
   clear hn1 hn2
   go_wp2_with fail
   go_region_held3 (fun _=>True) (trivial)
    ((refine step_append_lies _ (by rfl) _ _ _ (by rfl) w.heap.size 152 i0 _ 4 32 Tryz.underlying108 hi hz0 hz1 hz2 rfl (by omega) _ k _ (by rfl) ((hL.alloc _).drew) ⟨wr.heap.size,0,none⟩ 1 1 [.int .i64 s[j].toNat,.int .i64 s[j+1].toNat,.int .i64 s[j+2].toNat,.int .i64 s[j+3].toNat] (by rfl) (by rfl) (World.news_of_block (cs:=#[.int .i64 s[j].toNat,.int .i64 s[j+1].toNat,.int .i64 s[j+2].toNat,.int .i64 s[j+3].toNat]) (t:=152) (fr:=(0,0)) (heap_alloc_new wr _)) (by simp[Value.oneCell']) (by omega) (by unfold maxLen;omega) (by omega) (by simp;omega) (wr.heap.size+1) (by simp) ?_;intro gg cap' w1 hown1 hgrow hat hgl))
   all_goals
    have hg2:Mod (fun q=>w.heap.size<=q) wr w1:=((Mod.refl _ wr).alloc _).drew.grown hgrow (fun q hq _=>(hL.lt q hq).1)
    have hm1:Mod (fun _=>False) w w1:=⟨hg2.os.trans hm.os,hg2.tape.trans hm.tape,hg2.output.trans hm.output,Nat.le_trans hm.size hg2.size,fun i hi _=>(hg2.block i (by omega) (by omega)).trans (hm.block i hi (fun f=>f))⟩
    have hL1:o8 w1 w.heap.size (.slice (some ⟨gg,0,none⟩) (k+1) cap') (jN s (k+1)):=by unfold o8;rw[bU,wY,<- CF,HT.out];exact hown1
    clear hown1 hgrow hat hgl hg2 hL hm
    go_wp2
    go_roundw
    case rel=>exact⟨k+1,j+4,by omega,show j+4=6+4*(k+1) by have:=HJ.out;omega,by go_num,hL1,hm1⟩
    case measure=>simp[intOf];omega
  ·have hks:k=fI s:=by omega
   have hjs:s.size<=j+3:=by have:=HJ.out;omega
   subst hks
   go_wp2
   go_ret
   exact⟨hm,_,rfl,by unfold o8;rw[steps,bU];exact hL⟩
end Go.Proofs.YtmnfndpbblpjiabGreatDoor

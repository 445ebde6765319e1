/- The maker's methods at every word. -/
import Derived.Test.YtmnfndpbblpjiaaGreatDoorZr36
import Derived.Test.YtmnfndpbblpjiaaGreatDoorZr38
namespace Go.Proofs.YtmnfndpbblpjiaaGreatDoor
open Go.RowKit Pu
theorem mask_all (wd:List UInt8) (hw:(fm wd).2=63) (mb:Nat) (L:List Stp) (s i:Nat) (t:Th) (w:World) (hM:Mkr w mb L s i) (hr:Room L s 54) (h8:S12 t) :
  Calls Tryz.prog 58 #[mP mb,S wd,thV t] w fun e w'=>e=.returned (rV (s+(askL wd s t).2))∧MkEnd w w' mb (L++(askL wd s t).1) (s+(askL wd s t).2+1) i:=by
 rcases word_cases (w:=wd) (by omega) with rfl | rfl | rfl | rfl | rfl | rfl | rfl | rfl | rfl | rfl | rfl | rfl | rfl | rfl | rfl | rfl | rfl | rfl
 ·cases hw
 ·cases hw
 ·cases hw
 ·cases hw
 ·cases hw
 ·cases hw
 ·cases hw
 ·cases hw
 ·cases hw
 ·exact mask_same mb L s i t w hM (hr.mono (by omega)) h8
 ·exact mask_col mb L s i t w hM (hr.mono (by omega)) h8
 ·exact mask_ccw mb L s i t w hM (hr.mono (by omega)) h8
 ·exact mask_btw mb L s i t w hM (hr.mono (by omega)) h8
 ·exact mask_con mb L s i t w hM (hr.mono (by omega)) h8
 ·exact mask_on mb L s i t w hM (hr.mono (by omega)) h8
 ·exact mask_pll mb L s i t w hM (hr.mono (by omega)) h8
 ·exact mask_prp mb L s i t w hM (hr.mono (by omega)) h8
 ·exact mask_cc mb L s i t w hM (hr.mono (by omega)) h8
theorem mcon_all (wd:List UInt8) (hw:(fm wd).2=80∨(fm wd).2=76) (mb:Nat) (L:List Stp) (s i:Nat) (t:Th) (w:World) (hM:Mkr w mb L s i) (hr:Room L s 61) (h8:S12 t) (hi:i < 100) :
  Calls Tryz.prog 60 #[mP mb,S wd,thV t] w fun e w'=>e=.returned (trV (conL wd s i t).2.1)∧MkEnd w w' mb (L++(conL wd s i t).1) (s+(conL wd s i t).1.length) (conL wd s i t).2.2:=by
 rcases word_cases (w:=wd) (by omega) with rfl | rfl | rfl | rfl | rfl | rfl | rfl | rfl | rfl | rfl | rfl | rfl | rfl | rfl | rfl | rfl | rfl | rfl
 ·exact mcon_pt mb L s i t w hM (hr.mono (by omega)) h8 hi
 ·exact mcon_mid mb L s i t w hM (hr.mono (by omega)) h8
 ·exact mcon_line mb L s i t w hM (hr.mono (by omega)) h8
 ·exact mcon_par mb L s i t w hM (hr.mono (by omega)) h8
 ·exact mcon_perp mb L s i t w hM (hr.mono (by omega)) h8
 ·exact mcon_meet mb L s i t w hM (hr.mono (by omega)) h8
 ·exact mcon_foot mb L s i t w hM (hr.mono (by omega)) h8
 ·exact mcon_mirror mb L s i t w hM (hr.mono (by omega)) h8
 ·exact mcon_centre mb L s i t w hM (hr.mono (by omega)) h8
 ·rcases hw with hw | hw <;> cases hw
 ·rcases hw with hw | hw <;> cases hw
 ·rcases hw with hw | hw <;> cases hw
 ·rcases hw with hw | hw <;> cases hw
 ·rcases hw with hw | hw <;> cases hw
 ·rcases hw with hw | hw <;> cases hw
 ·rcases hw with hw | hw <;> cases hw
 ·rcases hw with hw | hw <;> cases hw
 ·rcases hw with hw | hw <;> cases hw
theorem mgrd_all (wd:List UInt8) (hw:(fm wd).2=80∨(fm wd).2=76) (mb:Nat) (L:List Stp) (s i:Nat) (m:Tr) (k:Nat) (w:World) (hM:Mkr w mb L s i) (hr:Room L s 4) (h8:S8 m) (hk:k < 16) :
  Calls Tryz.prog 61 #[mP mb,S wd,trV m,.int .i64 k] w fun e w'=>e=.returned (.tuple #[])∧MkEnd w w' mb (L++grdL wd s m k) (s+grdN wd) i:=by
 rcases word_cases (w:=wd) (by omega) with rfl | rfl | rfl | rfl | rfl | rfl | rfl | rfl | rfl | rfl | rfl | rfl | rfl | rfl | rfl | rfl | rfl | rfl
 ·exact mgrd_pt mb L s i m k w hM hr h8 hk
 ·exact mgrd_mid mb L s i m k w hM hr h8 hk
 ·exact mgrd_line mb L s i m k w hM hr h8 hk
 ·exact mgrd_par mb L s i m k w hM hr h8 hk
 ·exact mgrd_perp mb L s i m k w hM hr h8 hk
 ·exact mgrd_meet mb L s i m k w hM hr h8 hk
 ·exact mgrd_foot mb L s i m k w hM hr h8 hk
 ·exact mgrd_mirror mb L s i m k w hM hr h8 hk
 ·exact mgrd_centre mb L s i m k w hM hr h8 hk
 ·rcases hw with hw | hw <;> cases hw
 ·rcases hw with hw | hw <;> cases hw
 ·rcases hw with hw | hw <;> cases hw
 ·rcases hw with hw | hw <;> cases hw
 ·rcases hw with hw | hw <;> cases hw
 ·rcases hw with hw | hw <;> cases hw
 ·rcases hw with hw | hw <;> cases hw
 ·rcases hw with hw | hw <;> cases hw
 ·rcases hw with hw | hw <;> cases hw
theorem mkeep_all (wd:List UInt8) (hw:(fm wd).2=80∨(fm wd).2=76) (mb:Nat) (L:List Stp) (s i:Nat) (m:Tr) (k:Nat) (w:World) (hM:Mkr w mb L s i) (hr:Room L s 4) (h8:S8 m) (hk:k < 16) :
  Calls Tryz.prog 62 #[mP mb,S wd,trV m,.int .i64 k] w fun e w'=>e=.returned (.tuple #[])∧MkEnd w w' mb (L++keepL wd s m k) (s+1) i:=by
 rcases word_cases (w:=wd) (by omega) with rfl | rfl | rfl | rfl | rfl | rfl | rfl | rfl | rfl | rfl | rfl | rfl | rfl | rfl | rfl | rfl | rfl | rfl
 ·exact mkeep_pt mb L s i m k w hM hr h8 hk
 ·exact mkeep_mid mb L s i m k w hM hr h8 hk
 ·exact mkeep_line mb L s i m k w hM hr h8 hk
 ·exact mkeep_par mb L s i m k w hM hr h8 hk
 ·exact mkeep_perp mb L s i m k w hM hr h8 hk
 ·exact mkeep_meet mb L s i m k w hM hr h8 hk
 ·exact mkeep_foot mb L s i m k w hM hr h8 hk
 ·exact mkeep_mirror mb L s i m k w hM hr h8 hk
 ·exact mkeep_centre mb L s i m k w hM hr h8 hk
 ·rcases hw with hw | hw <;> cases hw
 ·rcases hw with hw | hw <;> cases hw
 ·rcases hw with hw | hw <;> cases hw
 ·rcases hw with hw | hw <;> cases hw
 ·rcases hw with hw | hw <;> cases hw
 ·rcases hw with hw | hw <;> cases hw
 ·rcases hw with hw | hw <;> cases hw
 ·rcases hw with hw | hw <;> cases hw
 ·rcases hw with hw | hw <;> cases hw
theorem ask_len (wd:List UInt8) (hw:(fm wd).2=63) (t:Th):(askL wd 48 t).1.length≤60∧(askL wd 48 t).2≤60:=by
 rcases word_cases (w:=wd) (by omega) with rfl | rfl | rfl | rfl | rfl | rfl | rfl | rfl | rfl | rfl | rfl | rfl | rfl | rfl | rfl | rfl | rfl | rfl
 ·cases hw
 ·cases hw
 ·cases hw
 ·cases hw
 ·cases hw
 ·cases hw
 ·cases hw
 ·cases hw
 ·cases hw
 ·exact ⟨Nat.le_of_ble_eq_true rfl,Nat.le_of_ble_eq_true rfl⟩
 ·exact ⟨Nat.le_of_ble_eq_true rfl,Nat.le_of_ble_eq_true rfl⟩
 ·exact ⟨Nat.le_of_ble_eq_true rfl,Nat.le_of_ble_eq_true rfl⟩
 ·exact ⟨Nat.le_of_ble_eq_true rfl,Nat.le_of_ble_eq_true rfl⟩
 ·exact ⟨Nat.le_of_ble_eq_true rfl,Nat.le_of_ble_eq_true rfl⟩
 ·exact ⟨Nat.le_of_ble_eq_true rfl,Nat.le_of_ble_eq_true rfl⟩
 ·exact ⟨Nat.le_of_ble_eq_true rfl,Nat.le_of_ble_eq_true rfl⟩
 ·exact ⟨Nat.le_of_ble_eq_true rfl,Nat.le_of_ble_eq_true rfl⟩
 ·exact ⟨Nat.le_of_ble_eq_true rfl,Nat.le_of_ble_eq_true rfl⟩
theorem con_len (wd:List UInt8) (hw:(fm wd).2=80∨(fm wd).2=76) (i:Nat) (t:Th):(conL wd 48 i t).1.length≤61∧S8 (conL wd 48 i t).2.1∧(conL wd 48 i t).2.2≤i+2:=by
 rcases word_cases (w:=wd) (by omega) with rfl | rfl | rfl | rfl | rfl | rfl | rfl | rfl | rfl | rfl | rfl | rfl | rfl | rfl | rfl | rfl | rfl | rfl
 ·exact ⟨Nat.le_of_ble_eq_true rfl,⟨Nat.le_of_ble_eq_true rfl,Nat.le_of_ble_eq_true rfl,Nat.le_of_ble_eq_true rfl⟩,Nat.le_refl _⟩
 ·exact ⟨Nat.le_of_ble_eq_true rfl,⟨Nat.le_of_ble_eq_true rfl,Nat.le_of_ble_eq_true rfl,Nat.le_of_ble_eq_true rfl⟩,Nat.le_add_right i 2⟩
 ·exact ⟨Nat.le_of_ble_eq_true rfl,⟨Nat.le_of_ble_eq_true rfl,Nat.le_of_ble_eq_true rfl,Nat.le_of_ble_eq_true rfl⟩,Nat.le_add_right i 2⟩
 ·exact ⟨Nat.le_of_ble_eq_true rfl,⟨Nat.le_of_ble_eq_true rfl,Nat.le_of_ble_eq_true rfl,Nat.le_of_ble_eq_true rfl⟩,Nat.le_add_right i 2⟩
 ·exact ⟨Nat.le_of_ble_eq_true rfl,⟨Nat.le_of_ble_eq_true rfl,Nat.le_of_ble_eq_true rfl,Nat.le_of_ble_eq_true rfl⟩,Nat.le_add_right i 2⟩
 ·exact ⟨Nat.le_of_ble_eq_true rfl,⟨Nat.le_of_ble_eq_true rfl,Nat.le_of_ble_eq_true rfl,Nat.le_of_ble_eq_true rfl⟩,Nat.le_add_right i 2⟩
 ·exact ⟨Nat.le_of_ble_eq_true rfl,⟨Nat.le_of_ble_eq_true rfl,Nat.le_of_ble_eq_true rfl,Nat.le_of_ble_eq_true rfl⟩,Nat.le_add_right i 2⟩
 ·exact ⟨Nat.le_of_ble_eq_true rfl,⟨Nat.le_of_ble_eq_true rfl,Nat.le_of_ble_eq_true rfl,Nat.le_of_ble_eq_true rfl⟩,Nat.le_add_right i 2⟩
 ·exact ⟨Nat.le_of_ble_eq_true rfl,⟨Nat.le_of_ble_eq_true rfl,Nat.le_of_ble_eq_true rfl,Nat.le_of_ble_eq_true rfl⟩,Nat.le_add_right i 2⟩
 ·rcases hw with hw | hw <;> cases hw
 ·rcases hw with hw | hw <;> cases hw
 ·rcases hw with hw | hw <;> cases hw
 ·rcases hw with hw | hw <;> cases hw
 ·rcases hw with hw | hw <;> cases hw
 ·rcases hw with hw | hw <;> cases hw
 ·rcases hw with hw | hw <;> cases hw
 ·rcases hw with hw | hw <;> cases hw
 ·rcases hw with hw | hw <;> cases hw
theorem grd_len (wd:List UInt8) (hw:(fm wd).2=80∨(fm wd).2=76) (s:Nat) (m:Tr) (k:Nat):(grdL wd s m k).length≤4∧grdN wd≤3∧(keepL wd s m k).length=4:=by
 rcases word_cases (w:=wd) (by omega) with rfl | rfl | rfl | rfl | rfl | rfl | rfl | rfl | rfl | rfl | rfl | rfl | rfl | rfl | rfl | rfl | rfl | rfl
 ·exact ⟨Nat.le_of_ble_eq_true rfl,Nat.le_of_ble_eq_true rfl,rfl⟩
 ·exact ⟨Nat.le_of_ble_eq_true rfl,Nat.le_of_ble_eq_true rfl,rfl⟩
 ·exact ⟨Nat.le_of_ble_eq_true rfl,Nat.le_of_ble_eq_true rfl,rfl⟩
 ·exact ⟨Nat.le_of_ble_eq_true rfl,Nat.le_of_ble_eq_true rfl,rfl⟩
 ·exact ⟨Nat.le_of_ble_eq_true rfl,Nat.le_of_ble_eq_true rfl,rfl⟩
 ·exact ⟨Nat.le_of_ble_eq_true rfl,Nat.le_of_ble_eq_true rfl,rfl⟩
 ·exact ⟨Nat.le_of_ble_eq_true rfl,Nat.le_of_ble_eq_true rfl,rfl⟩
 ·exact ⟨Nat.le_of_ble_eq_true rfl,Nat.le_of_ble_eq_true rfl,rfl⟩
 ·exact ⟨Nat.le_of_ble_eq_true rfl,Nat.le_of_ble_eq_true rfl,rfl⟩
 ·rcases hw with hw | hw <;> cases hw
 ·rcases hw with hw | hw <;> cases hw
 ·rcases hw with hw | hw <;> cases hw
 ·rcases hw with hw | hw <;> cases hw
 ·rcases hw with hw | hw <;> cases hw
 ·rcases hw with hw | hw <;> cases hw
 ·rcases hw with hw | hw <;> cases hw
 ·rcases hw with hw | hw <;> cases hw
 ·rcases hw with hw | hw <;> cases hw
theorem con_in (wd:List UInt8) (hw:(fm wd).2=80∨(fm wd).2=76) (i:Nat) (t:Th):(conL wd 48 i t).2.2=i+(if (wd == [112,116])=true then 2 else 0):=by
 rcases word_cases (w:=wd) (by omega) with rfl | rfl | rfl | rfl | rfl | rfl | rfl | rfl | rfl | rfl | rfl | rfl | rfl | rfl | rfl | rfl | rfl | rfl
 ·rfl
 ·rfl
 ·rfl
 ·rfl
 ·rfl
 ·rfl
 ·rfl
 ·rfl
 ·rfl
 ·rcases hw with hw | hw <;> cases hw
 ·rcases hw with hw | hw <;> cases hw
 ·rcases hw with hw | hw <;> cases hw
 ·rcases hw with hw | hw <;> cases hw
 ·rcases hw with hw | hw <;> cases hw
 ·rcases hw with hw | hw <;> cases hw
 ·rcases hw with hw | hw <;> cases hw
 ·rcases hw with hw | hw <;> cases hw
 ·rcases hw with hw | hw <;> cases hw
theorem hm8 {k:Nat} (h:k < 16):S8 (hm k):=⟨by show 3*k < 256;omega,by show 3*k+1 < 256;omega,by show 3*k+2 < 256;omega⟩
theorem cmdsL_app:∀ (r r':List Cmd) (k i:Nat),cmdsL (r++r') k i=cmdsL r k i++cmdsL r' (k+r.length) (i+cntI r)
 | [],r',k,i=>by simp [cmdsL,cntI]
 | c :: r,r',k,i=>by
  have ih:=cmdsL_app r r' (k+1) (i+insC c)
  simp only [List.cons_append,cmdsL,ih,List.append_assoc,List.length_cons,cntI,List.map_cons,List.sum_cons]
  congr 3 <;> omega
def LK (p:List (St × Nat)) (k:Nat):List Stp:=cmdsL ((cmds (sts p)).take k) 0 0
def IK (p:List (St × Nat)) (k:Nat):Nat:=cntI ((cmds (sts p)).take k)
theorem LK_next {p:List (St × Nat)} (h:Ok p) {k:Nat} (hk:k < p.length):LK p (k+1)=LK p k++stL (sts p) k (IK p k) p[k].1∧IK p (k+1)=IK p k+(if (p[k].1.word == [112,116])=true then 2 else 0):=by
 have hk2:k < (cmds (sts p)).length:=by rw [cmds_len];exact hk
 have e:(cmds (sts p)).take (k+1)=(cmds (sts p)).take k++[cmdOf (sts p) p[k].1]:=by rw [List.take_succ_eq_append_getElem hk2,cmds_at hk]
 constructor
 ·unfold LK IK
  rw [e,cmdsL_app,List.length_take,Nat.min_eq_left (Nat.le_of_lt hk2),st_cmd h hk]
  simp [cmdsL]
 ·unfold IK
  rw [e,← ins_cmd h hk]
  simp [cntI]
theorem LK_len (p:List (St × Nat)) (k:Nat):(LK p k).length≤70*k:=by
 unfold LK
 have h1:=cmdsL_len ((cmds (sts p)).take k) 0 0
 have h2:((cmds (sts p)).take k).length≤k:=List.length_take_le _ _
 omega
theorem IK_len (p:List (St × Nat)) (k:Nat):IK p k≤2*k:=by
 unfold IK
 have h1:=cntI_le ((cmds (sts p)).take k)
 have h2:((cmds (sts p)).take k).length≤k:=List.length_take_le _ _
 omega
theorem LK_all (p:List (St × Nat)):LK p p.length=cmdsL (cmds (sts p)) 0 0∧IK p p.length=cntI (cmds (sts p)):=by
 unfold LK IK
 rw [List.take_of_length_le (by rw [cmds_len];exact Nat.le_refl _)]
 exact ⟨rfl,rfl⟩
theorem Se.kp {w w':World} {mb sb n:Nat} {wd:List UInt8} {av:Value} {wt:Int} (h:Se w sb n wd av wt) (hk:Kp mb w w'):Se w' sb n wd av wt:=hk.keep h (by decide) (by decide)
theorem Mkr.nil {w:World} {mb:Nat} (h:w.heap[mb]?=some (.cells #[.slice none 0 0,.int .u8 0,.int .u8 0] 86 (0,0))):Mkr w mb [] 0 0:=⟨.slice none 0 0,h,World.ownsRow_nil _ _ _ _⟩
theorem Mod.trans' {w a b:World} {mb:Nat} (h:Mod (fun _=>False) w a) (k:Kp mb a b) (hb:w.heap.size≤mb:=by omega):Mod (fun _=>False) w b :=
 ⟨k.os.trans h.os,k.tape.trans h.tape,k.output.trans h.output,Nat.le_trans h.size k.size,fun i hi _=>(k.block i (Nat.lt_of_lt_of_le hi h.size) (fun f=>by have:=f.2;omega)).trans (h.block i hi (fun f=>f))⟩
structure StK (q:List It) (k:Nat) (hk:k < q.length):Prop where
 ar:q[k].x.args.length≤4
 gv:∀ i (hi:i < q[k].x.args.length),∃ j,j < 16∧gvI (q.map It.x) q[k].x.args[i].toNat=((j:Nat):Int)
 s12:S12 (thO (q.map It.x) q[k].x)
 qs:q[k].x.name=0→(fm q[k].x.word).2=63
 cs:q[k].x.name≠0→(fm q[k].x.word).2=80∨(fm q[k].x.word).2=76
theorem fm_vals (w:List UInt8):(fm w).2=80∨(fm w).2=76∨(fm w).2=63∨(fm w).2=0:=by
 by_cases h:(fm w).2=0
 ·exact .inr (.inr (.inr h))
 ·rcases word_cases h with rfl | rfl | rfl | rfl | rfl | rfl | rfl | rfl | rfl | rfl | rfl | rfl | rfl | rfl | rfl | rfl | rfl | rfl <;> decide
theorem stK {q:List It} (h:Ok (pq q)) (hq:q.length≤16) {k:Nat} (hk:k < q.length):StK q k hk:=by
 have hk2:k < (pq q).length:=by simpa [pq] using hk
 have hx:(pq q)[k].1=q[k].x:=by simp [pq]
 obtain ⟨he,-⟩:=h k hk2
 obtain ⟨hkn,hl,-,-,-⟩:=err_zero he
 rw [hx] at hkn hl
 have h4:=fm_len q[k].x.word
 have hgv:∀ i (hi:i < q[k].x.args.length),∃ j,j < 16∧ix (q.map It.x) q[k].x i=j∧gvI (q.map It.x) q[k].x.args[i].toNat=((j:Nat):Int):=fun i hi=>by
  obtain ⟨j,hj,e1,e2,-,-⟩:=arg_at h hk2 (i:=i) (by rw [hx];exact hi)
  rw [hx,sts_pq] at e1 e2
  have hag:ag q[k].x i=q[k].x.args[i].toNat:=by simp [ag,hi]
  exact ⟨j,by omega,e1,by rw [← hag];exact e2⟩
 have h8:∀ i,S8 (thJ (q.map It.x) q[k].x i):=fun i=>by
  unfold thJ
  split
  ·rename_i hi
   obtain ⟨j,hj,e,-⟩:=hgv i hi
   rw [e];exact hm8 hj
  ·exact ⟨by decide,by decide,by decide⟩
 unfold known at hkn
 rw [Bool.and_eq_true] at hkn
 have h0:(fm q[k].x.word).2≠0:=by simpa using hkn.1
 have hb:=hkn.2
 refine ⟨by omega,fun i hi=>?_,⟨h8 0,h8 1,h8 2,h8 3⟩,fun e=>?_,fun e=>?_⟩
 ·obtain ⟨j,hj,-,e⟩:=hgv i hi
  exact ⟨j,hj,e⟩
 ·simpa [e] using hb
 ·have:¬ (fm q[k].x.word).2=63:=by simpa [e] using hb
  rcases fm_vals q[k].x.word with h | h | h | h
  ·exact .inl h
  ·exact .inr h
  ·exact absurd h this
  ·exact absurd h h0
def TrEnd (q:List It) (w:World) (e:Ending) (w':World):Prop :=
 Mod (fun _=>False) w w'∧∃ ao n cap,e=.returned (.agg #[.int .u8 128,.int .u8 (cntI (cmds (q.map It.x)):Nat),.slice ao n cap])∧PLst w' w.heap.size (.slice ao n cap) (cmdsL (cmds (q.map It.x)) 0 0)
set_option maxHeartbeats 3200000 in
set_option maxRecDepth 100000 in
theorem trans_any (v:Value) (q:List It) (base:Nat) (w:World) (hq:q.length≤16) (hL:Lst w base v q) (hok:Ok (pq q)):Calls Tryz.prog 33 #[v] w (TrEnd q w):=by
 obtain ⟨ao,cap,rfl,-⟩:=hL.form
 have HOK:Hid (Ok (pq q)):=hok
 have HPL:Hid ((pq q).length=q.length):=show (pq q).length=q.length by simp [pq]
 clear hok
 have hm0:Mod (fun _=>False) w ((w.alloc (.cells #[.int .u8 0,.int .u8 0,.slice none 0 0] 52)).alloc (.cells #[.slice none 0 0,.int .u8 0,.int .u8 0] 86)):=((Mod.refl _ w).alloc _).alloc _
 have f_r:((w.alloc (.cells #[.int .u8 0,.int .u8 0,.slice none 0 0] 52)).alloc (.cells #[.slice none 0 0,.int .u8 0,.int .u8 0] 86)).heap[w.heap.size]?=some (.cells #[.int .u8 0,.int .u8 0,.slice none 0 0] 52 (0,0)):=(alloc2_at w _ _).1
 have f_m:Mkr ((w.alloc (.cells #[.int .u8 0,.int .u8 0,.slice none 0 0] 52)).alloc (.cells #[.slice none 0 0,.int .u8 0,.int .u8 0] 86)) (w.heap.size+1) [] 0 0:=Mkr.nil (alloc2_at w _ _).2
 have HH:Hid _:=And.intro hm0 (And.intro f_r f_m)
 clear hm0 f_r f_m
 go_enter Tryz.func33,Tryz.ntmps33
 go_wp2_with fail
 generalize (w.alloc (.cells #[.int .u8 0,.int .u8 0,.slice none 0 0] 52)).alloc (.cells #[.slice none 0 0,.int .u8 0,.int .u8 0] 86)=w0 at *
 obtain ⟨hm0,f_r,f_m⟩:=HH.out
 clear HH
 go_loopw [11] (fun i wr=>∃ k sp:Nat,k≤q.length∧i=.int .i64 k∧Mod (fun _=>False) w wr∧wr.heap[w.heap.size]?=some (.cells #[.int .u8 0,.int .u8 0,.slice none 0 0] 52 (0,0))∧Mkr wr (w.heap.size+1) (LK (pq q) k) sp (IK (pq q) k)) (fun i _=>q.length - (intOf i).toNat)
 case atStart=>exact ⟨0,0,by omega,rfl,hm0,f_r,f_m⟩
 case round =>
  clear hm0 f_r f_m
  obtain ⟨k,sp,hk,rfl,hm1,f_r,f_m⟩:=hrel
  by_cases hlt:k < q.length
  ·have hK:=stK HOK.out hq hlt
   have hlen:=LK_len (pq q) k
   have hins:=IK_len (pq q) k
   have HN:Hid _:=LK_next HOK.out (show k < (pq q).length by rw [HPL.out];exact hlt)
   have hx:(pq q)[k]'(by rw [HPL.out];exact hlt)=(q[k].x,q[k].wt):=by simp [pq]
   have HN:Hid (LK (pq q) (k+1)=LK (pq q) k++stL (q.map It.x) k (IK (pq q) k) q[k].x∧IK (pq q) (k+1)=IK (pq q) k+(if (q[k].x.word == [112,116])=true then 2 else 0)):=by
    have h:=HN.out
    rw [hx,sts_pq] at h
    exact h
   clear hx
   generalize LK (pq q) k=LL at *
   generalize IK (pq q) k=II at *
   have hLr:=hL.mod hm1 (fun _ _ _ f=>f)
   obtain ⟨gb,rfl,c0,c1,c2,c3⟩:=hLr.cell hlt
   have hAk:=hL.2 q[k] (List.getElem_mem hlt)
   obtain ⟨aa,acap,hae,-⟩:=owns_form hAk
   obtain ⟨kar,kgv,k12,kqs,kcs⟩:=hK
   have KGV:Hid _:=kgv
   clear kgv
   have hsgb:=(hLr.1.lt gb rfl).2
   generalize hxe:q[k].x=x at *
   generalize hve:q[k].av=av at *
   generalize hwe:(q[k].wt:Int)=wt0 at *
   subst hae
   clear hxe hve hwe
   have hmlt:=f_m.lt
   have f_mA:=f_m.alloc (.cells #[.int .u8 x.name,S x.word,.slice aa x.args.length acap,.int .i64 wt0] 83)
   obtain ⟨m1,-,mf⟩:=f_mA.cells
   have mf1:=mf 1
   obtain ⟨f_m1,kB⟩:=f_m.set1 48
   have f_mB:=f_m1.alloc (.cells #[.int .u8 x.name,S x.word,.slice aa x.args.length acap,.int .i64 wt0] 83)
   have kAB:Kp (w.heap.size+1) wr ((wr.setCell ⟨w.heap.size+1,1,none⟩ (.int .u8 (48:Nat))).alloc (.cells #[.int .u8 x.name,S x.word,.slice aa x.args.length acap,.int .i64 wt0] 83)):=kB.alloc _
   have hSB:Se ((wr.setCell ⟨w.heap.size+1,1,none⟩ (.int .u8 (48:Nat))).alloc (.cells #[.int .u8 x.name,S x.word,.slice aa x.args.length acap,.int .i64 wt0] 83)) wr.heap.size x.name x.word (.slice aa x.args.length acap) wt0:=by
    have h:=heap_alloc_new (wr.setCell ⟨w.heap.size+1,1,none⟩ (.int .u8 (48:Nat))) (.cells #[.int .u8 x.name,S x.word,.slice aa x.args.length acap,.int .i64 wt0] 83)
    rw [show (wr.setCell ⟨w.heap.size+1,1,none⟩ (.int .u8 (48:Nat))).heap.size=wr.heap.size by simp] at h
    exact h
   have hmB:Mod (fun _=>False) w ((wr.setCell ⟨w.heap.size+1,1,none⟩ (.int .u8 (48:Nat))).alloc (.cells #[.int .u8 x.name,S x.word,.slice aa x.args.length acap,.int .i64 wt0] 83)):=hm1.trans' kAB
   have f_rB:=kAB.keep f_r (by decide) (by decide)
   have s0:=hSB.c0
   have s1:=hSB.c1
   have s2:=hSB.c2
   have s3:=hSB.c3
   have HH:Hid _:=And.intro hmB (And.intro f_rB (And.intro f_mB hSB))
   clear f_mA mf f_mB kB kAB f_m1 hSB hmB f_rB hm1 f_r f_m hLr
   go_wp2_with fail
   generalize (wr.setCell ⟨w.heap.size+1,1,none⟩ (.int .u8 48)).alloc (.cells #[.int .u8 x.name,S x.word,.slice aa x.args.length acap,.int .i64 wt0] 83)=wB at *
   clear c0 c1 c2 c3 m1 mf1 s0 s1 s2 s3
   obtain ⟨hmB,f_rB,f_mB,hSB⟩:=HH.out
   clear HH
   have hLB:=hL.mod hmB (fun _ _ _ f=>f)
   have hAB:=owns_mod hAk hmB (fun _ _ f=>f)
   refine (argsOf_any _ q base x (.slice aa x.args.length acap) wt0 wB hq kar hLB hAB KGV.out).mono ?_
   rintro e w2 ⟨he,k2⟩
   obtain ⟨TT,hTT⟩:∃ TT,TT=thO (q.map It.x) x:=⟨_,rfl⟩
   rw [← hTT] at he k12
   have HTT:Hid (TT=thO (q.map It.x) x):=hTT
   subst he
   clear hTT hLB hAB
   have hm3:=(hmB.trans k2).alloc (.cells #[rV TT.a.x,rV TT.a.y,rV TT.a.w,rV TT.b.x,rV TT.b.y,rV TT.b.w,rV TT.c.x,rV TT.c.y,rV TT.c.w,rV TT.d.x,rV TT.d.y,rV TT.d.w] 90)
   have f_r3:=(k2.alloc (.cells #[rV TT.a.x,rV TT.a.y,rV TT.a.w,rV TT.b.x,rV TT.b.y,rV TT.b.w,rV TT.c.x,rV TT.c.y,rV TT.c.w,rV TT.d.x,rV TT.d.y,rV TT.d.w] 90)).keep f_rB (fun f=>f)
   have f_m3:=(f_mB.mod k2).alloc (.cells #[rV TT.a.x,rV TT.a.y,rV TT.a.w,rV TT.b.x,rV TT.b.y,rV TT.b.w,rV TT.c.x,rV TT.c.y,rV TT.c.w,rV TT.d.x,rV TT.d.y,rV TT.d.w] 90)
   have hS3:=hSB.keep (k2.alloc (.cells #[rV TT.a.x,rV TT.a.y,rV TT.a.w,rV TT.b.x,rV TT.b.y,rV TT.b.w,rV TT.c.x,rV TT.c.y,rV TT.c.w,rV TT.d.x,rV TT.d.y,rV TT.d.w] 90)) (fun f=>f)
   have f_t3:=AtH.new w2 TT
   have s0:=hS3.c0
   have s1:=hS3.c1
   have s2:=hS3.c2
   have s3:=hS3.c3
   have HH:Hid _:=And.intro hm3 (And.intro f_r3 (And.intro f_m3 (And.intro hS3 f_t3)))
   clear hm3 f_r3 f_m3 hS3 f_t3 k2 hmB f_rB f_mB hSB
   go_wp2_with fail
   generalize w2.alloc (.cells #[rV TT.a.x,rV TT.a.y,rV TT.a.w,rV TT.b.x,rV TT.b.y,rV TT.b.w,rV TT.c.x,rV TT.c.y,rV TT.c.w,rV TT.d.x,rV TT.d.y,rV TT.d.w] 90)=w3 at *
   obtain ⟨hm3,f_r3,f_m3,hS3,f_t3⟩:=HH.out
   clear HH s0 s1 s2 s3
   refine (isQuestion_any x.name x.word (.slice aa x.args.length acap) wt0 w3 rfl).mono ?_
   rintro e w4 ⟨rfl,k4⟩
   have hm4:=hm3.trans k4
   have f_r4:=k4.keep f_r3 (fun f=>f)
   have f_m4:=f_m3.mod k4
   have hS4:=hS3.keep k4 (fun f=>f)
   have f_t4:=f_t3.md k4
   clear hm3 f_r3 f_m3 hS3 f_t3 k4
   obtain ⟨t0,t1,t2,t3,t4,t5,t6,t7,t8,t9,t10,t11⟩:=f_t4.cs
   have s1:=hS4.c1
   have HH:Hid _:=And.intro hm4 (And.intro f_r4 (And.intro f_m4 (And.intro hS4 f_t4)))
   clear hm4 f_r4 f_m4 hS4 f_t4
   by_cases hn:x.name=0
   ·have hb:(x.name == 0)=true:=by simpa using hn
    have h63:=kqs hn
    have HN2:Hid (LK (pq q) (k+1)=LL++qsL x.word TT∧IK (pq q) (k+1)=II):=by
     obtain ⟨a,b⟩:=HN.out
     refine ⟨?_,?_⟩
     ·rw [a,stL,if_pos hn,HTT.out]
     ·rw [b,if_neg (fun e=>?_)];rfl
      have e:x.word=[112,116]:=by simpa using e
      rw [e] at h63;cases h63
    clear HN kqs kcs hn
    go_wp2_with fail
    clear t0 t1 t2 t3 t4 t5 t6 t7 t8 t9 t10 t11 s1
    obtain ⟨hm4,f_r4,f_m4,hS4,f_t4⟩:=HH.out
    clear HH
    obtain ⟨la1,la2⟩:=ask_len x.word h63 TT
    refine (mask_all x.word h63 (w.heap.size+1) LL 48 II TT w4 f_m4 ⟨by omega,by omega⟩ k12).mono ?_
    rintro e w5 ⟨he,k5⟩
    obtain ⟨vv,hvv⟩:∃ vv,vv=48+(askL x.word 48 TT).2:=⟨_,rfl⟩
    have he2:e=.returned (rV vv):=by rw [hvv];exact he
    have b_v:vv < 256:=by omega
    have HV:Hid (vv=48+(askL x.word 48 TT).2):=hvv
    subst he2
    clear he hvv
    have hm5:=hm4.trans' k5.1
    have f_r5:=k5.1.keep f_r4 (by decide) (by decide)
    have HH:Hid _:=And.intro hm5 (And.intro f_r5 k5.2)
    clear hm5 f_r5 k5 hm4 f_r4 f_m4 hS4 f_t4
    go_wp2_with fail
    obtain ⟨hm5,f_r5,f_m5⟩:=HH.out
    clear HH
    refine (madd_any (w.heap.size+1) _ _ II ⟨6,vv,0,0⟩ w5 f_m5 (by simp;omega) ⟨by show 6 < 256;omega,b_v,by show 0 < 256;omega,by show 0 < 256;omega⟩).mono ?_
    rintro e w6 ⟨rfl,k6,f_m6⟩
    have hm6:=hm5.trans' k6
    have f_r6:=k6.keep f_r5 (by decide) (by decide)
    have f_m7:Mkr w6 (w.heap.size+1) (LK (pq q) (k+1)) (48+(askL x.word 48 TT).2+1) (IK (pq q) (k+1)):=by
     rw [HN2.out.1,HN2.out.2,qsL,← HV.out,← List.append_assoc]
     rw [HV.out] at f_m6 ⊢
     exact f_m6
    have HX:Hid _:=And.intro hm6 (And.intro f_r6 f_m7)
    clear hm5 f_r5 f_m5 k6 f_m6 hm6 f_r6 f_m7
    go_wp2_with fail
    go_roundw
    case rel=>exact ⟨k+1,_,by omega,by go_num,HX.out.1,HX.out.2.1,HX.out.2.2⟩
    case measure=>simp [intOf];omega
   ·have hb:(x.name == 0)=false:=by simpa using hn
    have hcs:=kcs hn
    have HN2:Hid (LK (pq q) (k+1)=LL++csL x.word II k TT∧IK (pq q) (k+1)=II+(if (x.word == [112,116])=true then 2 else 0)):=by
     obtain ⟨a,b⟩:=HN.out
     exact ⟨by rw [a,stL,if_neg hn,HTT.out],b⟩
    clear HN kqs kcs hn
    go_wp2_with fail
    clear t0 t1 t2 t3 t4 t5 t6 t7 t8 t9 t10 t11 s1
    obtain ⟨hm4,f_r4,f_m4,hS4,f_t4⟩:=HH.out
    clear HH
    obtain ⟨lc1,lc2,lc3⟩:=con_len x.word hcs II TT
    have HI:Hid _:=con_in x.word hcs II TT
    refine (mcon_all x.word hcs (w.heap.size+1) LL 48 II TT w4 f_m4 ⟨by omega,by omega⟩ k12 (by omega)).mono ?_
    rintro e w5 ⟨he,k5⟩
    have HCS:Hid (csL x.word II k TT=(conL x.word 48 II TT).1++(grdL x.word (48+(conL x.word 48 II TT).1.length) (conL x.word 48 II TT).2.1 k++keepL x.word (48+(conL x.word 48 II TT).1.length+grdN x.word) (conL x.word 48 II TT).2.1 k)):=rfl
    generalize (conL x.word 48 II TT).1=CL at *
    generalize (conL x.word 48 II TT).2.1=m at *
    generalize (conL x.word 48 II TT).2.2=I2 at *
    subst he
    obtain ⟨lg1,lg2,lg3⟩:=grd_len x.word hcs (48+CL.length) m k
    obtain ⟨-,-,lg4⟩:=grd_len x.word hcs (48+CL.length+grdN x.word) m k
    have hm5:=(hm4.trans' k5.1).alloc (.cells #[rV m.x,rV m.y,rV m.w] 88)
    have f_r5:=(k5.1.alloc (.cells #[rV m.x,rV m.y,rV m.w] 88)).keep f_r4 (by decide) (by decide)
    have f_m5:=k5.2.alloc (.cells #[rV m.x,rV m.y,rV m.w] 88)
    have hS5:=hS4.kp (k5.1.alloc (.cells #[rV m.x,rV m.y,rV m.w] 88))
    have f_d5:AtT (w5.alloc (.cells #[rV m.x,rV m.y,rV m.w] 88)) w5.heap.size m:=heap_alloc_new w5 _
    obtain ⟨d0,d1,d2⟩:=cells3 f_d5
    have s1:=hS5.c1
    have HH:Hid _:=And.intro hm5 (And.intro f_r5 (And.intro f_m5 (And.intro hS5 f_d5)))
    clear hm5 f_r5 f_m5 hS5 f_d5 k5 hm4 f_r4 f_m4 hS4 f_t4
    go_wp2_with fail
    generalize w5.alloc (.cells #[rV m.x,rV m.y,rV m.w] 88)=w5b at *
    clear d0 d1 d2 s1
    obtain ⟨hm5,f_r5,f_m5,hS5,f_d5⟩:=HH.out
    clear HH
    refine (mgrd_all x.word hcs (w.heap.size+1) (LL++CL) (48+CL.length) I2 m k w5b f_m5 ⟨by simp;omega,by omega⟩ lc2 (by omega)).mono ?_
    rintro e w6 ⟨rfl,k6⟩
    have hm6:=hm5.trans' k6.1
    have f_r6:=k6.1.keep f_r5 (by decide) (by decide)
    have hS6:=hS5.kp k6.1
    have f_d6:=At3.kp f_d5 k6.1
    obtain ⟨d0,d1,d2⟩:=cells3 f_d6
    have s1:=hS6.c1
    have HH:Hid _:=And.intro hm6 (And.intro f_r6 k6.2)
    clear hm5 f_r5 f_m5 hS5 f_d5 hm6 f_r6 k6 hS6 f_d6
    go_wp2_with fail
    clear d0 d1 d2 s1
    obtain ⟨hm6,f_r6,f_m6⟩:=HH.out
    clear HH
    refine (mkeep_all x.word hcs (w.heap.size+1) _ (48+CL.length+grdN x.word) I2 m k w6 f_m6 ⟨by simp;omega,by omega⟩ lc2 (by omega)).mono ?_
    rintro e w7 ⟨rfl,k7⟩
    have hm7:=hm6.trans' k7.1
    have f_r7:=k7.1.keep f_r6 (by decide) (by decide)
    have f_m7:Mkr w7 (w.heap.size+1) (LK (pq q) (k+1)) (48+CL.length+grdN x.word+1) (IK (pq q) (k+1)):=by
     rw [HN2.out.1,HN2.out.2,← HI.out,HCS.out,← List.append_assoc,← List.append_assoc]
     exact k7.2
    have HX:Hid _:=And.intro hm7 (And.intro f_r7 f_m7)
    clear hm6 f_r6 f_m6 k7 hm7 f_r7 f_m7
    go_wp2_with fail
    go_roundw
    case rel=>exact ⟨k+1,_,by omega,by go_num,HX.out.1,HX.out.2.1,HX.out.2.2⟩
    case measure=>simp [intOf];omega
  ·have hks:k=q.length:=by omega
   subst hks
   obtain ⟨e1,e2⟩:=LK_all (pq q)
   rw [HPL.out,sts_pq] at e1 e2
   rw [e1,e2] at f_m
   clear e1 e2
   have hN:cntI (cmds (q.map It.x))≤32:=by
    have h1:=cntI_le (cmds (q.map It.x))
    have h2:(cmds (q.map It.x)).length=q.length:=by simp [cmds]
    omega
   obtain ⟨sv,hb,hP⟩:=f_m
   obtain ⟨so,scap,rfl,-⟩:=owns_form hP
   obtain ⟨c0,c1,c2⟩:=cells3 hb
   obtain ⟨y0,y1,y2⟩:=cells3 f_r
   have z0:=fz3 f_r 0
   have z1:=fz3 f_r 1
   have z2:=fz3 f_r 2
   have hlt2:=lt_of_block hb
   obtain ⟨NN,hNN⟩:∃ NN,NN=cntI (cmds (q.map It.x)):=⟨_,rfl⟩
   rw [← hNN] at hb c2 hN
   have HNN:Hid (NN=cntI (cmds (q.map It.x))):=hNN
   clear hNN
   have HC:Hid _:=cells3 (set3_at (x':=.int .u8 128) (y':=.int .u8 (NN:Nat)) (z':=.slice so (cmdsL (cmds (q.map It.x)) 0 0).length scap) f_r)
   have hmE:=set3_mod hm1 w.heap.size (.int .u8 128) (.int .u8 (NN:Nat)) (.slice so (cmdsL (cmds (q.map It.x)) 0 0).length scap) (Nat.le_refl _)
   have hPE:=owns_base (base':=w.heap.size) (owns_mod hP (set3_own wr w.heap.size (.int .u8 128) (.int .u8 (NN:Nat)) (.slice so (cmdsL (cmds (q.map It.x)) 0 0).length scap)) (fun g h1 h2=>by omega)) (by omega)
   have HE:Hid _:=And.intro hmE hPE
   clear hmE hPE hm1 f_r hb hP
   go_wp2_with fail
   obtain ⟨g0,g1,g2⟩:=HC.out
   unfold set3 at g0 g1 g2
   exact bodyPost_ret (v:=.agg #[.int .u8 128,.int .u8 (NN:Nat),.slice so (cmdsL (cmds (q.map It.x)) 0 0).length scap]) (by simp [results,Tryz.results33,go_sem,g0,g1,g2]) rfl ⟨HE.out.1,so,_,scap,by rw [HNN.out],HE.out.2⟩
end Go.Proofs.YtmnfndpbblpjiaaGreatDoor

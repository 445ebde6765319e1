/- Proved here: whatever the script of bulk at most 1048576, each of its steps that asks for Compile is answered with a code that the document's own running of it finds right; no other condition (the three listed tables of Go's library are tied to the program's text). -/
import Derived.ProofKit
import Derived.Deep.Slices
import Derived.Lib.SmallJoins
import Derived.Test.YtmnfndpbblpjiabGreatDoorCards
import Derived.Test.YtmnfndpbblpjiabGreatDoorTie
import Derived.OpenShut
import Derived.Deep.DeepHandedRow
import Derived.Lib.LaidTab
import Derived.Test.YtmnfndpbblpjiabGreatDoorZc46
import Derived.Test.YtmnfndpbblpjiabGreatDoorZc47
import Derived.Test.YtmnfndpbblpjiabGreatDoorZc48
namespace Go.Proofs.YtmnfndpbblpjiabGreatDoor
open Go.RowKit Pu
theorem Mod.below {a b : World} (h : Mod (fun _ => False) a b) : Below a.heap.size a b := ⟨h.os,h.tape,h.output,h.size,fun k hk => h.block k hk (fun f => f)⟩
set_option maxHeartbeats 3200000 in
set_option maxRecDepth 100000 in
theorem compiled_any (s c inp : ByteArray) (a : Nat) (w : World) (hs : s.size ≤ 300) (hi : inp.size ≤ 2000000) (h : CmpA s (c,a)) : Calls Tryz.prog 43 #[.string s,.string c,.int .i64 a,.string inp] w fun e w' => e = .returned (.bool true) ∧ Mod (fun _ => False) w w' := by
 obtain ⟨nn,hnn⟩ : ∃ nn : Nat,nn = 8000 := ⟨8000,rfl⟩
 obtain ⟨B,hB⟩ : ∃ B : Nat,B = 10 ^ nn := ⟨_,rfl⟩
 have HB : Hid (B = 10 ^ nn ∧ nn = 8000) := ⟨hB,hnn⟩
 clear hB hnn
 obtain ⟨a0,b0,hA0,hC⟩ := h
 have HC : Hid _ := And.intro hA0 hC
 clear hA0 hC
 go_enter Tryz.func43,Tryz.ntmps43
 go_wp2_with fail
 refine (rcheck_any s w hs).mono ?_
 rintro e w2 ⟨⟨a',b,hA,rfl⟩,hm⟩
 obtain ⟨hA0,hC⟩ := HC.out
 clear HC
 obtain ⟨rfl,rfl⟩ := hA.unique hA0
 clear hA0
 rcases hC with ⟨h0,hr⟩ | ⟨h0,hr⟩
 ·have hb : ((a' : Int) != 0) = true := by rw [bne_iff_ne]; omega
  cases hr
  clear hA
  go_wp2_with fail
  go_ret
  exact ⟨rfl,hm⟩
 ·subst h0
  obtain ⟨hw,-,p,hok,hp⟩ := hA.zero
  have h16 : p.length ≤ 16 := by have := (whole_count hw).1; rw [← hp,sts_len] at this; exact this
  have hM := Pu.made_any hok h16
  have HZ : Hid _ := StR.of hok h16
  have HN : Hid _ := ndR_cnt hok h16
  have HQ : Hid _ := fun ins => report_same ins _ (wf_cmds hok)
  have H32 : Hid _ := cnt_32 h16
  have HG : Hid _ := okG_good hok h16
  have HPL : Hid _ := fun (ins : List Int) (hin : ∀ x ∈ ins,x.natAbs ≤ 99) hc => play_report HB.out.1 HB.out.2 ins hin _ (wf_cmds hok) (by rw [cmds_len]; exact h16) hc
  have HV : Hid (vfy ⟨(joined 128 (cntI (cmds (sts p))) (cmdsL (cmds (sts p)) 0 0)).toArray⟩ = (0,0)) := join_vfy (by omega) (by omega) hM.n32 (by have := hM.len; omega) (okG_small _ _ hM.ok) (okG_okL _ _ hM.ok)
  have HST : Hid (steps ⟨(joined 128 (cntI (cmds (sts p))) (cmdsL (cmds (sts p)) 0 0)).toArray⟩ = cmdsL (cmds (sts p)) 0 0) := join_steps (okG_small _ _ hM.ok)
  have HI : Hid (g ⟨(joined 128 (cntI (cmds (sts p))) (cmdsL (cmds (sts p)) 0 0)).toArray⟩ 3 = cntI (cmds (sts p))) := join_i (by have := hM.n32; omega)
  have hsz : (⟨(joined 128 (cntI (cmds (sts p))) (cmdsL (cmds (sts p)) 0 0)).toArray⟩ : ByteArray).size = 6 + 4 * (cmdsL (cmds (sts p)) 0 0).length := join_size
  have hlen : (cmdsL (cmds (sts p)) 0 0).length ≤ 2000 := by have := hM.len; omega
  have hst := fun W => stmts_any s W hs (whole_head hw)
  rw [hp] at HZ HN HQ H32 HG HPL HV HST HI hsz hlen
  clear hM hA hok h16 hp hw
  have hll := HZ.out.n
  generalize (gaA s s.size).l = l at *
  cases hr
  generalize (⟨(joined 128 (cntI (cmds l)) (cmdsL (cmds l) 0 0)).toArray⟩ : ByteArray) = c at *
  generalize cmdsL (cmds l) 0 0 = q at *
  have h3 : 3 < c.size := by omega
  have j3 : (3 : Int) < (c.size : Int) := by omega
  have HG3 : Hid (g c 3 = (c[3]'h3).toNat) := g_in h3
  have l3 := (c[3]'h3).toNat_lt
  have hc3 : ((c[3]'h3).toNat : Int) = (cntI (cmds l) : Int) := by rw [← HG3.out,HI.out]
  have w3 : IntKind.i64.wrap (cntI (cmds l) : Int) = (cntI (cmds l) : Int) := by have := H32.out; simp [IntKind.wrap,IntKind.signed,IntKind.bits]; omega
  go_wp2_with fail
  refine (rverify_any c w2 (by omega)).mono ?_
  rintro e w3 ⟨he,hm3⟩
  rw [HV.out] at he
  subst he
  replace hm := hm.trans hm3
  clear hm3
  go_wp2_with fail
  refine (hst _).mono ?_
  rintro e w4 ⟨hm4,v,rfl,hL⟩
  replace hm := hm.trans hm4
  clear hm4 hst
  have hnd := fun W (hL : RLst W w3.heap.size v l) => rneed_any v l _ W (by omega) hL
  rw [HN.out] at hnd
  go_wp2_with fail
  have hdw : Mod (fun _ => False) w4 w4.drew := (Mod.refl _ w4).drew
  replace hm := hm.trans hdw
  replace hL := hL.mod hdw
  clear hdw
  go_region_held3 (fun _ => True)
   (exact True.intro)
   (first
    | (go_at_call 70; refine (hnd _ hL).mono ?_; rintro e w5 ⟨rfl,rfl⟩))
  all_goals
   go_wp2_with fail
   refine (inputs_any inp _ hi).mono ?_
   cases hin : inps inp with
   | none =>
    rintro e w6 ⟨hm6,rfl⟩
    have hmE := hm.trans hm6
    clear hm hm6 hL hnd
    go_wp2_with fail
    go_ret
    exact ⟨rfl,hmE⟩
   | some ins =>
    rintro e w6 ⟨hm6,vi,rfl,hI⟩
    have hmE := hm.trans hm6
    have hL6 := hL.mod hm6
    clear hm hm6 hL
    have HIR : Hid _ := inps_range hin
    clear hin
    obtain ⟨ai,capi,rfl,-⟩ := owns_form hI
    have hneed := hnd w6 hL6
    clear hnd
    by_cases hc : ins.length = cntI (cmds l)
    ·have HPLY : Hid _ := HPL.out ins (fun x hx => by have := HIR.out x hx; omega) hc.symm
     have hi32 : ins.length ≤ 32 := by rw [hc]; exact H32.out
     have HGD : Hid (∀ t ∈ q,Good ins.length t) := show _ by rw [hc]; exact HG.out
     have hrp := fun W (hL : RLst W w3.heap.size v l) (hI : W.ownsRow w4.drew.heap.size 3 1 (.slice ai ins.length capi) ins.length (zvs ins)) => report_any v _ l (cmds l) _ ins _ _ W HZ.out hL hI HIR.out hc.symm hi32
     rw [HQ.out] at hrp
     generalize semC ins (cmds l) 0 0 [] ⟨#[]⟩ = rr at *
     rw [← hc] at hneed
     clear hc
     go_wp2_with fail
     refine hneed.mono ?_
     rintro e w7 ⟨rfl,rfl⟩
     clear hneed
     go_wp2_with fail
     refine (steps_any c _ (by omega)).mono ?_
     rintro e w7 ⟨hm7,v7,rfl,hT7⟩
     rw [HST.out] at hT7
     have hI7 := owns_mod hI hm7 (fun _ _ f => f)
     have hL7 := hL6.mod hm7
     have hmF := hmE.trans hm7
     clear hI hL6 hmE hm7
     go_wp2_with fail
     refine (played_any B nn HB.out.1 HB.out.2 v7 _ q ins _ _ w7 (by omega) hT7 hI7 (by omega) HIR.out HGD.out).mono ?_
     rintro e w8 ⟨he,hm8⟩
     rw [HPLY.out] at he
     subst he
     have hrp8 := hrp w8 (hL7.mod hm8) (owns_mod hI7 hm8 (fun _ _ f => f))
     have hmG := hmF.trans hm8
     clear hrp hT7 hI7 hL7 hmF hm8
     go_wp2_with fail
     refine hrp8.mono ?_
     rintro e w9 ⟨rfl,hm9⟩
     have hmH := hmG.trans hm9
     clear hrp8 hmG hm9
     go_wp2_with fail
     go_ret
     exact ⟨rfl,hmH⟩
    ·have hb : ((ins.length : Int) != (cntI (cmds l) : Int)) = true := by rw [bne_iff_ne]; omega
     clear hI hL6 hc
     go_wp2_with fail
     refine hneed.mono ?_
     rintro e w7 ⟨rfl,rfl⟩
     clear hneed
     go_wp2_with fail
     go_ret
     exact ⟨rfl,hmE⟩
end Go.Proofs.YtmnfndpbblpjiabGreatDoor

/- A script's steps, gone through, where the texts are of at most 1048576 bytes. -/
namespace Go.Proofs.YtmnfndpbblpjiabGreatDoor
open Go.RowKit
def ScrU (w : World) (v : Value) : Prop := ∃ ao len cap,v = .slice ao len cap ∧ len ≤ maxLen ∧ ∀ i,i < len → ∃ bk off kd n a b,ao = some ⟨bk,off,none⟩ ∧ bk < w.heap.size ∧
 w.cell? ⟨bk,off + i * 4,none⟩ = some (.int .i64 kd) ∧ w.cell? ⟨bk,off + i * 4 + 1,none⟩ = some (.int .i64 n) ∧ w.cell? ⟨bk,off + i * 4 + 2,none⟩ = some (.string a) ∧ w.cell? ⟨bk,off + i * 4 + 3,none⟩ = some (.string b) ∧
 a.size ≤ 1048576 ∧ b.size ≤ 1048576 ∧ (Lit.int .i64 n).wf = true
def PlaysU (lo hi : Int) : Prop := ∀ (kd n : Int) (a b : ByteArray) (w : World),lo ≤ kd → kd ≤ hi → a.size ≤ 1048576 → b.size ≤ 1048576 → (Lit.int .i64 n).wf = true →
 Calls Tryz.prog 30 #[op4 kd n a b] w fun e w' => e = .returned (.bool true) ∧ Mod (fun _ => False) w w'
set_option maxHeartbeats 1000000 in
set_option maxRecDepth 100000 in
theorem uptoU_any (v : Value) (lo hi : Int) (w : World) (hS : ScrU w v) (hP : PlaysU lo hi) :
  Calls Tryz.prog 22 #[v,.int .i64 lo,.int .i64 hi] w fun e w' => e = .returned (.int .i64 (-1)) ∧ Mod (fun _ => False) w w' := by
 obtain ⟨ao,len,cap,rfl,hlen,hc⟩ := hS
 unfold maxLen at hlen
 have HC : Hid (∀ i,i < len → ∃ bk off kd n a b,ao = some ⟨bk,off,none⟩ ∧ bk < w.heap.size ∧
  w.cell? ⟨bk,off + i * 4,none⟩ = some (.int .i64 kd) ∧ w.cell? ⟨bk,off + i * 4 + 1,none⟩ = some (.int .i64 n) ∧ w.cell? ⟨bk,off + i * 4 + 2,none⟩ = some (.string a) ∧ w.cell? ⟨bk,off + i * 4 + 3,none⟩ = some (.string b) ∧
  a.size ≤ 1048576 ∧ b.size ≤ 1048576 ∧ (Lit.int .i64 n).wf = true) := hc
 have HP : Hid (PlaysU lo hi) := hP
 clear hc hP
 go_enter Tryz.func22,Tryz.ntmps22
 go_wp2_with fail
 go_loopw [7] (fun i wr => ∃ k : Nat,k ≤ len ∧ i = .int .i64 k ∧ Mod (fun _ => False) w wr) (fun i _ => len - (intOf i).toNat)
 case atStart => exact ⟨0,by omega,rfl,Mod.refl _ _⟩
 case round =>
  obtain ⟨k,hk,rfl,hm⟩ := hrel
  by_cases hlt : k < len
  ·obtain ⟨bk,off,kd,n,a,b,rfl,hbk,c0,c1,c2,c3,ha,hb,hn⟩ := HC.out k hlt
   have HA : Hid (a.size ≤ 1048576 ∧ b.size ≤ 1048576 ∧ (Lit.int .i64 n).wf = true) := ⟨ha,hb,hn⟩
   have hbe : wr.heap[bk]? = w.heap[bk]? := hm.block bk hbk (fun f => f)
   have d0 := (World.cell?_of_block (a := ⟨bk,off + k * 4,none⟩) hbe).trans c0
   have d1 := (World.cell?_of_block (a := ⟨bk,off + k * 4 + 1,none⟩) hbe).trans c1
   have d2 := (World.cell?_of_block (a := ⟨bk,off + k * 4 + 2,none⟩) hbe).trans c2
   have d3 := (World.cell?_of_block (a := ⟨bk,off + k * 4 + 3,none⟩) hbe).trans c3
   clear c0 c1 c2 c3 ha hb hn hbe HC
   have hma : Mod (fun _ => False) wr (wr.alloc (.cells #[.int .i64 kd,.int .i64 n,.string a,.string b] 56)) := (Mod.refl _ wr).alloc _
   by_cases h1 : lo ≤ kd
   ·by_cases h2 : kd ≤ hi
    ·go_wp2_with fail
     refine (HP.out kd n a b _ h1 h2 HA.out.1 HA.out.2.1 HA.out.2.2).mono ?_
     rintro e w2 ⟨rfl,hm2⟩
     have hm3 := hm.trans (hma.trans hm2)
     clear hm hma hm2 d0 d1 d2 d3
     go_wp2_with fail
     go_roundw
     case rel => exact ⟨k + 1,by omega,by go_num,hm3⟩
     case measure => simp [intOf]; omega
    ·have hm3 := hm.trans hma
     clear hm hma
     go_wp2_with fail
     go_roundw
     case rel => exact ⟨k + 1,by omega,by go_num,hm3⟩
     case measure => simp [intOf]; omega
   ·have hm3 := hm.trans hma
    clear hm hma
    go_wp2_with fail
    go_roundw
    case rel => exact ⟨k + 1,by omega,by go_num,hm3⟩
    case measure => simp [intOf]; omega
  ·clear HC
   go_wp2_with fail
   go_ret
   exact ⟨rfl,hm⟩
theorem Plays.u {lo hi : Int} (h : Plays lo hi) : PlaysU lo hi := fun kd n a b w h1 h2 ha hb hn => h kd n a b w h1 h2 (by unfold maxLen; omega) (by unfold maxLen; omega) hn
end Go.Proofs.YtmnfndpbblpjiabGreatDoor

/- A step that asks for Compile. -/
namespace Go.Proofs.YtmnfndpbblpjiabGreatDoor
open Go.RowKit Pu
set_option maxHeartbeats 800000 in
set_option maxRecDepth 100000 in
theorem clong_any (s inp : ByteArray) (w : World) (hs : 300 < s.size) (hm : s.size ≤ maxLen) : Calls Tryz.prog 43 #[.string s,.string ⟨#[]⟩,.int .i64 1,.string inp] w fun e w' => e = .returned (.bool true) ∧ Mod (fun _ => False) w w' := by
 go_enter Tryz.func43,Tryz.ntmps43
 go_wp2_with fail
 refine (rcheck_long s w hs hm).mono ?_
 rintro e w2 ⟨rfl,rfl⟩
 go_wp2_with fail
 go_ret
 exact ⟨rfl,Mod.refl _ _⟩
set_option maxHeartbeats 800000 in
set_option maxRecDepth 100000 in
theorem plays_compile : PlaysU 7 7 := by
 intro kd n a b w h1 h2 ha hb hn
 obtain rfl : kd = 7 := by omega
 have hm0 : Mod (fun _ => False) w (w.alloc (.cells #[.int .i64 7,.int .i64 n,.string a,.string b] 56)) := (Mod.refl _ w).alloc _
 have hO := ope_new w 7 n a b
 clear h1 h2 hn
 by_cases hs : a.size ≤ 300
 ·have hex := fun w => cmp_any a w hs
  have hrx := fun c n w (h : CmpA a (c,n)) => compiled_any a c b n w hs (by omega) h
  clear hs
  go_enter Tryz.func30,Tryz.ntmps30
  go_wp2_with fail
  refine (hex _).mono ?_
  rintro e w1 ⟨hm1,⟨c,m⟩,hr,rfl⟩
  have hO1 := hO.keep hm1 (fun f => f)
  have c2 := hO1.c2
  have c3 := hO1.c3
  have hrx2 := fun w => hrx c m w hr
  clear hex hrx hr
  have hT := And.intro c2 c3
  have hdw : Mod (fun _ => False) w1 w1.drew := (Mod.refl _ w1).drew
  have d2 := hdw.cell c2
  have d3 := hdw.cell c3
  have hS := And.intro d2 d3
  go_wp2_with fail
  go_region_held3 (fun w' => w'.cell? ⟨w.heap.size,2,none⟩ = some (.string a) ∧ w'.cell? ⟨w.heap.size,3,none⟩ = some (.string b))
   (first | with_reducible exact hS | with_reducible exact hT | with_reducible exact hU)
   (first
    | (go_at_call 43; have _d := n1; refine (hrx2 _).mono ?_; rintro e w2 ⟨rfl,hm2⟩; have hU := And.intro (hm2.cell d2) (hm2.cell d3))
    | (go_at_call 39; (fail_if_success have _e := n1); refine (num_any _ _).mono ?_; rintro e w' ⟨rfl,rfl⟩; have n1 := True.intro))
  have hm := hm0.trans (hm1.trans (hdw.trans hm2))
  clear hm0 hm1 hm2 c2 c3 d2 d3 hO1 hO hrx2 hS hT hU hdw
  go_wp2_with fail
  go_ret
  exact ⟨rfl,hm⟩
 ·have hl : a.size ≤ maxLen := by unfold maxLen; omega
  have hex := fun w => cmp_long a w (by omega) hl
  have hrx := fun w => clong_any a b w (by omega) hl
  clear hs hl
  go_enter Tryz.func30,Tryz.ntmps30
  go_wp2_with fail
  refine (hex _).mono ?_
  rintro e w1 ⟨rfl,rfl⟩
  have c2 := hO.c2
  have c3 := hO.c3
  clear hex
  generalize w.alloc (.cells #[.int .i64 7,.int .i64 n,.string a,.string b] 56) = w1 at *
  have hT := And.intro c2 c3
  have hdw : Mod (fun _ => False) w1 w1.drew := (Mod.refl _ w1).drew
  have d2 := hdw.cell c2
  have d3 := hdw.cell c3
  have hS := And.intro d2 d3
  go_wp2_with fail
  go_region_held3 (fun w' => w'.cell? ⟨w.heap.size,2,none⟩ = some (.string a) ∧ w'.cell? ⟨w.heap.size,3,none⟩ = some (.string b))
   (first | with_reducible exact hS | with_reducible exact hT | with_reducible exact hU)
   (first
    | (go_at_call 43; have _d := n1; refine (hrx _).mono ?_; rintro e w2 ⟨rfl,hm2⟩; have hU := And.intro (hm2.cell d2) (hm2.cell d3))
    | (go_at_call 39; (fail_if_success have _e := n1); refine (num_any _ _).mono ?_; rintro e w' ⟨rfl,rfl⟩; have n1 := True.intro))
  have hm := hm0.trans (hdw.trans hm2)
  clear c2 c3 d2 d3 hO hrx hm0 hm2 hS hT hU hdw
  go_wp2_with fail
  go_ret
  exact ⟨rfl,hm⟩
set_option maxHeartbeats 400000 in
theorem compiles_walk (v : Value) (w : World) (hS : ScrU w v) : Calls Tryz.prog 6 #[v] w fun e w' => e = .returned (.bool true) ∧ Mod (fun _ => False) w w' := by
 have HS : Hid (ScrU w v) := hS
 clear hS
 go_enter Tryz.func6,Tryz.ntmps6
 go_wp2_with fail
 refine (uptoU_any v 7 7 w HS.out plays_compile).mono ?_
 rintro e w1 ⟨rfl,hm1⟩
 go_wp2_with fail
 go_ret
 exact ⟨rfl,hm1⟩
end Go.Proofs.YtmnfndpbblpjiabGreatDoor

/- From an argument that can be read to a script in memory: what every proof of a row over scripts shares. -/
namespace Go.Proofs.YtmnfndpbblpjiabGreatDoor
open Go.ChangeShapes Go.WideShapes Go.ChangeAt Go.RowKit Go.Deep Go.Joins
theorem Tryz.own : ownKnob Tryz.prog.godebug = none := by kernel_rfl
theorem Tryz.laidOut : laidOutB Tryz.prog = true := by kernel_rfl
theorem Tryz.cellsOp : Tryz.prog.cellsOf 56 = 4 := by kernel_rfl
theorem Tryz.cellsInt : Tryz.prog.cellsOf 3 = 1 := by kernel_rfl
theorem Tryz.cellsStr : Tryz.prog.cellsOf 9 = 1 := by kernel_rfl
theorem list4 {α : Type} {l : List α} (h : l.length = 4) : ∃ a b c d,l = [a,b,c,d] := by
 match l,h with
 | [a,b,c,d],_ => exact ⟨a,b,c,d,rfl⟩
theorem bulk_part {H : Type} {d : DataW H} {l : List (DataW H)} (h : d ∈ l) : Rows.uptoBulk d ≤ Rows.uptoBulkAll l := by
 induction l with
 | nil => cases h
 | cons x r ih =>
  simp only [Rows.uptoBulkAll]
  cases List.mem_cons.1 h with
  | inl e => subst e; omega
  | inr e => have := ih e; omega
theorem bulk_elem {H : Type} {d : DataW H} {l r : List (DataW H)} (h : d ∈ l) : Rows.uptoBulk d ≤ Rows.uptoBulk (.slice l r) := by
 have := bulk_part h
 simp only [Rows.uptoBulk]
 omega
theorem bulk_op {H : Type} {a b c d : DataW H} {s : ByteArray} (h : c = .lit (.string s.data.toList) ∨ d = .lit (.string s.data.toList)) : s.size ≤ Rows.uptoBulk (.agg [a,b,c,d]) := by
 have e : s.data.toList.length = s.size := by simp
 rcases h with rfl | rfl <;> simp only [Rows.uptoBulk,Rows.uptoBulkAll,e] <;> omega
set_option maxRecDepth 100000 in
theorem scrU_of {H : Type} {enc : TypeId × Value → H} {W : World} {fuel : Nat} {v : Value} {x : DataW H × List MemPlace} (hv : ∃ a len cap,v = .slice a len cap) (h : DataW.trod enc Tryz.prog W 0 (fun _ => true) true fuel 43 v.cells.toList = some x) (hk : Rows.uptoBulk x.1 ≤ 1048576) : ScrU W v := by
 obtain ⟨a0,l0,cp0,rfl⟩ := hv
 rcases open_slice Tryz.underlying43 h with ⟨hcs,_⟩ | ⟨a,len,cap,m,n,D,Pl,hcs,_,hl,hm,hmm,hxe,hx⟩
 ·simp [Value.cells] at hcs
  obtain ⟨rfl,rfl,rfl⟩ := hcs
  exact ⟨none,0,0,rfl,by unfold maxLen; omega,fun i hi => by omega⟩
 ·simp [Value.cells] at hcs
  obtain ⟨rfl,rfl,rfl⟩ := hcs
  refine ⟨some a,l0,cp0,rfl,by omega,fun i hi => ?_⟩
  have him : i < m := by simp at hmm; omega
  have hbi : Rows.uptoBulk (D i) ≤ 1048576 := by
   refine Nat.le_trans (bulk_elem (r := (List.range (m - l0)).map fun j => D (l0 + j)) (List.mem_map.2 ⟨i,List.mem_range.2 hi,rfl⟩)) ?_
   rw [hxe] at hk
   exact hk
  obtain ⟨cs',h1,h2⟩ := hx i him
  rw [Tryz.cellsOp] at h1
  obtain ⟨_,hlen,hcell⟩ := World.cells?_some h1
  obtain ⟨y0,y1,y2,y3,n',hag,_,g0,g1,g2,g3⟩ := trod_struct4 Tryz.underlying56 h2
  obtain ⟨v0,v1,v2,v3,rfl⟩ := list4 hlen
  ·simp [Tryz.cellsInt,Tryz.cellsStr] at g0 g1 g2 g3
   obtain ⟨kd,e0,-,-⟩ := DataW.trod_int Tryz.underlying3 g0
   obtain ⟨nn,e1,-,wn⟩ := DataW.trod_int Tryz.underlying3 g1
   obtain ⟨s1,e2,z2,hs1⟩ := DataW.trod_string Tryz.underlying9 g2
   obtain ⟨s2,e3,z3,hs2⟩ := DataW.trod_string Tryz.underlying9 g3
   have hD : D i = .agg [y0.1,y1.1,y2.1,y3.1] := by have := congrArg Prod.fst hag; simpa using this
   rw [hD] at hbi
   have b1 : s1.size ≤ 1048576 := Nat.le_trans (bulk_op (.inl (by rw [z2]))) hbi
   have b2 : s2.size ≤ 1048576 := Nat.le_trans (bulk_op (.inr (by rw [z3]))) hbi
   simp at e0 e1 e2 e3
   subst e0 e1 e2 e3
   have k0 := hcell 0 (by omega)
   have k1 := hcell 1 (by omega)
   have k2 := hcell 2 (by omega)
   have k3 := hcell 3 (by omega)
   rw [add_add] at k0 k1 k2 k3
   obtain ⟨bk,off,spot⟩ := a
   have hsp : spot = none := by
    obtain ⟨cs0,z1,_⟩ := hx 0 (by omega)
    rw [Tryz.cellsOp] at z1
    obtain ⟨_,zl,zc⟩ := World.cells?_some z1
    obtain ⟨z0,_,_,_,rfl⟩ := list4 zl
    have := zc 0 (by omega)
    rw [add_add] at this
    simpa [Addr.add] using World.cell?_spot (by simpa using this : W.cell? (Addr.add ⟨bk,off,spot⟩ 0) = some z0)
   subst hsp
   have hadd : ∀ j,(⟨bk,off,none⟩ : Addr).add j = ⟨bk,off + j,none⟩ := fun j => by
    unfold Addr.add
    by_cases h0 : j = 0
    ·subst h0; simp
    ·simp [h0]
   rw [hadd] at k0 k1 k2 k3
   have hb : bk < W.heap.size := by
    have : ∃ o,W.heap[bk]? = some o := by
     cases ho : W.heap[bk]? with
     | none => simp [World.cell?,ho] at k1
     | some o => exact ⟨o,rfl⟩
    obtain ⟨o,ho⟩ := this
    exact lt_of_block ho
   exact ⟨bk,off,kd,nn,s1,s2,rfl,hb,by simpa using k0,by simpa [Nat.add_assoc] using k1,by simpa [Nat.add_assoc] using k2,by simpa [Nat.add_assoc] using k3,b1,b2,wn⟩
end Go.Proofs.YtmnfndpbblpjiabGreatDoor

/- A world in which the three listed tables of Go's own library lie as their text lays them: for the witness of a row. -/
namespace Go.Proofs.YtmnfndpbblpjiabGreatDoor
open Go.ChangeShapes Go.WideShapes Go.ChangeAt Go.RowKit
def layCells (c : Array Value) : Obj → Obj
 | .cells _ t frozen => .cells c t frozen
 | o => o
noncomputable def laidWorld (os : Os) : World :=
 { World.holding Tryz.prog os ⟨#[],#[],[]⟩ with heap := (((World.holding Tryz.prog os ⟨#[],#[],[]⟩).heap.modify 0 (layCells #[.int .u64 1,.int .u64 10,.int .u64 100,.int .u64 1000,.int .u64 10000,.int .u64 100000,.int .u64 1000000,.int .u64 10000000,.int .u64 100000000,.int .u64 1000000000,.int .u64 10000000000,.int .u64 100000000000,.int .u64 1000000000000,.int .u64 10000000000000,.int .u64 100000000000000,.int .u64 1000000000000000,.int .u64 10000000000000000,.int .u64 100000000000000000,.int .u64 1000000000000000000,.int .u64 10000000000000000000])).modify 1 (layCells #[.int .u8 0,.int .u8 1,.int .u8 28,.int .u8 2,.int .u8 29,.int .u8 14,.int .u8 24,.int .u8 3,.int .u8 30,.int .u8 22,.int .u8 20,.int .u8 15,.int .u8 25,.int .u8 17,.int .u8 4,.int .u8 8,.int .u8 31,.int .u8 27,.int .u8 13,.int .u8 23,.int .u8 21,.int .u8 19,.int .u8 16,.int .u8 7,.int .u8 26,.int .u8 12,.int .u8 18,.int .u8 6,.int .u8 11,.int .u8 5,.int .u8 10,.int .u8 9])).modify 2 (layCells #[.int .u8 0,.int .u8 1,.int .u8 56,.int .u8 2,.int .u8 57,.int .u8 49,.int .u8 28,.int .u8 3,.int .u8 61,.int .u8 58,.int .u8 42,.int .u8 50,.int .u8 38,.int .u8 29,.int .u8 17,.int .u8 4,.int .u8 62,.int .u8 47,.int .u8 59,.int .u8 36,.int .u8 45,.int .u8 43,.int .u8 51,.int .u8 22,.int .u8 53,.int .u8 39,.int .u8 33,.int .u8 30,.int .u8 24,.int .u8 18,.int .u8 12,.int .u8 5,.int .u8 63,.int .u8 55,.int .u8 48,.int .u8 27,.int .u8 60,.int .u8 41,.int .u8 37,.int .u8 16,.int .u8 46,.int .u8 35,.int .u8 44,.int .u8 21,.int .u8 52,.int .u8 32,.int .u8 23,.int .u8 11,.int .u8 54,.int .u8 26,.int .u8 40,.int .u8 15,.int .u8 34,.int .u8 20,.int .u8 31,.int .u8 10,.int .u8 25,.int .u8 14,.int .u8 19,.int .u8 9,.int .u8 13,.int .u8 8,.int .u8 7,.int .u8 6]) }
theorem laid_met (os : Os) : laidMet Tryz.prog Rows.sidesRow.laid ((laidWorld os).forCall (fun _ _ => 0) ⟨#[],#[.slice none 0 0],[]⟩).memory :=
 laidMet_of_run' 8 (by kernel_rfl) (by kernel_rfl)
theorem plain_of {name : String} {k : FuncId} {fk : Func} (hk : Tryz.prog.funcNamed name = some k) (hfk : Tryz.prog.funcs[k]? = some fk) (hp : fk.params = #[43]) (f : FuncId) (fn : Func) (hf : Tryz.pinned.checked.prog.funcNamed name = some f) (hfn : Tryz.pinned.checked.prog.funcs[f]? = some fn) :
  false = Tryz.pinned.checked.prog.looks [] ∧ ∀ (j : Nat) t,fn.params[j]? = some t → Tryz.pinned.checked.prog.wantsStandIn t = false := by
 obtain rfl : f = k := Option.some.inj (hk.symm.trans hf) |>.symm
 obtain rfl : fn = fk := (Option.some.inj (hfk.symm.trans hfn)).symm
 refine ⟨by kernel_rfl,fun j t ht => ?_⟩
 rw [hp] at ht
 obtain rfl : t = 43 := by simpa using Array.mem_of_getElem? ht
 exact (show Tryz.prog.wantsStandIn 43 = false by kernel_rfl)
set_option maxRecDepth 100000 in
theorem compiles_reads (os : Os) {H : Type} (enc : TypeId × Value → H) : ∃ places,DataW.whole enc Tryz.prog ((laidWorld os).forCall (fun _ _ => 0) ⟨#[],#[.slice none 0 0],[]⟩).memory Tryz.f6.params.toList Rows.compilesSpec.vars false #[Value.slice none 0 0].toList 8 = some ([.nil],[],places) :=
 ⟨[],by kernel_rfl⟩
set_option maxRecDepth 100000 in
theorem compiles_lifted (os : Os) (started : os.Started) (H : Type) (enc : TypeId × Value → H) (F : Stop.Interp) :
  ReturnsInHanded {} Tryz.checked os 6 .any ((Rows.OpenSpec.upto Rows.compilesSpec).preRow enc Tryz.prog Tryz.f6 Rows.compilesUptoRow.domain false Rows.compilesUptoRow.laid) (((Rows.OpenSpec.upto Rows.compilesSpec).at F).post enc Tryz.prog Tryz.f6 false true false false) := by
 obtain ⟨places,hx⟩ := compiles_reads os enc
 refine returnsInHanded_of_row (C := Tryz.checked) (s := Rows.OpenSpec.upto Rows.compilesSpec) Tryz.own started (by kernel_rfl) Tryz.func6
  (witness_row_at (enc := enc) (C := Tryz.checked) false (laidWorld os) #[.slice none 0 0] rfl (by kernel_rfl) (by kernel_rfl) (by kernel_rfl)
   (OpenSpec.preRow_of_cond 8 hx (by kernel_rfl) (fun k hk => by cases hk; kernel_rfl) (by kernel_rfl) (laid_met os))) ?_
 intro W base args ds gs before hval0 hW _ hcond _ _ _ _
 have hval : ∀ (j : Nat) t v,Tryz.f6.params[j]? = some t → args[j]? = some v → Value.okWide Tryz.prog W .any base t v := hval0
 have hW' := hW
 obtain ⟨p,q,hA0,hV,rfl,_,_⟩ := hW
 have hA : DataW.TrodAll enc Tryz.prog W 0 (fun _ => true) true Tryz.f6.params.toList args.toList ds p := hA0
 rw [Tryz.params6] at hA hval
 obtain ⟨v0,d0,rfl,rfl,h0⟩ := trodAll_one hA
 obtain ⟨rfl,rfl⟩ := trodVars_none hV
 have h0k := h0
 obtain ⟨fuel,hf⟩ := h0
 clear hA0 hval0
 simp only [List.append_nil] at hW'
 have hlt : ∀ x ∈ p,x.block < W.heap.size := fun x hx => by simpa using hW'.lt x hx
 have hk := of_decide_eq_true (hcond _ rfl)
 simp only [List.append_nil,Rows.uptoBulkAll,Nat.add_zero] at hk
 have hS : ScrU W v0 := scrU_of (okWide_slice Tryz.underlying43 (hval 0 43 v0 rfl rfl)) hf hk
 refine (compiles_walk v0 W hS).mono fun e W' ⟨he,hm⟩ => ?_
 subst he
 exact ⟨_,rfl,⟨_,_,_,[],_,[],hW',trodAll_mk1 (shut_bool Tryz.underlying4 true),trodAll_mk1 (Below.trod Tryz.laidOut (by kernel_rfl) (of_decide_eq_true (by kernel_rfl)) h0k hm.below hlt),rfl,hm.below.frame _,fun h => by cases h⟩⟩
theorem compiles_said : Rows.CompilesUptoSaid :=
 OpenClaim.holds_of_cond 6 Tryz.f6 rfl rfl rfl rfl rfl rfl rfl ⟨rfl,rfl,rfl,rfl,rfl⟩ rfl rfl rfl rfl rfl (by kernel_rfl) Tryz.func6 (by kernel_rfl)
  (of_decide_eq_true (by kernel_rfl)) (by unfold Func.isWrapper; first | (rw [if_pos (by decide +kernel)]; kernel_rfl) | (rw [if_neg (by decide +kernel)]; exact ⟨rfl,rfl⟩))
  (fun os started H enc _ F => by rw [OpenClaim.pre_eq_preRow]; exact compiles_lifted os started H enc F)
theorem compiles_holds : Rows.CompilesUptoCardSaid :=
 Claim7.holds_tied_plain_at .later [] _ _ _ _ compiles_said (fun _ h => by cases h) (by kernel_rfl) (fun _ h => by cases h) compilesUpto_row_tie rfl ⟨rfl,rfl⟩ (by kernel_rfl) rfl (plain_of (by kernel_rfl) Tryz.func6 Tryz.params6) (by kernel_rfl)
end Go.Proofs.YtmnfndpbblpjiabGreatDoor

/- The document's Run, and a step that asks for it. -/
import Derived.Test.YtmnfndpbblpjiaaGreatDoorZr31
import Derived.Test.YtmnfndpbblpjiaaGreatDoorZr42
import Derived.Test.YtmnfndpbblpjiaaGreatDoorZr43
namespace Go.Proofs.YtmnfndpbblpjiaaGreatDoor
open Go.RowKit Pu
theorem ptR_ins {l:List St} {C:List Cmd} {V:List Nat} (h:StR l C V) {k:Nat} {x:St} (hx:l[k]?=some x):insC (cmdOf l x)=ptR x:=by
 have hq:=h.q k x hx
 rcases word_cases (h.k k x hx) with e | e | e | e | e | e | e | e | e | e | e | e | e | e | e | e | e | e <;> rw [e] at hq <;> simp [cmdOf,e,insC,ptR]
 exact fun e0=>by have:=hq.2 e0;simp [fm] at this
theorem ndR_cnt {p:List (St × Nat)} (h:Ok p) (hl:p.length≤16):ndR (sts p)=cntI (cmds (sts p)):=by
 have hS:=StR.of h hl
 unfold ndR cntI cmds
 rw [List.map_map]
 refine congrArg List.sum (List.map_congr_left fun x hx=>?_)
 obtain ⟨k,hk,e⟩:=List.getElem_of_mem hx
 exact (ptR_ins hS (k:=k) (by rw [List.getElem?_eq_getElem hk,e])).symm
theorem cnt_32 {p:List (St × Nat)} (hl:p.length≤16):cntI (cmds (sts p))≤32:=by
 have:∀ C:List Cmd,cntI C≤2*C.length:=fun C=>by
  induction C with
  | nil=>simp [cntI]
  | cons c C ih =>
   have:insC c≤2:=by cases c using Cmd.el <;> simp [insC]
   simp only [cntI,List.map_cons,List.sum_cons,List.length_cons] at *
   omega
 have:=this (cmds (sts p))
 rw [cmds_len] at this
 omega
set_option maxHeartbeats 400000 in
theorem rrun_long (s inp:ByteArray) (w:World) (hs:300 < s.size∨140 < inp.size) (hm:s.size≤maxLen) (hm2:inp.size≤maxLen):Calls Tryz.prog 28 #[.string s,.string inp] w fun e w'=>e=.returned (.tuple #[.string ⟨#[]⟩,.int .i64 1])∧w=w':=by
 unfold maxLen at hm hm2
 by_cases h1:300 < s.size
 ·have i1:(300:Int) < (s.size:Int):=by omega
  clear hs
  go_enter Tryz.func28,Tryz.ntmps28
  go_wp2_with fail
  go_ret2
  exact ⟨rfl,rfl⟩
 ·have i1:¬ (300:Int) < (s.size:Int):=by omega
  have i2:(140:Int) < (inp.size:Int):=by omega
  clear hs
  go_enter Tryz.func28,Tryz.ntmps28
  go_wp2_with fail
  go_ret2
  exact ⟨rfl,rfl⟩
set_option maxHeartbeats 1600000 in
set_option maxRecDepth 100000 in
theorem rrun_any (s inp:ByteArray) (w:World) (hs:s.size≤300) (hi:inp.size≤140):Calls Tryz.prog 28 #[.string s,.string inp] w fun e w'=>Mod (fun _=>False) w w'∧∃ r,RunA s inp r∧e=.returned (.tuple #[.string r.1,.int .i64 (r.2:Nat)]):=by
 have i1:¬ (300:Int) < (s.size:Int):=by omega
 have i2:¬ (140:Int) < (inp.size:Int):=by omega
 go_enter Tryz.func28,Tryz.ntmps28
 go_wp2_with fail
 refine (rcheck_any s w hs).mono ?_
 rintro e w2 ⟨⟨a,b,hA,rfl⟩,hm⟩
 by_cases h0:a=0
 ·subst h0
  obtain ⟨hw,-,p,hok,hp⟩:=hA.zero
  have h16:p.length≤16:=by have:=(whole_count hw).1;rw [← hp,sts_len] at this;exact this
  have HZ:Hid _:=StR.of hok h16
  have HN:Hid _:=ndR_cnt hok h16
  have HQ:Hid _:=fun ins=>report_same ins _ (wf_cmds hok)
  have H32:Hid _:=cnt_32 h16
  have HA:Hid (∀ r,r=rnS (gaA s s.size).l inp→RunA s inp r):=show _ from fun r e=>⟨0,b,hA,.inr ⟨rfl,e⟩⟩
  rw [hp] at HZ HN HQ H32
  have hst:=fun W=>stmts_any s W hs (whole_head hw)
  have hll:=HZ.out.n
  clear hA hok hw h16 hp
  generalize (gaA s s.size).l=l at *
  go_wp2_with fail
  refine (hst _).mono ?_
  rintro e w3 ⟨hm3,v,rfl,hL⟩
  go_wp2_with fail
  refine (inputs_any inp w3 (Nat.le_trans hi (by decide))).mono ?_
  replace hm:=hm.trans hm3
  clear hm3 hst
  cases hin:inps inp with
  | none =>
   have HA1:Hid (RunA s inp (⟨#[]⟩,9)):=show _ from HA.out _ (by rw [rnS,hin])
   clear hin
   rintro e w4 ⟨hm4,rfl⟩
   have hmE:=hm.trans hm4
   clear hm hm4 hL
   go_wp2_with fail
   go_ret2
   exact ⟨hmE,_,HA1.out,rfl⟩
  | some ins =>
   rintro e w4 ⟨hm4,vi,rfl,hI⟩
   have hmE:=hm.trans hm4
   have hL4:=hL.mod hm4
   clear hm hm4 hL
   have HIR:Hid _:=inps_range hin
   obtain ⟨ai,capi,rfl,-⟩:=owns_form hI
   have hneed:=rneed_any v l _ w4 (by omega) hL4
   rw [HN.out] at hneed
   by_cases hc:ins.length=cntI (cmds l)
   ·have HA1:Hid (RunA s inp (semC ins (cmds l) 0 0 [] ⟨#[]⟩,0)):=show _ from HA.out _ (by rw [rnS,hin];simp only;rw [if_neg (fun e=>e hc)])
    have hrp:=report_any v _ l (cmds l) _ ins _ _ w4 HZ.out hL4 hI HIR.out hc.symm (by rw [hc];exact H32.out)
    rw [HQ.out] at hrp
    generalize semC ins (cmds l) 0 0 [] ⟨#[]⟩=rr at *
    rw [← hc] at hneed
    clear hin hI hL4 hc
    go_wp2_with fail
    refine hneed.mono ?_
    rintro e w5 ⟨rfl,rfl⟩
    go_wp2_with fail
    refine hrp.mono ?_
    rintro e w6 ⟨rfl,hm6⟩
    have hmF:=hmE.trans hm6
    clear hm6 hmE hrp hneed
    go_wp2_with fail
    go_ret2
    exact ⟨hmF,_,HA1.out,rfl⟩
   ·have HA1:Hid (RunA s inp (⟨#[]⟩,9)):=show _ from HA.out _ (by rw [rnS,hin];simp only;rw [if_pos hc])
    have hb:((ins.length:Int) != (cntI (cmds l):Int))=true:=by rw [bne_iff_ne];omega
    clear hin hI hL4 hc
    go_wp2_with fail
    refine hneed.mono ?_
    rintro e w5 ⟨rfl,rfl⟩
    clear hneed
    go_wp2_with fail
    go_ret2
    exact ⟨hmE,_,HA1.out,rfl⟩
 ·have HA:Hid (RunA s inp (⟨#[]⟩,a)):=show _ from ⟨a,b,hA,.inl ⟨h0,rfl⟩⟩
  have hb:((a:Int) != 0)=true:=by rw [bne_iff_ne];omega
  clear hA
  go_wp2_with fail
  go_ret2
  exact ⟨hm,_,HA.out,rfl⟩
set_option maxHeartbeats 800000 in
set_option maxRecDepth 100000 in
theorem plays_run:Plays 6 6:=by
 intro kd n a b w h1 h2 ha hb hn
 obtain rfl:kd=6:=by omega
 have hm0:Mod (fun _=>False) w (w.alloc (.cells #[.int .i64 6,.int .i64 n,.string a,.string b] 32)):=(Mod.refl _ w).alloc _
 have hO:=ope_new w 6 n a b
 clear h1 h2 hn
 by_cases hs:a.size≤300∧b.size≤140
 ·have hex:=fun w=>run_any a b w hs.1 hs.2
  have hrx:=fun w=>rrun_any a b w hs.1 hs.2
  clear hs
  go_enter Tryz.func18,Tryz.ntmps18
  go_wp2_with fail
  refine (hex _).mono ?_
  rintro e w1 ⟨hm1,r,hr,rfl⟩
  have hO1:=hO.keep hm1 (fun f=>f)
  have c2:=hO1.c2
  have c3:=hO1.c3
  go_wp2_with fail
  refine (hrx _).mono ?_
  rintro e w2 ⟨hm2,r',hr',rfl⟩
  cases hr.unique hr'
  have hm:=hm0.trans (hm1.trans hm2)
  clear hm0 hm1 hm2 c2 c3 hO1 hO hex hrx hr hr'
  go_wp2_with (go_at_call 25;refine (num_any _ _).mono ?_;rintro e w' ⟨rfl,rfl⟩)
  go_ret
  exact ⟨rfl,hm⟩
 ·have hs':300 < a.size∨140 < b.size:=by omega
  clear hs
  have hex:=fun w=>run_long a b w hs' ha hb
  have hrx:=fun w=>rrun_long a b w hs' ha hb
  clear hs'
  go_enter Tryz.func18,Tryz.ntmps18
  go_wp2_with fail
  refine (hex _).mono ?_
  rintro e w1 ⟨rfl,rfl⟩
  have c2:=hO.c2
  have c3:=hO.c3
  go_wp2_with fail
  refine (hrx _).mono ?_
  rintro e w2 ⟨rfl,rfl⟩
  clear c2 c3 hO hex hrx
  go_wp2_with (go_at_call 25;refine (num_any _ _).mono ?_;rintro e w' ⟨rfl,rfl⟩)
  go_ret
  exact ⟨rfl,hm0⟩
set_option maxHeartbeats 400000 in
theorem runs_walk (v:Value) (w:World) (hS:Scr w v):Calls Tryz.prog 8 #[v] w fun e w'=>e=.returned (.bool true)∧Mod (fun _=>False) w w':=by
 have HS:Hid (Scr w v):=hS
 clear hS
 go_enter Tryz.func8,Tryz.ntmps8
 go_wp2_with fail
 refine (upto_any v 6 6 w HS.out plays_run).mono ?_
 rintro e w1 ⟨rfl,hm1⟩
 go_wp2_with fail
 go_ret
 exact ⟨rfl,hm1⟩
end Go.Proofs.YtmnfndpbblpjiaaGreatDoor

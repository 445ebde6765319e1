/- What is made of right statements tells their report: each statement, and all. -/
import Derived.Test.YtmnfndpbblpjiaaGreatDoorZr05
namespace Go.Proofs.YtmnfndpbblpjiaaGreatDoor.Pu
section
variable {B:Nat} {ins:List Int} {R:List Int} {M:Nat} {C:List Cmd} {W:List Nat} {D:List T3}
structure Big (M B:Nat):Prop where
 m1:1≤M
 mM:297 ^ 64≤M
 q1:M≤qd M
 q2:qd M≤qd (qd M)
 q3:qd (qd M)≤qd (qd (qd M))
 q4:qd (qd (qd M))≤qd (qd (qd (qd M)))
 q5:qd (qd (qd (qd M)))≤qd (qd (qd (qd (qd M))))
 b:qd (qd (qd (qd (qd M)))) < B
theorem Big.of (hM:297 ^ 64≤M) (h:qd (qd (qd (qd (qd M)))) < B):Big M B:=by
 have m1:1≤M:=Nat.le_trans (Nat.one_le_pow 64 297 (by omega)) hM
 exact ⟨m1,hM,qd_le m1,qd_le (qd_pos m1),qd_le (qd_pos (qd_pos m1)),qd_le (qd_pos (qd_pos (qd_pos m1))),qd_le (qd_pos (qd_pos (qd_pos (qd_pos m1)))),h⟩
theorem sgn_pos {x:Int} (h:x≠0):0 < x*sgn x:=by rcases sgn_cases x with k | k | k <;> rw [k.1] <;> omega
theorem made_mid {a b i:Nat} (g:Big M B) (h:Inv M C W D R) (hk:C.length < 16) (hok:okC C (.mid a b)) (hw:wtC W (.mid a b)≤64) :
  Rn B ins (cmdL C.length i (.mid a b)) R (Inv M (C++[.mid a b]) (W++[wtC W (.mid a b)]) (D++[mul3 (valC D ins i (.mid a b)) (facC (valC D ins i (.mid a b)) (.mid a b))])):=by
 have ⟨q1,q2,q3,q4,q5,q6⟩:=And.intro g.q1 (And.intro g.q2 (And.intro g.q3 (And.intro g.q4 (And.intro g.q5 g.b))))
 unfold okC at hok
 refine rn_mid h.len (by omega) (by omega) (h.P g.mM (by omega) hok.1) (h.P g.mM (by omega) hok.2) ?_
 intro R1 l1 v1
 rw [← List.append_nil (kpP _ _ _)]
 refine rn_kpP l1.1 hk (by omega) (by omega) (by decide) (qd_pos g.m1) v1 (by omega) ?_
 intro R2 k2
 exact rn_nil (h.made hk (Kept.lo l1 (by omega) k2) hw ((Bw.mid (h.bP hok.1) (h.bP hok.2)).sg (facC_abs _ _)))
theorem made_par {p l i:Nat} (g:Big M B) (h:Inv M C W D R) (hk:C.length < 16) (hok:okC C (.par p l)) (hw:wtC W (.par p l)≤64) :
  Rn B ins (cmdL C.length i (.par p l)) R (Inv M (C++[.par p l]) (W++[wtC W (.par p l)]) (D++[mul3 (valC D ins i (.par p l)) (facC (valC D ins i (.par p l)) (.par p l))])):=by
 have ⟨q1,q2,q3,q4,q5,q6⟩:=And.intro g.q1 (And.intro g.q2 (And.intro g.q3 (And.intro g.q4 (And.intro g.q5 g.b))))
 unfold okC at hok
 refine rn_par h.len (by omega) (by omega) (h.P g.mM (by omega) hok.1) (h.L g.mM (by omega) hok.2) ?_
 intro R1 l1 v1
 rw [← List.append_nil (kpL _ _ _)]
 refine rn_kpL l1.1 hk (by omega) (by omega) (by decide) (qd_pos g.m1) v1 (by omega) ?_
 intro R2 k2
 exact rn_nil (h.made hk (Kept.lo l1 (by omega) k2) hw ((Bw.par (h.bP hok.1) (h.bL hok.2)).sg (facC_abs _ _)))
theorem made_perp {p l i:Nat} (g:Big M B) (h:Inv M C W D R) (hk:C.length < 16) (hok:okC C (.perp p l)) (hw:wtC W (.perp p l)≤64) :
  Rn B ins (cmdL C.length i (.perp p l)) R (Inv M (C++[.perp p l]) (W++[wtC W (.perp p l)]) (D++[mul3 (valC D ins i (.perp p l)) (facC (valC D ins i (.perp p l)) (.perp p l))])):=by
 have ⟨q1,q2,q3,q4,q5,q6⟩:=And.intro g.q1 (And.intro g.q2 (And.intro g.q3 (And.intro g.q4 (And.intro g.q5 g.b))))
 unfold okC at hok
 refine rn_upr h.len (by omega) g.m1 (by omega) (h.P g.mM (by omega) hok.1) (h.L g.mM (by omega) hok.2) ?_
 intro R1 l1 v1
 rw [← List.append_nil (kpL _ _ _)]
 refine rn_kpL l1.1 hk (by omega) (by omega) (by decide) (qd_pos g.m1) v1 (by omega) ?_
 intro R2 k2
 exact rn_nil (h.made hk (Kept.lo l1 (by omega) k2) hw ((Bw.upr (h.bP hok.1) (h.bL hok.2)).sg (facC_abs _ _)))
theorem made_foot {p l i:Nat} (g:Big M B) (h:Inv M C W D R) (hk:C.length < 16) (hok:okC C (.foot p l)) (hw:wtC W (.foot p l)≤64) :
  Rn B ins (cmdL C.length i (.foot p l)) R (Inv M (C++[.foot p l]) (W++[wtC W (.foot p l)]) (D++[mul3 (valC D ins i (.foot p l)) (facC (valC D ins i (.foot p l)) (.foot p l))])):=by
 have ⟨q1,q2,q3,q4,q5,q6⟩:=And.intro g.q1 (And.intro g.q2 (And.intro g.q3 (And.intro g.q4 (And.intro g.q5 g.b))))
 unfold okC at hok
 refine rn_foot h.len (by omega) g.m1 (by omega) (h.P g.mM (by omega) hok.1) (h.L g.mM (by omega) hok.2) ?_
 intro R1 l1 v1
 rw [← List.append_nil (kpP _ _ _)]
 refine rn_kpP l1.1 hk (by omega) (by omega) (by decide) (qd_pos (qd_pos g.m1)) v1 (by omega) ?_
 intro R2 k2
 exact rn_nil (h.made hk (Kept.lo l1 (by omega) k2) hw ((Bw.foot (h.bP hok.1) (h.bL hok.2)).sg (facC_abs _ _)))
theorem made_mirror {p l i:Nat} (g:Big M B) (h:Inv M C W D R) (hk:C.length < 16) (hok:okC C (.mirror p l)) (hw:wtC W (.mirror p l)≤64) :
  Rn B ins (cmdL C.length i (.mirror p l)) R (Inv M (C++[.mirror p l]) (W++[wtC W (.mirror p l)]) (D++[mul3 (valC D ins i (.mirror p l)) (facC (valC D ins i (.mirror p l)) (.mirror p l))])):=by
 have ⟨q1,q2,q3,q4,q5,q6⟩:=And.intro g.q1 (And.intro g.q2 (And.intro g.q3 (And.intro g.q4 (And.intro g.q5 g.b))))
 unfold okC at hok
 refine rn_mir h.len (by omega) g.m1 (by omega) (h.P g.mM (by omega) hok.1) (h.L g.mM (by omega) hok.2) ?_
 intro R1 l1 v1
 rw [← List.append_nil (kpP _ _ _)]
 refine rn_kpP l1.1 hk (by omega) (by omega) (by decide) (qd_pos (qd_pos (qd_pos (qd_pos g.m1)))) v1 (by omega) ?_
 intro R2 k2
 exact rn_nil (h.made hk (Kept.lo l1 (by omega) k2) hw ((Bw.mir (h.bP hok.1) (h.bL hok.2)).sg (facC_abs _ _)))
theorem made_pt {i:Nat} {x y:Int} (g:Big M B) (h:Inv M C W D R) (hk:C.length < 16) (hx:ins[i]?=some x) (hy:ins[i+1]?=some y) (bx:x.natAbs≤99) (bY:y.natAbs≤99) :
  Rn B ins (cmdL C.length i .pt) R (Inv M (C++[.pt]) (W++[wtC W .pt]) (D++[mul3 (valC D ins i .pt) (facC (valC D ins i .pt) .pt)])):=by
 have ⟨q1,q2,q3,q4,q5,q6⟩:=And.intro g.q1 (And.intro g.q2 (And.intro g.q3 (And.intro g.q4 (And.intro g.q5 g.b))))
 have h99:99≤M:=by
  have h1:297 ^ 1≤297 ^ 64:=q297 (by omega)
  have:=g.mM
  generalize 297 ^ 64=A at *
  omega
 have ev:valC D ins i .pt=⟨x,y,1⟩:=by simp [valC,inp,hx,hy]
 rw [ev]
 refine rn_work x M h.len (by omega) (by omega) (val_in hx) (by unfold Sm;omega) (by omega) ?_
 intro R1 l1 v1
 refine rn_work y M l1.1 (by omega) (by omega) (val_in hy) (by unfold Sm;omega) (by omega) ?_
 intro R2 l2 v2
 refine rn_work 1 M l2.1 (by omega) (by omega) val_con (by unfold Sm;simpa using g.m1) (by omega) ?_
 intro R3 l3 v3
 have l23:=l2.trans l3 (by omega)
 have l13:=l1.trans l23 (by omega)
 have tv:Tv 51 M R3 (givenR 48) ⟨x,y,1⟩:=⟨v1.lo l23 51 M (by omega) (Nat.le_refl _),v2.lo l3 51 M (by omega) (Nat.le_refl _),v3⟩
 show Rn B ins (kpP 51 (givenR 48) C.length) R3 _
 rw [← List.append_nil (kpP _ _ _)]
 refine rn_kpP l3.1 hk (by omega) (by omega) (by decide) g.m1 tv (by omega) ?_
 intro R4 k4
 refine rn_nil (h.made hk (Kept.lo l13 (by omega) k4) (by simp [wtC]) ?_)
 have hw:Bw 1 (⟨x,y,1⟩:T3):=⟨show 3*x.natAbs≤1*297 ^ 1 by omega,show 3*y.natAbs≤1*297 ^ 1 by omega,show 3*(1:Int).natAbs≤1*297 ^ 1 by decide⟩
 exact hw.sg (facC_abs _ _)
theorem made_line {a b i:Nat} (g:Big M B) (h:Inv M C W D R) (hk:C.length < 16) (hok:okC C (.line a b)) (hw:wtC W (.line a b)≤64) :
  Rn B ins (crossL 48 (hm a) (hm b)++prodS 57 50 50 53 53) R (fun R1=>reg R1 59=stopC (valC D ins i (.line a b)) (.line a b)∧Rn B ins (kpL 60 (crossR 48) C.length) R1 (Inv M (C++[.line a b]) (W++[wtC W (.line a b)]) (D++[mul3 (valC D ins i (.line a b)) (facC (valC D ins i (.line a b)) (.line a b))]))):=by
 have ⟨q1,q2,q3,q4,q5,q6⟩:=And.intro g.q1 (And.intro g.q2 (And.intro g.q3 (And.intro g.q4 (And.intro g.q5 g.b))))
 unfold okC at hok
 refine rn_cross h.len (by omega) (by omega) (h.P g.mM (by omega) hok.1) (h.P g.mM (by omega) hok.2) ?_
 intro R1 l1 v1
 rw [← List.append_nil (prodS 57 50 50 53 53)]
 refine rn_prodS l1.1 (by omega) (by omega) v1.1 v1.1 v1.2.1 v1.2.1 ?_
 intro R2 l2 v2
 refine rn_nil ⟨v2.2.1,?_⟩
 have v1':=v1.lo l2 60 _ (by omega) (Nat.le_refl _)
 have l12:=l1.trans l2 (by omega)
 rw [← List.append_nil (kpL _ _ _)]
 refine rn_kpL l2.1 hk (by omega) (by omega) (by decide) (qd_pos g.m1) v1' (by omega) ?_
 intro R3 k3
 exact rn_nil (h.made hk (Kept.lo l12 (by omega) k3) hw ((Bw.cross (h.bP hok.1) (h.bP hok.2)).sg (facC_abs _ _)))
theorem made_meet {l m i:Nat} (g:Big M B) (h:Inv M C W D R) (hk:C.length < 16) (hok:okC C (.meet l m)) (hw:wtC W (.meet l m)≤64) :
  Rn B ins (crossL 48 (hm l) (hm m)) R (fun R1=>reg R1 56=stopC (valC D ins i (.meet l m)) (.meet l m)∧Rn B ins (kpP 57 (crossR 48) C.length) R1 (Inv M (C++[.meet l m]) (W++[wtC W (.meet l m)]) (D++[mul3 (valC D ins i (.meet l m)) (facC (valC D ins i (.meet l m)) (.meet l m))]))):=by
 have ⟨q1,q2,q3,q4,q5,q6⟩:=And.intro g.q1 (And.intro g.q2 (And.intro g.q3 (And.intro g.q4 (And.intro g.q5 g.b))))
 unfold okC at hok
 rw [← List.append_nil (crossL 48 (hm l) (hm m))]
 refine rn_cross h.len (by omega) (by omega) (h.L g.mM (by omega) hok.1) (h.L g.mM (by omega) hok.2) ?_
 intro R1 l1 v1
 refine rn_nil ⟨v1.2.2.2.1,?_⟩
 rw [← List.append_nil (kpP _ _ _)]
 refine rn_kpP l1.1 hk (by omega) (by omega) (by decide) (qd_pos g.m1) v1 (by omega) ?_
 intro R2 k2
 exact rn_nil (h.made hk (Kept.lo l1 (by omega) k2) hw ((Bw.cross (h.bL hok.1) (h.bL hok.2)).sg (facC_abs _ _)))
theorem made_centre {a b c i:Nat} (g:Big M B) (h:Inv M C W D R) (hk:C.length < 16) (hok:okC C (.centre a b c)) (hw:wtC W (.centre a b c)≤64) :
  Rn B ins (cenL 48 (hm a) (hm b) (hm c)) R (fun R1=>reg R1 108=stopC (valC D ins i (.centre a b c)) (.centre a b c)∧Rn B ins (kpP 109 (cenR 48) C.length) R1 (Inv M (C++[.centre a b c]) (W++[wtC W (.centre a b c)]) (D++[mul3 (valC D ins i (.centre a b c)) (facC (valC D ins i (.centre a b c)) (.centre a b c))]))):=by
 have ⟨q1,q2,q3,q4,q5,q6⟩:=And.intro g.q1 (And.intro g.q2 (And.intro g.q3 (And.intro g.q4 (And.intro g.q5 g.b))))
 unfold okC at hok
 rw [← List.append_nil (cenL 48 (hm a) (hm b) (hm c))]
 refine rn_cen h.len (by omega) g.m1 (by omega) (h.P g.mM (by omega) hok.1) (h.P g.mM (by omega) hok.2.1) (h.P g.mM (by omega) hok.2.2) ?_
 intro R1 l1 v1
 refine rn_nil ⟨v1.2.2.2.1,?_⟩
 rw [← List.append_nil (kpP _ _ _)]
 refine rn_kpP l1.1 hk (by omega) (by omega) (by decide) (qd_pos (qd_pos (qd_pos g.m1))) v1 (by omega) ?_
 intro R2 k2
 exact rn_nil (h.made hk (Kept.lo l1 (by omega) k2) hw ((Bw.cen (h.bP hok.1) (h.bP hok.2.1) (h.bP hok.2.2)).sg (facC_abs _ _)))
theorem ask_same {a b:Nat} (g:Big M B) (h:Inv M C W D R) (hk:C.length < 16) (hok:okC C (.same a b)) :
  Rn B ins (samL 48 (hm a) (hm b)++isnL 58 57) R (fun R1=>reg R1 61=askC D (.same a b)∧Inv M (C++[.same a b]) (W++[wtC W (.same a b)]) (D++[t0]) R1):=by
 have ⟨q1,q2,q3,q4,q5,q6⟩:=And.intro g.q1 (And.intro g.q2 (And.intro g.q3 (And.intro g.q4 (And.intro g.q5 g.b))))
 unfold okC at hok
 refine rn_sam h.len (by omega) g.m1 (by omega) (h.P g.mM (by omega) hok.1) (h.P g.mM (by omega) hok.2) ?_
 intro R1 l1 v1
 rw [← List.append_nil (isnL 58 57)]
 refine rn_isn l1.1 (by omega) (by omega) (qd_pos (qd_pos g.m1)) v1 ?_
 intro R2 l2 v2
 exact rn_nil ⟨v2.2.1,h.ask hk rfl (by omega) (l1.trans l2 (by omega))⟩
theorem ask_col {a b c:Nat} (g:Big M B) (h:Inv M C W D R) (hk:C.length < 16) (hok:okC C (.col a b c)) :
  Rn B ins (volL 48 (hm a) (hm b) (hm c)++isnL 62 61) R (fun R1=>reg R1 65=askC D (.col a b c)∧Inv M (C++[.col a b c]) (W++[wtC W (.col a b c)]) (D++[t0]) R1):=by
 have ⟨q1,q2,q3,q4,q5,q6⟩:=And.intro g.q1 (And.intro g.q2 (And.intro g.q3 (And.intro g.q4 (And.intro g.q5 g.b))))
 unfold okC at hok
 refine rn_vol h.len (by omega) g.m1 (by omega) (h.P g.mM (by omega) hok.1) (h.P g.mM (by omega) hok.2.1) (h.P g.mM (by omega) hok.2.2) ?_
 intro R1 l1 v1
 rw [← List.append_nil (isnL 62 61)]
 refine rn_isn l1.1 (by omega) (by omega) (qd_pos (qd_pos g.m1)) v1 ?_
 intro R2 l2 v2
 exact rn_nil ⟨v2.2.1,h.ask hk rfl (by omega) (l1.trans l2 (by omega))⟩
theorem ask_ccw {a b c:Nat} (g:Big M B) (h:Inv M C W D R) (hk:C.length < 16) (hok:okC C (.ccw a b c)) :
  Rn B ins (volL 48 (hm a) (hm b) (hm c)) R (fun R1=>reg R1 61=askC D (.ccw a b c)∧Inv M (C++[.ccw a b c]) (W++[wtC W (.ccw a b c)]) (D++[t0]) R1):=by
 have ⟨q1,q2,q3,q4,q5,q6⟩:=And.intro g.q1 (And.intro g.q2 (And.intro g.q3 (And.intro g.q4 (And.intro g.q5 g.b))))
 unfold okC at hok
 rw [← List.append_nil (volL 48 (hm a) (hm b) (hm c))]
 refine rn_vol h.len (by omega) g.m1 (by omega) (h.P g.mM (by omega) hok.1) (h.P g.mM (by omega) hok.2.1) (h.P g.mM (by omega) hok.2.2) ?_
 intro R1 l1 v1
 exact rn_nil ⟨v1.2.1,h.ask hk rfl (by omega) l1⟩
theorem ask_btw {a b c:Nat} (g:Big M B) (h:Inv M C W D R) (hk:C.length < 16) (hok:okC C (.btw a b c)) :
  Rn B ins (btwL 48 (hm a) (hm b) (hm c)) R (fun R1=>reg R1 85=askC D (.btw a b c)∧Inv M (C++[.btw a b c]) (W++[wtC W (.btw a b c)]) (D++[t0]) R1):=by
 have ⟨q1,q2,q3,q4,q5,q6⟩:=And.intro g.q1 (And.intro g.q2 (And.intro g.q3 (And.intro g.q4 (And.intro g.q5 g.b))))
 unfold okC at hok
 rw [← List.append_nil (btwL 48 (hm a) (hm b) (hm c))]
 refine rn_btw h.len (by omega) g.m1 (by omega) (h.P g.mM (by omega) hok.1) (h.P g.mM (by omega) hok.2.1) (h.P g.mM (by omega) hok.2.2) ?_
 intro R1 l1 v1
 exact rn_nil ⟨v1.2.1,h.ask hk rfl (by omega) l1⟩
theorem ask_con {a b c d:Nat} (g:Big M B) (h:Inv M C W D R) (hk:C.length < 16) (hok:okC C (.con a b c d)) :
  Rn B ins (rndL 48 (hm a) (hm b) (hm c) (hm d)++isnL 98 97) R (fun R1=>reg R1 101=askC D (.con a b c d)∧Inv M (C++[.con a b c d]) (W++[wtC W (.con a b c d)]) (D++[t0]) R1):=by
 have ⟨q1,q2,q3,q4,q5,q6⟩:=And.intro g.q1 (And.intro g.q2 (And.intro g.q3 (And.intro g.q4 (And.intro g.q5 g.b))))
 unfold okC at hok
 refine rn_rnd h.len (by omega) g.m1 (by omega) (h.P g.mM (by omega) hok.1) (h.P g.mM (by omega) hok.2.1) (h.P g.mM (by omega) hok.2.2.1) (h.P g.mM (by omega) hok.2.2.2) ?_
 intro R1 l1 v1
 rw [← List.append_nil (isnL 98 97)]
 refine rn_isn l1.1 (by omega) (by omega) (qd_pos (qd_pos (qd_pos (qd_pos g.m1)))) v1 ?_
 intro R2 l2 v2
 exact rn_nil ⟨v2.2.1,h.ask hk rfl (by omega) (l1.trans l2 (by omega))⟩
theorem ask_on {p l:Nat} (g:Big M B) (h:Inv M C W D R) (hk:C.length < 16) (hok:okC C (.on p l)) :
  Rn B ins (dotL 48 (hm p) (hm l)++isnL 53 52) R (fun R1=>reg R1 56=askC D (.on p l)∧Inv M (C++[.on p l]) (W++[wtC W (.on p l)]) (D++[t0]) R1):=by
 have ⟨q1,q2,q3,q4,q5,q6⟩:=And.intro g.q1 (And.intro g.q2 (And.intro g.q3 (And.intro g.q4 (And.intro g.q5 g.b))))
 unfold okC at hok
 refine rn_dot h.len (by omega) (by omega) (h.P g.mM (by omega) hok.1) (h.L g.mM (by omega) hok.2) ?_
 intro R1 l1 v1
 rw [← List.append_nil (isnL 53 52)]
 refine rn_isn l1.1 (by omega) (by omega) (qd_pos g.m1) v1 ?_
 intro R2 l2 v2
 exact rn_nil ⟨v2.2.1,h.ask hk rfl (by omega) (l1.trans l2 (by omega))⟩
theorem ask_pll {l m:Nat} (g:Big M B) (h:Inv M C W D R) (hk:C.length < 16) (hok:okC C (.pll l m)) :
  Rn B ins (prodD 48 (hm l).x (hm m).y (hm l).y (hm m).x++isnL 51 50) R (fun R1=>reg R1 54=askC D (.pll l m)∧Inv M (C++[.pll l m]) (W++[wtC W (.pll l m)]) (D++[t0]) R1):=by
 have ⟨q1,q2,q3,q4,q5,q6⟩:=And.intro g.q1 (And.intro g.q2 (And.intro g.q3 (And.intro g.q4 (And.intro g.q5 g.b))))
 unfold okC at hok
 refine rn_prodD h.len (by omega) (by omega) (h.L g.mM (by omega) hok.1).1 (h.L g.mM (by omega) hok.2).2.1 (h.L g.mM (by omega) hok.1).2.1 (h.L g.mM (by omega) hok.2).1 ?_
 intro R1 l1 v1
 rw [← List.append_nil (isnL 51 50)]
 refine rn_isn l1.1 (by omega) (by omega) (qd_pos g.m1) v1 ?_
 intro R2 l2 v2
 exact rn_nil ⟨v2.2.1,h.ask hk rfl (by omega) (l1.trans l2 (by omega))⟩
theorem ask_prp {l m:Nat} (g:Big M B) (h:Inv M C W D R) (hk:C.length < 16) (hok:okC C (.prp l m)) :
  Rn B ins (prodS 48 (hm l).x (hm m).x (hm l).y (hm m).y++isnL 51 50) R (fun R1=>reg R1 54=askC D (.prp l m)∧Inv M (C++[.prp l m]) (W++[wtC W (.prp l m)]) (D++[t0]) R1):=by
 have ⟨q1,q2,q3,q4,q5,q6⟩:=And.intro g.q1 (And.intro g.q2 (And.intro g.q3 (And.intro g.q4 (And.intro g.q5 g.b))))
 unfold okC at hok
 refine rn_prodS h.len (by omega) (by omega) (h.L g.mM (by omega) hok.1).1 (h.L g.mM (by omega) hok.2).1 (h.L g.mM (by omega) hok.1).2.1 (h.L g.mM (by omega) hok.2).2.1 ?_
 intro R1 l1 v1
 rw [← List.append_nil (isnL 51 50)]
 refine rn_isn l1.1 (by omega) (by omega) (qd_pos g.m1) v1 ?_
 intro R2 l2 v2
 exact rn_nil ⟨v2.2.1,h.ask hk rfl (by omega) (l1.trans l2 (by omega))⟩
theorem ask_cc {l m n:Nat} (g:Big M B) (h:Inv M C W D R) (hk:C.length < 16) (hok:okC C (.cc l m n)) :
  Rn B ins (volL 48 (hm l) (hm m) (hm n)++isnL 62 61) R (fun R1=>reg R1 65=askC D (.cc l m n)∧Inv M (C++[.cc l m n]) (W++[wtC W (.cc l m n)]) (D++[t0]) R1):=by
 have ⟨q1,q2,q3,q4,q5,q6⟩:=And.intro g.q1 (And.intro g.q2 (And.intro g.q3 (And.intro g.q4 (And.intro g.q5 g.b))))
 unfold okC at hok
 refine rn_vol h.len (by omega) g.m1 (by omega) (h.L g.mM (by omega) hok.1) (h.L g.mM (by omega) hok.2.1) (h.L g.mM (by omega) hok.2.2) ?_
 intro R1 l1 v1
 rw [← List.append_nil (isnL 62 61)]
 refine rn_isn l1.1 (by omega) (by omega) (qd_pos (qd_pos g.m1)) v1 ?_
 intro R2 l2 v2
 exact rn_nil ⟨v2.2.1,h.ask hk rfl (by omega) (l1.trans l2 (by omega))⟩
theorem sem_ask {c:Cmd} {r:List Cmd} {k i:Nat} {s:ByteArray} (h:srt c=63):semC ins (c :: r) k i D s=semC ins r (k+1) i (D++[t0]) (s++⟨#[if 0 < askC D c then 49 else 48]⟩):=by simp [semC,h]
theorem sem_stop {c:Cmd} {r:List Cmd} {k i:Nat} {s:ByteArray} (h:srt c≠63) (h0:stopC (valC D ins i c) c=0):semC ins (c :: r) k i D s=s++⟨#[lettC c]⟩++dec (k:Int):=by simp [semC,h,h0]
theorem sem_made {c:Cmd} {r:List Cmd} {k i:Nat} {s:ByteArray} (h:srt c≠63) (h0:stopC (valC D ins i c) c≠0):semC ins (c :: r) k i D s=semC ins r (k+1) (i+insC c) (D++[mul3 (valC D ins i c) (facC (valC D ins i c) c)]) s:=by simp [semC,h,h0]
end
theorem play_sem {B M:Nat} (g:Big M B) (ins:List Int) (hin:∀ x∈ins,x.natAbs≤99) (r:List Cmd):∀ (C:List Cmd) (W:List Nat) (D:List T3) (R:List Int) (i:Nat) (s:ByteArray),Inv M C W D R→Wf C W r→C.length+r.length≤16→i+cntI r=ins.length→play B ins (cmdsL r C.length i) R s=(semC ins r C.length i D s,0):=by
 induction r with
 | nil=>intro C W D R i s _ _ _ _;rfl
 | cons c r ih =>
  intro C W D R i s h hwf hl hi
  obtain ⟨hok,hw,hwr⟩:=hwf
  have hk:C.length < 16:=by simp at hl;omega
  have hl':(C++[c]).length+r.length≤16:=by simp at *;omega
  have hlen:(C++[c]).length=C.length+1:=by simp
  have hi':i+insC c+cntI r=ins.length:=by simp [cntI] at *;omega
  unfold cmdsL
  cases c using Cmd.el with
  | pt =>
   have hx:i < ins.length:=by simp [insC] at hi';omega
   have hy:i+1 < ins.length:=by simp [insC] at hi';omega
   obtain ⟨R',inv,hp⟩:=made_pt g h hk (List.getElem?_eq_getElem hx) (List.getElem?_eq_getElem hy) (hin _ (List.getElem_mem hx)) (hin _ (List.getElem_mem hy))
   have e:=ih _ _ _ R' _ s inv hwr hl' hi'
   rw [hlen] at e
   rw [hp,sem_made (by decide) (by simp [stopC]),e]
  | mid a b =>
   obtain ⟨R',inv,hp⟩:=made_mid (ins:=ins) (i:=i) g h hk hok hw
   have e:=ih _ _ _ R' _ s inv hwr hl' hi'
   rw [hlen] at e
   rw [hp,sem_made (by simp [srt]) (by simp [stopC]),e]
  | par p l =>
   obtain ⟨R',inv,hp⟩:=made_par (ins:=ins) (i:=i) g h hk hok hw
   have e:=ih _ _ _ R' _ s inv hwr hl' hi'
   rw [hlen] at e
   rw [hp,sem_made (by simp [srt]) (by simp [stopC]),e]
  | perp p l =>
   obtain ⟨R',inv,hp⟩:=made_perp (ins:=ins) (i:=i) g h hk hok hw
   have e:=ih _ _ _ R' _ s inv hwr hl' hi'
   rw [hlen] at e
   rw [hp,sem_made (by simp [srt]) (by simp [stopC]),e]
  | foot p l =>
   obtain ⟨R',inv,hp⟩:=made_foot (ins:=ins) (i:=i) g h hk hok hw
   have e:=ih _ _ _ R' _ s inv hwr hl' hi'
   rw [hlen] at e
   rw [hp,sem_made (by simp [srt]) (by simp [stopC]),e]
  | mirror p l =>
   obtain ⟨R',inv,hp⟩:=made_mirror (ins:=ins) (i:=i) g h hk hok hw
   have e:=ih _ _ _ R' _ s inv hwr hl' hi'
   rw [hlen] at e
   rw [hp,sem_made (by simp [srt]) (by simp [stopC]),e]
  | line a b =>
   obtain ⟨R1,⟨e1,R2,inv,hp2⟩,hp1⟩:=made_line (ins:=ins) (i:=i) g h hk hok hw
   unfold cmdL
   rw [show ∀ (A E F G:List Stp) (t:Stp),A++(E++t :: F)++G=(A++E)++t :: (F++G) from fun _ _ _ _ _=>by simp,hp1]
   by_cases h0:stopC (valC D ins i (.line a b)) (.line a b)=0
   ·rw [play_end (show 6 < 7 by decide) (by rw [e1];exact h0),sem_stop (by simp [srt]) h0]
    rfl
   ·have e:=ih _ _ _ R2 _ s inv hwr hl' hi'
    rw [hlen] at e
    rw [play_on (show 6 < 7 by decide) (by rw [e1];exact h0),hp2,sem_made (by simp [srt]) h0]
    exact e
  | meet l m =>
   obtain ⟨R1,⟨e1,R2,inv,hp2⟩,hp1⟩:=made_meet (ins:=ins) (i:=i) g h hk hok hw
   unfold cmdL
   rw [show ∀ (A F G:List Stp) (t:Stp),A++(t :: F)++G=A++t :: (F++G) from fun _ _ _ _=>by simp,hp1]
   by_cases h0:stopC (valC D ins i (.meet l m)) (.meet l m)=0
   ·rw [play_end (show 6 < 7 by decide) (by rw [e1];exact h0),sem_stop (by simp [srt]) h0]
    rfl
   ·have e:=ih _ _ _ R2 _ s inv hwr hl' hi'
    rw [hlen] at e
    rw [play_on (show 6 < 7 by decide) (by rw [e1];exact h0),hp2,sem_made (by simp [srt]) h0]
    exact e
  | centre a b c =>
   obtain ⟨R1,⟨e1,R2,inv,hp2⟩,hp1⟩:=made_centre (ins:=ins) (i:=i) g h hk hok hw
   unfold cmdL
   rw [show ∀ (A F G:List Stp) (t:Stp),A++(t :: F)++G=A++t :: (F++G) from fun _ _ _ _=>by simp,hp1]
   by_cases h0:stopC (valC D ins i (.centre a b c)) (.centre a b c)=0
   ·rw [play_end (show 6 < 7 by decide) (by rw [e1];exact h0),sem_stop (by simp [srt]) h0]
    rfl
   ·have e:=ih _ _ _ R2 _ s inv hwr hl' hi'
    rw [hlen] at e
    rw [play_on (show 6 < 7 by decide) (by rw [e1];exact h0),hp2,sem_made (by simp [srt]) h0]
    exact e
  | same a b =>
   obtain ⟨R',⟨e1,inv⟩,hp⟩:=ask_same (ins:=ins) g h hk hok
   unfold cmdL
   rw [show ∀ (A E F G:List Stp),A++(E++F)++G=(A++E)++(F++G) from fun _ _ _ _=>by simp,hp]
   show play B ins (⟨6,61,0,0⟩ :: cmdsL r (C.length+1) i) R' s=_
   have e:=ih _ _ _ R' i (s++⟨#[if 0 < askC D (.same a b) then 49 else 48]⟩) inv hwr hl' hi'
   rw [hlen] at e
   rw [play_out rfl,sem_ask (by simp [srt]),e1]
   exact e
  | col a b c =>
   obtain ⟨R',⟨e1,inv⟩,hp⟩:=ask_col (ins:=ins) g h hk hok
   unfold cmdL
   rw [show ∀ (A E F G:List Stp),A++(E++F)++G=(A++E)++(F++G) from fun _ _ _ _=>by simp,hp]
   show play B ins (⟨6,65,0,0⟩ :: cmdsL r (C.length+1) i) R' s=_
   have e:=ih _ _ _ R' i (s++⟨#[if 0 < askC D (.col a b c) then 49 else 48]⟩) inv hwr hl' hi'
   rw [hlen] at e
   rw [play_out rfl,sem_ask (by simp [srt]),e1]
   exact e
  | ccw a b c =>
   obtain ⟨R',⟨e1,inv⟩,hp⟩:=ask_ccw (ins:=ins) g h hk hok
   unfold cmdL
   rw [List.append_assoc,hp]
   show play B ins (⟨6,61,0,0⟩ :: cmdsL r (C.length+1) i) R' s=_
   have e:=ih _ _ _ R' i (s++⟨#[if 0 < askC D (.ccw a b c) then 49 else 48]⟩) inv hwr hl' hi'
   rw [hlen] at e
   rw [play_out rfl,sem_ask (by simp [srt]),e1]
   exact e
  | btw a b c =>
   obtain ⟨R',⟨e1,inv⟩,hp⟩:=ask_btw (ins:=ins) g h hk hok
   unfold cmdL
   rw [List.append_assoc,hp]
   show play B ins (⟨6,85,0,0⟩ :: cmdsL r (C.length+1) i) R' s=_
   have e:=ih _ _ _ R' i (s++⟨#[if 0 < askC D (.btw a b c) then 49 else 48]⟩) inv hwr hl' hi'
   rw [hlen] at e
   rw [play_out rfl,sem_ask (by simp [srt]),e1]
   exact e
  | con a b c d =>
   obtain ⟨R',⟨e1,inv⟩,hp⟩:=ask_con (ins:=ins) g h hk hok
   unfold cmdL
   rw [show ∀ (A E F G:List Stp),A++(E++F)++G=(A++E)++(F++G) from fun _ _ _ _=>by simp,hp]
   show play B ins (⟨6,101,0,0⟩ :: cmdsL r (C.length+1) i) R' s=_
   have e:=ih _ _ _ R' i (s++⟨#[if 0 < askC D (.con a b c d) then 49 else 48]⟩) inv hwr hl' hi'
   rw [hlen] at e
   rw [play_out rfl,sem_ask (by simp [srt]),e1]
   exact e
  | on p l =>
   obtain ⟨R',⟨e1,inv⟩,hp⟩:=ask_on (ins:=ins) g h hk hok
   unfold cmdL
   rw [show ∀ (A E F G:List Stp),A++(E++F)++G=(A++E)++(F++G) from fun _ _ _ _=>by simp,hp]
   show play B ins (⟨6,56,0,0⟩ :: cmdsL r (C.length+1) i) R' s=_
   have e:=ih _ _ _ R' i (s++⟨#[if 0 < askC D (.on p l) then 49 else 48]⟩) inv hwr hl' hi'
   rw [hlen] at e
   rw [play_out rfl,sem_ask (by simp [srt]),e1]
   exact e
  | pll l m =>
   obtain ⟨R',⟨e1,inv⟩,hp⟩:=ask_pll (ins:=ins) g h hk hok
   unfold cmdL
   rw [show ∀ (A E F G:List Stp),A++(E++F)++G=(A++E)++(F++G) from fun _ _ _ _=>by simp,hp]
   show play B ins (⟨6,54,0,0⟩ :: cmdsL r (C.length+1) i) R' s=_
   have e:=ih _ _ _ R' i (s++⟨#[if 0 < askC D (.pll l m) then 49 else 48]⟩) inv hwr hl' hi'
   rw [hlen] at e
   rw [play_out rfl,sem_ask (by simp [srt]),e1]
   exact e
  | prp l m =>
   obtain ⟨R',⟨e1,inv⟩,hp⟩:=ask_prp (ins:=ins) g h hk hok
   unfold cmdL
   rw [show ∀ (A E F G:List Stp),A++(E++F)++G=(A++E)++(F++G) from fun _ _ _ _=>by simp,hp]
   show play B ins (⟨6,54,0,0⟩ :: cmdsL r (C.length+1) i) R' s=_
   have e:=ih _ _ _ R' i (s++⟨#[if 0 < askC D (.prp l m) then 49 else 48]⟩) inv hwr hl' hi'
   rw [hlen] at e
   rw [play_out rfl,sem_ask (by simp [srt]),e1]
   exact e
  | cc l m n =>
   obtain ⟨R',⟨e1,inv⟩,hp⟩:=ask_cc (ins:=ins) g h hk hok
   unfold cmdL
   rw [show ∀ (A E F G:List Stp),A++(E++F)++G=(A++E)++(F++G) from fun _ _ _ _=>by simp,hp]
   show play B ins (⟨6,65,0,0⟩ :: cmdsL r (C.length+1) i) R' s=_
   have e:=ih _ _ _ R' i (s++⟨#[if 0 < askC D (.cc l m n) then 49 else 48]⟩) inv hwr hl' hi'
   rw [hlen] at e
   rw [play_out rfl,sem_ask (by simp [srt]),e1]
   exact e
theorem inv_start {M:Nat}:Inv M [] [] [] (List.replicate 128 0):=⟨by simp,rfl,rfl,fun j=>by simp [wt],fun j hj=>by simp at hj⟩
theorem big_start {B nn m:Nat} (hB:B=10 ^ nn) (hn:nn=8000) (hm:m=160):Big (10 ^ m) B:=by
 refine Big.of (by subst hm;decide) ?_
 subst hB
 have h0:∀ n:Nat,qd (10 ^ n)≤10 ^ (2*n+1):=fun n=>by
  unfold qd
  rw [show 2*n+1=n+n+1 by omega,Nat.pow_succ,Nat.pow_add]
  omega
 have mono:∀ {a b:Nat},a≤b→qd a≤qd b:=fun h=>by unfold qd;exact Nat.mul_le_mul_left 3 (Nat.mul_le_mul h h)
 have h1:=h0 m
 have h2:=Nat.le_trans (mono h1) (h0 _)
 have h3:=Nat.le_trans (mono h2) (h0 _)
 have h4:=Nat.le_trans (mono h3) (h0 _)
 have h5:=Nat.le_trans (mono h4) (h0 _)
 refine Nat.lt_of_le_of_lt h5 (Nat.pow_lt_pow_right (by omega) (by omega))
theorem play_report {B nn:Nat} (hB:B=10 ^ nn) (hn:nn=8000) (ins:List Int) (hin:∀ x∈ins,x.natAbs≤99) (r:List Cmd) (hw:Wf [] [] r) (hl:r.length≤16) (hi:cntI r=ins.length) :
  play B ins (cmdsL r 0 0) (List.replicate 128 0) ⟨#[]⟩=(semC ins r 0 0 [] ⟨#[]⟩,0) :=
 play_sem (big_start hB hn rfl) ins hin r [] [] [] _ 0 _ inv_start hw (by simpa using hl) (by omega)
end Go.Proofs.YtmnfndpbblpjiaaGreatDoor.Pu

/- What a report tells stays the same if all points are turned, mirrored, widened, moved. -/
namespace Go.Proofs.YtmnfndpbblpjiaaGreatDoor.Pu
structure Sim where
 a:Int
 b:Int
 dx:Int
 dy:Int
 g:Int
 gg:g*g=1
 s:a*a+b*b≠0
theorem sq_nn (x:Int):0≤x*x:=by
 rcases Int.le_total 0 x with h | h
 ·exact Int.mul_nonneg h h
 ·exact Int.mul_nonneg_of_nonpos_of_nonpos h h
theorem T3.ext' {u v:T3} (h1:u.x=v.x) (h2:u.y=v.y) (h3:u.w=v.w):u=v:=by cases u;cases v;simp_all
section
variable (T:Sim)
end
end Go.Proofs.YtmnfndpbblpjiaaGreatDoor.Pu

/- What a report tells stays the same under a likeness: each statement, and all. -/
namespace Go.Proofs.YtmnfndpbblpjiaaGreatDoor.Pu
section
variable (T:Sim)
theorem isn_mul (v k:Int) (h:k≠0):isnV (v*k)=isnV v:=by
 rcases isnV_cases v with h1 | h1
 ·rcases isnV_cases (v*k) with h2 | h2
  ·rw [h1.1,h2.1]
  ·rcases Int.mul_eq_zero.1 h2.2 with h3 | h3
   ·exact absurd h3 h1.2
   ·exact absurd h3 h
 ·rw [h1.2];simp
theorem m_ne {a b:Int} (h:a≠0) (k:b≠0):a*b≠0:=fun e=>by
 rcases Int.mul_eq_zero.1 e with e | e
 ·exact h e
 ·exact k e
theorem p_ne {a:Int} (h:0 < a):a≠0:=by omega
variable {T} {C:List Cmd} {D D':List T3}
theorem isP_snoc {c:Cmd} {j:Nat} (h:isP (C++[c]) j):isP C j∨(j=C.length∧srt c=80):=by
 obtain ⟨hj,hs⟩:=h
 by_cases hl:j < C.length
 ·exact .inl ⟨hl,by rwa [List.getElem_append_left hl] at hs⟩
 ·have:j=C.length:=by simp at hj;omega
  subst this
  exact .inr ⟨rfl,by simpa using hs⟩
theorem isL_snoc {c:Cmd} {j:Nat} (h:isLn (C++[c]) j):isLn C j∨(j=C.length∧srt c=76):=by
 obtain ⟨hj,hs⟩:=h
 by_cases hl:j < C.length
 ·exact .inl ⟨hl,by rwa [List.getElem_append_left hl] at hs⟩
 ·have:j=C.length:=by simp at hj;omega
  subst this
  exact .inr ⟨rfl,by simpa using hs⟩
theorem pos_iff_mul {v k:Int} (h:0 < k):0 < v*k↔0 < v:=by
 constructor
 ·intro hv
  rcases Int.lt_or_le 0 v with h1 | h1
  ·exact h1
  ·have:=Int.mul_nonpos_of_nonpos_of_nonneg h1 (Int.le_of_lt h);omega
 ·intro hv;exact Int.mul_pos hv h
end
end Go.Proofs.YtmnfndpbblpjiaaGreatDoor.Pu

/- What the four sources of the plane's theorems tell. -/
namespace Go.Proofs.YtmnfndpbblpjiaaGreatDoor.Pu
section
variable {ins:List Int} {r:List Cmd} {k i:Nat} {D:List T3} {s:ByteArray}
end
theorem sq_zero {x y:Int}:x*x+y*y=0↔x=0∧y=0:=by
 constructor
 ·intro h
  have h1:=sq_nn x
  have h2:=sq_nn y
  exact ⟨by rcases Int.mul_eq_zero.1 (show x*x=0 by omega) with h | h <;> exact h,by rcases Int.mul_eq_zero.1 (show y*y=0 by omega) with h | h <;> exact h⟩
 ·rintro ⟨rfl,rfl⟩;rfl
end Go.Proofs.YtmnfndpbblpjiaaGreatDoor.Pu

/- The document's plane, plainly: points as three whole numbers, lines as a point and a direction; held against the program's. -/
namespace Go.Proofs.YtmnfndpbblpjiaaGreatDoor.Pu
structure V2 where
 x:Int
 y:Int
structure RL where
 p:T3
 d:V2
def frm (p q:T3):V2:=⟨q.x*p.w - p.x*q.w,q.y*p.w - p.y*q.w⟩
def turnR (u v:V2):Int:=u.x*v.y - u.y*v.x
def dotR (u v:V2):Int:=u.x*v.x+u.y*v.y
def samR (p q:T3):Bool:=decide ((frm p q).x=0) && decide ((frm p q).y=0)
def ptN (r:T3):T3:=if r.w < 0 then ⟨-r.x,-r.y,-r.w⟩ else r
def shf (p:T3) (v:V2) (n d:Int):T3:=⟨p.x*d+v.x*n*p.w,p.y*d+v.y*n*p.w,p.w*d⟩
def hlf (p q:T3):T3:=⟨p.x*q.w+q.x*p.w,p.y*q.w+q.y*p.w,2*(p.w*q.w)⟩
def footU (p:T3) (l:RL):T3:=shf l.p l.d (dotR (frm l.p p) l.d) (p.w*l.p.w*dotR l.d l.d)
def mirU (p:T3) (f:T3):T3:=shf f (frm p f) 1 (p.w*f.w)
def meetU (l m:RL):T3:=shf l.p l.d (turnR (frm l.p m.p) m.d) (turnR l.d m.d*(l.p.w*m.p.w))
def halR' (p q:T3):RL:=⟨ptN (hlf p q),⟨-(frm p q).y,(frm p q).x⟩⟩
def colR (p q r:T3):Bool:=decide (turnR (frm p q) (frm p r)=0)
def onR (p:T3) (l:RL):Bool:=decide (turnR (frm l.p p) l.d=0)
def pllR (l m:RL):Bool:=decide (turnR l.d m.d=0)
def witR (a u b v c w:Int):Bool:=decide (0≤sgn (b*u - a*v)*sgn (c*v - b*w))
def btwR (p q r:T3):Bool:=!(samR p q || samR q r || !colR p q r) && (witR p.x p.w q.x q.w r.x r.w && witR p.y p.w q.y q.w r.y r.w)
def alkR (c p q:T3):Bool:=decide (dotR (frm c p) (frm c p)*(q.w*q.w) - dotR (frm c q) (frm c q)*(p.w*p.w)=0)
def cenP (p q r:T3):T3:=ptN (meetU (halR' p q) (halR' p r))
def cenOk (p q r:T3):Bool:=!(samR p q || samR p r) && !pllR (halR' p q) (halR' p r)
def cenV' (p q r:T3):T3:=if cenOk p q r then cenP p q r else t0
def rndR (p q r s:T3):Bool :=
 if samR p q || samR p r || samR p s || samR q r || samR q s || samR r s then true
 else if colR p q r || colR p q s || colR p r s || colR q r s then colR p q r && colR p q s
 else alkR (cenV' p q r) p s
def bunR (l m n:RL):Bool:=if pllR l m then (if pllR l n then true else onR (ptN (meetU l n)) m) else onR (ptN (meetU l m)) n
def lnV (l:RL):T3:=parV l.p ⟨-l.d.y,l.d.x,0⟩
def Qq (u v:T3):Prop:=∃ a b:Int,a≠0∧b≠0∧mul3 u a=mul3 v b
theorem mul3_mul (u:T3) (a b:Int):mul3 (mul3 u a) b=mul3 u (a*b):=T3.ext' (by simp [mul3,Int.mul_assoc]) (by simp [mul3,Int.mul_assoc]) (by simp [mul3,Int.mul_assoc])
theorem mul3_one (u:T3):mul3 u 1=u:=T3.ext' (by simp [mul3]) (by simp [mul3]) (by simp [mul3])
theorem Qq.refl (u:T3):Qq u u:=⟨1,1,by decide,by decide,rfl⟩
theorem Qq.symm {u v:T3} (h:Qq u v):Qq v u:=by obtain ⟨a,b,ha,hb,e⟩:=h;exact ⟨b,a,hb,ha,e.symm⟩
theorem Qq.trans {u v t:T3} (h:Qq u v) (k:Qq v t):Qq u t:=by
 obtain ⟨a,b,ha,hb,e⟩:=h
 obtain ⟨c,d,hc,hd,f⟩:=k
 refine ⟨a*c,b*d,m_ne ha hc,m_ne hb hd,?_⟩
 rw [← mul3_mul,e,mul3_mul,Int.mul_comm b c,← mul3_mul,f,mul3_mul,Int.mul_comm d b]
theorem Qq.fac {u v:T3} {k:Int} (hk:k≠0) (h:u=mul3 v k):Qq u v:=⟨1,k,by decide,hk,by rw [mul3_one,h]⟩
theorem Qq.w {u v:T3} (h:Qq u v):u.w=0↔v.w=0:=by
 obtain ⟨a,b,ha,hb,e⟩:=h
 have e:u.w*a=v.w*b:=congrArg T3.w e
 constructor
 ·intro h;rw [h,Int.zero_mul] at e;rcases Int.mul_eq_zero.1 e.symm with h | h
  ·exact h
  ·exact absurd h hb
 ·intro h;rw [h,Int.zero_mul] at e;rcases Int.mul_eq_zero.1 e with h | h
  ·exact h
  ·exact absurd h ha
theorem Qq.x {u v:T3} (h:Qq u v):u.x=0↔v.x=0:=by
 obtain ⟨a,b,ha,hb,e⟩:=h
 have e:u.x*a=v.x*b:=congrArg T3.x e
 constructor
 ·intro h;rw [h,Int.zero_mul] at e;rcases Int.mul_eq_zero.1 e.symm with h | h
  ·exact h
  ·exact absurd h hb
 ·intro h;rw [h,Int.zero_mul] at e;rcases Int.mul_eq_zero.1 e with h | h
  ·exact h
  ·exact absurd h ha
theorem Qq.y {u v:T3} (h:Qq u v):u.y=0↔v.y=0:=by
 obtain ⟨a,b,ha,hb,e⟩:=h
 have e:u.y*a=v.y*b:=congrArg T3.y e
 constructor
 ·intro h;rw [h,Int.zero_mul] at e;rcases Int.mul_eq_zero.1 e.symm with h | h
  ·exact h
  ·exact absurd h hb
 ·intro h;rw [h,Int.zero_mul] at e;rcases Int.mul_eq_zero.1 e with h | h
  ·exact h
  ·exact absurd h ha
theorem zero_fac {x y a b:Int} (ha:a≠0) (hb:b≠0) (e:x*a=y*b):x=0↔y=0:=by
 constructor
 ·intro h;rw [h,Int.zero_mul] at e;rcases Int.mul_eq_zero.1 e.symm with h | h
  ·exact h
  ·exact absurd h hb
 ·intro h;rw [h,Int.zero_mul] at e;rcases Int.mul_eq_zero.1 e with h | h
  ·exact h
  ·exact absurd h ha
section
variable (p q r t:T3) (a b c d:Int)
theorem h_cross:crossV (mul3 p a) (mul3 q b)=mul3 (crossV p q) (a*b):=by refine T3.ext' ?_ ?_ ?_ <;> simp only [crossV,mul3] <;> grind
theorem h_mid:midV (mul3 p a) (mul3 q b)=mul3 (midV p q) (a*b):=by refine T3.ext' ?_ ?_ ?_ <;> simp only [midV,mul3] <;> grind
theorem h_par:parV (mul3 p a) (mul3 q b)=mul3 (parV p q) (a*b):=by refine T3.ext' ?_ ?_ ?_ <;> simp only [parV,mul3] <;> grind
theorem h_upr:uprV (mul3 p a) (mul3 q b)=mul3 (uprV p q) (a*b):=by refine T3.ext' ?_ ?_ ?_ <;> simp only [uprV,parV,mul3] <;> grind
theorem h_foot:footV (mul3 p a) (mul3 q b)=mul3 (footV p q) (a*b*b):=by unfold footV;rw [h_upr,h_cross]
theorem h_mirF (f:T3) (e:Int):(⟨((mul3 f e).x+(mul3 f e).x)*(mul3 p a).w - (mul3 p a).x*(mul3 f e).w,((mul3 f e).y+(mul3 f e).y)*(mul3 p a).w - (mul3 p a).y*(mul3 f e).w,(mul3 f e).w*(mul3 p a).w⟩:T3)=mul3 ⟨(f.x+f.x)*p.w - p.x*f.w,(f.y+f.y)*p.w - p.y*f.w,f.w*p.w⟩ (e*a):=by
 refine T3.ext' ?_ ?_ ?_ <;> simp only [mul3] <;> grind
theorem h_mir:mirV (mul3 p a) (mul3 q b)=mul3 (mirV p q) (a*b*b*a):=by
 have:=h_mirF p a (footV p q) (a*b*b)
 rw [← h_foot] at this
 exact this
theorem h_dot:dotV (mul3 p a) (mul3 q b)=dotV p q*(a*b):=by simp only [dotV,mul3];grind
theorem h_vol:volV (mul3 p a) (mul3 q b) (mul3 r c)=volV p q r*(a*b*c):=by unfold volV;rw [h_cross,h_dot]
theorem h_way:wayV (mul3 p a) (mul3 q b)=mul3 (wayV p q) (a*b):=by refine T3.ext' ?_ ?_ ?_ <;> simp only [wayV,mul3] <;> grind
theorem h_lif:lifV (mul3 p a)=mul3 (lifV p) (a*a):=by refine T3.ext' ?_ ?_ ?_ <;> simp only [lifV,mul3] <;> grind
theorem h_sam:samV (mul3 p a) (mul3 q b)=samV p q*(a*b*(a*b)):=by unfold samV;rw [h_way];simp only [mul3];grind
theorem h_rnd:rndV (mul3 p a) (mul3 q b) (mul3 r c) (mul3 t d)=rndV p q r t*(a*b*(a*b)*(a*c*(a*c))*(a*d*(a*d))):=by unfold rndV;rw [h_way,h_way,h_way,h_lif,h_lif,h_lif,h_vol]
theorem h_prp:(mul3 p a).x*(mul3 q b).x+(mul3 p a).y*(mul3 q b).y=(p.x*q.x+p.y*q.y)*(a*b):=by simp only [mul3];grind
theorem h_bt:(wayV (mul3 q b) (mul3 p a)).x*(wayV (mul3 q b) (mul3 r c)).x+(wayV (mul3 q b) (mul3 p a)).y*(wayV (mul3 q b) (mul3 r c)).y=((wayV q p).x*(wayV q r).x+(wayV q p).y*(wayV q r).y)*(b*a*(b*c)):=by rw [h_way,h_way];simp only [mul3];grind
end
section
variable {u v u' v' u'' v'':T3}
theorem Qq.cross (h:Qq u v) (k:Qq u' v'):Qq (crossV u u') (crossV v v'):=by
 obtain ⟨a,b,ha,hb,e⟩:=h
 obtain ⟨c,d,hc,hd,f⟩:=k
 exact ⟨a*c,b*d,m_ne ha hc,m_ne hb hd,by rw [← h_cross,e,f,h_cross]⟩
theorem Qq.mid (h:Qq u v) (k:Qq u' v'):Qq (midV u u') (midV v v'):=by
 obtain ⟨a,b,ha,hb,e⟩:=h
 obtain ⟨c,d,hc,hd,f⟩:=k
 exact ⟨a*c,b*d,m_ne ha hc,m_ne hb hd,by rw [← h_mid,e,f,h_mid]⟩
theorem Qq.par (h:Qq u v) (k:Qq u' v'):Qq (parV u u') (parV v v'):=by
 obtain ⟨a,b,ha,hb,e⟩:=h
 obtain ⟨c,d,hc,hd,f⟩:=k
 exact ⟨a*c,b*d,m_ne ha hc,m_ne hb hd,by rw [← h_par,e,f,h_par]⟩
theorem Qq.upr (h:Qq u v) (k:Qq u' v'):Qq (uprV u u') (uprV v v'):=by
 obtain ⟨a,b,ha,hb,e⟩:=h
 obtain ⟨c,d,hc,hd,f⟩:=k
 exact ⟨a*c,b*d,m_ne ha hc,m_ne hb hd,by rw [← h_upr,e,f,h_upr]⟩
theorem Qq.foot (h:Qq u v) (k:Qq u' v'):Qq (footV u u') (footV v v'):=(h.upr k).cross k
theorem Qq.mir (h:Qq u v) (k:Qq u' v'):Qq (mirV u u') (mirV v v'):=by
 obtain ⟨a,b,ha,hb,e⟩:=h
 obtain ⟨c,d,hc,hd,f⟩:=k
 exact ⟨a*c*c*a,b*d*d*b,m_ne (m_ne (m_ne ha hc) hc) ha,m_ne (m_ne (m_ne hb hd) hd) hb,by rw [← h_mir,e,f,h_mir]⟩
theorem Qq.hal (h:Qq u v) (k:Qq u' v'):Qq (halV u u') (halV v v'):=(h.mid k).upr (h.cross k)
end
structure Pq (u v:T3):Prop where
 q:Qq u v
 u0:0 < u.w
 v0:0 < v.w
structure Lq (u:T3) (l:RL):Prop where
 q:Qq u (lnV l)
 w0:0 < l.p.w
 d0:0 < dotR l.d l.d
theorem ptN_eq (r:T3) (h:r.w≠0):ptN r=mul3 r (sgn r.w):=by
 unfold ptN
 rcases sgn_cases r.w with k | k | k
 ·rw [if_pos k.2,k.1];exact T3.ext' (by simp [mul3]) (by simp [mul3]) (by simp [mul3])
 ·exact absurd k.2 h
 ·rw [if_neg (by omega),k.1,mul3_one]
theorem sgn_ne {x:Int} (h:x≠0):sgn x≠0:=by rcases sgn_cases x with k | k | k <;> omega
theorem ptN_pos (r:T3) (h:r.w≠0):0 < (ptN r).w:=by rw [ptN_eq r h];exact sgn_pos h
theorem ptN_q (r:T3) (h:r.w≠0):Qq (ptN r) r:=Qq.fac (sgn_ne h) (ptN_eq r h)
theorem Pq.keep {m r:T3} (h:Qq m r) (hr:r.w≠0):Pq (mul3 m (sgn m.w)) (ptN r):=by
 have hm:m.w≠0:=fun e=>hr (h.w.1 e)
 exact ⟨((Qq.fac (sgn_ne hm) rfl).trans h).trans (ptN_q r hr).symm,sgn_pos hm,ptN_pos r hr⟩
section
variable {u v u' v' u'' v'':T3} {l m n:RL} {k k' k'':T3}
theorem hlf_mid (p q:T3):hlf p q=midV p q:=T3.ext' rfl rfl (by simp only [hlf,midV];omega)
theorem Pq.mid (h:Pq u v) (j:Pq u' v'):Pq (mul3 (midV u u') (sgn (midV u u').w)) (ptN (hlf v v')):=by
 refine Pq.keep (by rw [hlf_mid];exact h.q.mid j.q) ?_
 have:=Int.mul_pos h.v0 j.v0
 show 2*(v.w*v'.w)≠0
 omega
theorem line_id (p q:T3):lnV ⟨p,frm p q⟩=mul3 (crossV p q) p.w:=by refine T3.ext' ?_ ?_ ?_ <;> simp only [lnV,parV,frm,crossV,mul3] <;> grind
theorem dot_pos {v:V2} (h:v.x≠0∨v.y≠0):0 < dotR v v:=by
 unfold dotR
 have h1:=sq_nn v.x
 have h2:=sq_nn v.y
 rcases h with h | h
 ·have:=m_ne h h;omega
 ·have:=m_ne h h;omega
theorem samR_iff (p q:T3):samR p q=true↔(crossV p q).x=0∧(crossV p q).y=0:=by
 simp only [samR,frm,crossV,Bool.and_eq_true]
 constructor <;> intro ⟨h1,h2⟩ <;> constructor <;> grind
theorem line_stop (h:Pq u v) (j:Pq u' v'):((crossV u u').x*(crossV u u').x+(crossV u u').y*(crossV u u').y=0)↔samR v v'=true:=by
 rw [sq_zero,samR_iff,(h.q.cross j.q).x,(h.q.cross j.q).y]
theorem Lq.line (h:Pq u v) (j:Pq u' v') (hs:samR v v'=false):Lq (crossV u u') ⟨v,frm v v'⟩:=by
 refine ⟨(h.q.cross j.q).trans (Qq.fac (p_ne h.v0) (line_id v v')).symm,h.v0,dot_pos ?_⟩
 simp only [samR,Bool.and_eq_false_iff,decide_eq_false_iff_not] at hs
 exact hs
theorem par_id (p:T3) (l:RL):parV p (lnV l)=mul3 (lnV ⟨p,l.d⟩) l.p.w:=by refine T3.ext' ?_ ?_ ?_ <;> simp only [lnV,parV,mul3] <;> grind
theorem upr_id (p:T3) (l:RL):uprV p (lnV l)=mul3 (lnV ⟨p,⟨-l.d.y,l.d.x⟩⟩) (-l.p.w):=by refine T3.ext' ?_ ?_ ?_ <;> simp only [lnV,uprV,parV,mul3] <;> grind
theorem Lq.par (h:Pq u v) (j:Lq k l):Lq (parV u k) ⟨v,l.d⟩:=⟨(h.q.par j.q).trans (Qq.fac (p_ne j.w0) (par_id v l)),h.v0,j.d0⟩
theorem Lq.perp (h:Pq u v) (j:Lq k l):Lq (uprV u k) ⟨v,⟨-l.d.y,l.d.x⟩⟩:=by
 refine ⟨(h.q.upr j.q).trans (Qq.fac (by have:=j.w0;omega) (upr_id v l)),h.v0,?_⟩
 have:=j.d0
 simp only [dotR] at *
 grind
theorem meet_id (l m:RL):meetU l m=mul3 (crossV (lnV l) (lnV m)) l.p.w:=by refine T3.ext' ?_ ?_ ?_ <;> simp only [meetU,shf,turnR,frm,lnV,parV,crossV,mul3] <;> grind
theorem meet_w (l m:RL) (hl:0 < l.p.w) (hm:0 < m.p.w):(meetU l m).w=0↔pllR l m=true:=by
 have:(meetU l m).w=turnR l.d m.d*(l.p.w*(l.p.w*m.p.w)):=by simp only [meetU,shf];grind
 rw [this,pllR,decide_eq_true_eq]
 have hne:l.p.w*(l.p.w*m.p.w)≠0:=m_ne (p_ne hl) (m_ne (p_ne hl) (p_ne hm))
 constructor
 ·intro h;rcases Int.mul_eq_zero.1 h with h | h
  ·exact h
  ·exact absurd h hne
 ·intro h;rw [h,Int.zero_mul]
theorem meet_q (h:Lq k l) (j:Lq k' m):Qq (crossV k k') (meetU l m):=(h.q.cross j.q).trans (Qq.fac (p_ne h.w0) (meet_id l m)).symm
theorem meet_stop (h:Lq k l) (j:Lq k' m):(crossV k k').w=0↔pllR l m=true:=by rw [(meet_q h j).w,meet_w l m h.w0 j.w0]
theorem Pq.meet (h:Lq k l) (j:Lq k' m) (hs:pllR l m=false):Pq (mul3 (crossV k k') (sgn (crossV k k').w)) (ptN (meetU l m)) :=
 Pq.keep (meet_q h j) (fun e=>by rw [meet_w l m h.w0 j.w0,hs] at e;cases e)
theorem foot_id (p:T3) (l:RL):footU p l=footV p (lnV l):=by refine T3.ext' ?_ ?_ ?_ <;> simp only [footU,shf,dotR,frm,lnV,parV,footV,uprV,crossV] <;> grind
theorem foot_w (p:T3) (l:RL) (hp:0 < p.w) (hl:0 < l.p.w) (hd:0 < dotR l.d l.d):0 < (footU p l).w:=Int.mul_pos hl (Int.mul_pos (Int.mul_pos hp hl) hd)
theorem foot_q (h:Pq u v) (j:Lq k l):Qq (footV u k) (footU v l):=by rw [foot_id];exact h.q.foot j.q
theorem Pq.foot (h:Pq u v) (j:Lq k l):Pq (mul3 (footV u k) (sgn (footV u k).w)) (ptN (footU v l)):=Pq.keep (foot_q h j) (p_ne (foot_w v l h.v0 j.w0 j.d0))
theorem ptN_same {r:T3} (h:0 < r.w):ptN r=r:=by unfold ptN;rw [if_neg (by omega)]
theorem mir_id (p f:T3):mirU p f=mul3 ⟨(f.x+f.x)*p.w - p.x*f.w,(f.y+f.y)*p.w - p.y*f.w,f.w*p.w⟩ f.w:=by refine T3.ext' ?_ ?_ ?_ <;> simp only [mirU,shf,frm,mul3] <;> grind
theorem mir_q (h:Pq u v) (j:Lq k l):Qq (mirV u k) (mirU v (ptN (footU v l))):=by
 have hw:=foot_w v l h.v0 j.w0 j.d0
 rw [ptN_same hw,mir_id]
 refine (h.q.mir j.q).trans (Qq.symm (Qq.fac (p_ne hw) ?_))
 rw [foot_id];rfl
theorem mir_w (h:Pq u v) (j:Lq k l):(mirU v (ptN (footU v l))).w≠0:=by
 have hw:=foot_w v l h.v0 j.w0 j.d0
 rw [ptN_same hw]
 exact m_ne (p_ne hw) (m_ne (p_ne h.v0) (p_ne hw))
theorem Pq.mir (h:Pq u v) (j:Lq k l):Pq (mul3 (mirV u k) (sgn (mirV u k).w)) (ptN (mirU v (ptN (footU v l)))):=Pq.keep (mir_q h j) (mir_w h j)
theorem hal_pt {p q:T3} (hp:0 < p.w) (hq:0 < q.w):ptN (hlf p q)=midV p q:=by
 rw [ptN_same (by show 0 < 2*(p.w*q.w);have:=Int.mul_pos hp hq;omega),hlf_mid]
theorem hal_id {p q:T3} (hp:0 < p.w) (hq:0 < q.w):lnV (halR' p q)=mul3 (halV p q) (-1):=by
 unfold halR' lnV halV uprV
 rw [hal_pt hp hq]
 refine T3.ext' ?_ ?_ ?_ <;> simp only [parV,frm,crossV,mul3] <;> grind
theorem Lq.hal (h:Pq u v) (j:Pq u' v') (hs:samR v v'=false):Lq (halV u u') (halR' v v'):=by
 refine ⟨(h.q.hal j.q).trans (Qq.fac (by decide) (hal_id h.v0 j.v0)).symm,?_,?_⟩
 ·show 0 < (ptN (hlf v v')).w
  rw [hal_pt h.v0 j.v0]
  have:=Int.mul_pos h.v0 j.v0
  show 0 < v.w*v'.w+v.w*v'.w
  omega
 ·have:=(Lq.line h j hs).d0
  simp only [dotR,halR'] at *
  grind
theorem hal_zero {p q:T3} (h:samR p q=true):(halV p q).x=0∧(halV p q).y=0∧(halV p q).w=0:=by
 rw [samR_iff] at h
 unfold halV uprV parV
 generalize crossV p q=c at *
 rw [h.1,h.2]
 simp
theorem cen_stop (h:Pq u v) (j:Pq u' v') (i:Pq u'' v''):(cenV u u' u'').w=0↔cenOk v v' v''=false:=by
 unfold cenOk
 by_cases h1:samR v v'=true
 ·have hz:=(h.q.hal j.q)
  obtain ⟨z1,z2,-⟩:=hal_zero h1
  have e1:(halV u u').x=0:=hz.x.2 z1
  have e2:(halV u u').y=0:=hz.y.2 z2
  simp only [h1,Bool.true_or,Bool.not_true,Bool.false_and,iff_true]
  unfold cenV crossV
  simp [e1,e2]
 ·have h1:samR v v'=false:=by simpa using h1
  by_cases h2:samR v v''=true
  ·have hz:=(h.q.hal i.q)
   obtain ⟨z1,z2,-⟩:=hal_zero h2
   have e1:(halV u u'').x=0:=hz.x.2 z1
   have e2:(halV u u'').y=0:=hz.y.2 z2
   simp only [h2,Bool.or_true,Bool.not_true,Bool.false_and,iff_true]
   unfold cenV crossV
   simp [e1,e2]
  ·have h2:samR v v''=false:=by simpa using h2
   have:=meet_stop (Lq.hal h j h1) (Lq.hal h i h2)
   unfold cenV
   rw [this]
   simp [h1,h2]
theorem cenOk_iff {p q r:T3} (h:cenOk p q r=true):samR p q=false∧samR p r=false∧pllR (halR' p q) (halR' p r)=false:=by
 unfold cenOk at h
 simp at h
 exact ⟨h.1.1,h.1.2,h.2⟩
theorem Pq.cen (h:Pq u v) (j:Pq u' v') (i:Pq u'' v'') (hs:cenOk v v' v''=true):Pq (mul3 (cenV u u' u'') (sgn (cenV u u' u'').w)) (cenP v v' v''):=by
 obtain ⟨h1,h2,h3⟩:=cenOk_iff hs
 exact Pq.meet (Lq.hal h j h1) (Lq.hal h i h2) h3
end
end Go.Proofs.YtmnfndpbblpjiaaGreatDoor.Pu

/- The questions of the document's plane, held against the program's. -/
namespace Go.Proofs.YtmnfndpbblpjiaaGreatDoor.Pu
theorem isn_pos (x:Int):0 < isnV x↔x=0:=by rcases isnV_cases x with h | h <;> rw [h.1] <;> simp [h.2]
section
variable {u v u' v' u'' v'' u3 v3:T3} {l m n:RL} {k k' k'':T3}
theorem Pq.pos (h:Pq u v):∃ a b:Int,0 < a∧0 < b∧mul3 u a=mul3 v b:=by
 obtain ⟨a,b,ha,hb,e⟩:=h.q
 have ew:u.w*a=v.w*b:=congrArg T3.w e
 have h1:=h.u0
 have h2:=h.v0
 rcases Int.lt_or_le 0 a with h3 | h3
 ·have:=Int.mul_pos h1 h3
  refine ⟨a,b,h3,?_,e⟩
  rcases Int.lt_or_le 0 b with h4 | h4
  ·exact h4
  ·have:=Int.mul_nonpos_of_nonneg_of_nonpos (Int.le_of_lt h2) h4;omega
 ·have h3:a < 0:=by omega
  have:=Int.mul_neg_of_pos_of_neg h1 h3
  refine ⟨-a,-b,by omega,?_,?_⟩
  ·rcases Int.lt_or_le b 0 with h4 | h4
   ·omega
   ·have:=Int.mul_nonneg (Int.le_of_lt h2) h4;omega
  ·have ex:u.x*a=v.x*b:=congrArg T3.x e
   have ey:u.y*a=v.y*b:=congrArg T3.y e
   exact T3.ext' (by simp only [mul3];grind) (by simp only [mul3];grind) (by simp only [mul3];grind)
theorem sam_iff (p q:T3):samV p q=0↔samR p q=true:=by
 unfold samV samR
 rw [sq_zero,Bool.and_eq_true,decide_eq_true_eq,decide_eq_true_eq]
 exact Iff.rfl
theorem q_same (h:Pq u v) (j:Pq u' v'):(0 < isnV (samV u u'))↔samR v v'=true:=by
 rw [isn_pos,← sam_iff]
 obtain ⟨a,b,ha,hb,e⟩:=h.q
 obtain ⟨c,d,hc,hd,f⟩:=j.q
 have:=h_sam u u' a c
 rw [e,f,h_sam] at this
 exact zero_fac (m_ne (m_ne ha hc) (m_ne ha hc)) (m_ne (m_ne hb hd) (m_ne hb hd)) this.symm
theorem col_id (p q r:T3):turnR (frm p q) (frm p r)=volV p q r*p.w:=by simp only [turnR,frm,volV,dotV,crossV];grind
theorem vol_fac (h:Pq u v) (j:Pq u' v') (i:Pq u'' v''):∃ a b:Int,0 < a∧0 < b∧volV u u' u''*a=volV v v' v''*b:=by
 obtain ⟨a,b,ha,hb,e⟩:=h.pos
 obtain ⟨c,d,hc,hd,f⟩:=j.pos
 obtain ⟨x,y,hx,hy,g⟩:=i.pos
 refine ⟨a*c*x,b*d*y,Int.mul_pos (Int.mul_pos ha hc) hx,Int.mul_pos (Int.mul_pos hb hd) hy,?_⟩
 rw [← h_vol,e,f,g,h_vol]
theorem vol_col {p q r:T3} (hp:0 < p.w):volV p q r=0↔colR p q r=true:=by
 unfold colR
 rw [decide_eq_true_eq,col_id]
 exact zero_fac (p_ne hp) (by decide:(1:Int)≠0) (by grind)
theorem q_col (h:Pq u v) (j:Pq u' v') (i:Pq u'' v''):(0 < isnV (volV u u' u''))↔colR v v' v''=true:=by
 rw [isn_pos,← vol_col h.v0]
 obtain ⟨a,b,ha,hb,e⟩:=vol_fac h j i
 exact zero_fac (p_ne ha) (p_ne hb) e
theorem q_ccw (h:Pq u v) (j:Pq u' v') (i:Pq u'' v''):(0 < volV u u' u'')↔0 < turnR (frm v v') (frm v v''):=by
 rw [col_id,pos_iff_mul h.v0]
 obtain ⟨a,b,ha,hb,e⟩:=vol_fac h j i
 rw [← pos_iff_mul ha,e,pos_iff_mul hb]
theorem on_id (p:T3) (l:RL):dotV p (lnV l)=turnR (frm l.p p) l.d*(-1):=by simp only [dotV,lnV,parV,turnR,frm];grind
theorem q_on (h:Qq u v) (j:Lq k l):(0 < isnV (dotV u k))↔onR v l=true:=by
 rw [isn_pos]
 obtain ⟨a,b,ha,hb,e⟩:=h
 obtain ⟨c,d,hc,hd,f⟩:=j.q
 have:=h_dot u k a c
 rw [e,f,h_dot,on_id] at this
 unfold onR
 rw [decide_eq_true_eq]
 exact zero_fac (m_ne ha hc) (m_ne (by decide:(-1:Int)≠0) (m_ne hb hd)) (by rw [← this,Int.mul_assoc])
theorem q_pll (h:Lq k l) (j:Lq k' m):(0 < isnV (k.x*k'.y - k.y*k'.x))↔pllR l m=true:=by
 rw [isn_pos,← meet_stop h j]
 rfl
theorem prp_id (l m:RL):(lnV l).x*(lnV m).x+(lnV l).y*(lnV m).y=dotR l.d m.d*(l.p.w*m.p.w):=by simp only [lnV,parV,dotR];grind
theorem q_prp (h:Lq k l) (j:Lq k' m):(0 < isnV (k.x*k'.x+k.y*k'.y))↔dotR l.d m.d=0:=by
 rw [isn_pos]
 obtain ⟨a,b,ha,hb,e⟩:=h.q
 obtain ⟨c,d,hc,hd,f⟩:=j.q
 have:=h_prp k k' a c
 rw [e,f,h_prp,prp_id] at this
 exact zero_fac (m_ne ha hc) (m_ne (m_ne (p_ne h.w0) (p_ne j.w0)) (m_ne hb hd)) (by rw [← this,Int.mul_assoc])
theorem vol_swap (p q r:T3):dotV (crossV p r) q=volV p q r*(-1):=by simp only [volV,dotV,crossV];grind
theorem vol_par {p q r:T3} (h:p.x≠0∨p.y≠0) (h1:(crossV p q).w=0) (h2:(crossV p r).w=0):volV p q r=0:=by
 have e1:p.x*q.y - p.y*q.x=0:=h1
 have e2:p.x*r.y - p.y*r.x=0:=h2
 rcases h with h | h
 ·have:p.x*volV p q r=0:=by
   simp only [volV,dotV,crossV]
   have e3:p.x*r.y=p.y*r.x:=by omega
   have e4:p.x*q.y=p.y*q.x:=by omega
   grind
  rcases Int.mul_eq_zero.1 this with h3 | h3
  ·exact absurd h3 h
  ·exact h3
 ·have:p.y*volV p q r=0:=by
   simp only [volV,dotV,crossV]
   have e3:p.x*r.y=p.y*r.x:=by omega
   have e4:p.x*q.y=p.y*q.x:=by omega
   grind
  rcases Int.mul_eq_zero.1 this with h3 | h3
  ·exact absurd h3 h
  ·exact h3
theorem Lq.xy (h:Lq k l):k.x≠0∨k.y≠0:=by
 rw [Ne,Ne,h.q.x,h.q.y]
 by_cases h1:l.d.y=0
 ·refine .inr ?_
  show ¬ l.d.x*l.p.w=0
  refine m_ne (fun e=>?_) (p_ne h.w0)
  have:=h.d0
  simp [dotR,h1,e] at this
 ·refine .inl ?_
  show ¬ -l.d.y*l.p.w=0
  exact m_ne (by omega) (p_ne h.w0)
theorem q_cc (h:Lq k l) (j:Lq k' m) (i:Lq k'' n):(0 < isnV (volV k k' k''))↔bunR l m n=true:=by
 unfold bunR
 by_cases h1:pllR l m=true
 ·rw [if_pos h1]
  by_cases h2:pllR l n=true
  ·rw [if_pos h2,isn_pos]
   simp only [iff_true]
   exact vol_par h.xy ((meet_stop h j).2 h1) ((meet_stop h i).2 h2)
  ·rw [if_neg h2]
   have hw:(meetU l n).w≠0:=fun e=>h2 ((meet_w l n h.w0 i.w0).1 e)
   rw [← q_on ((meet_q h i).trans (ptN_q _ hw).symm) j,isn_pos,isn_pos,vol_swap]
   exact zero_fac (by decide:(-1:Int)≠0) (by decide:(1:Int)≠0) (by grind)
 ·rw [if_neg h1]
  have hw:(meetU l m).w≠0:=fun e=>h1 ((meet_w l m h.w0 j.w0).1 e)
  rw [← q_on ((meet_q h j).trans (ptN_q _ hw).symm) i]
  exact Iff.rfl
end
theorem against {a b c d:Int} (hp:a*d=b*c) (hs:a*c+b*d≠0):a*c+b*d < 0↔a*c≤0∧b*d≤0:=by
 constructor
 ·intro h
  have key:(a*c)*(b*d)=(a*d)*(a*d):=by grind
  have h2:=sq_nn (a*d)
  rw [← key] at h2
  rcases Int.lt_or_le 0 (a*c) with h3 | h3
  ·have h4:b*d < 0:=by omega
   have:=Int.mul_neg_of_pos_of_neg h3 h4
   omega
  ·refine ⟨h3,?_⟩
   rcases Int.lt_or_le 0 (b*d) with h4 | h4
   ·have h5:a*c < 0:=by omega
    have:=Int.mul_neg_of_neg_of_pos h5 h4
    omega
   ·exact h4
 ·intro ⟨h1,h2⟩;omega
theorem sgn_mul_nn (x y:Int):0≤sgn x*sgn y↔0≤x*y:=by
 rcases sgn_cases x with h | h | h <;> rcases sgn_cases y with k | k | k <;> rw [h.1,k.1]
 ·have:=Int.mul_pos_of_neg_of_neg h.2 k.2;simp;omega
 ·simp [k.2]
 ·have:=Int.mul_neg_of_neg_of_pos h.2 k.2;simp;omega
 ·simp [h.2]
 ·simp [h.2]
 ·simp [h.2]
 ·have:=Int.mul_neg_of_pos_of_neg h.2 k.2;simp;omega
 ·simp [k.2]
 ·have:=Int.mul_pos h.2 k.2;simp;omega
theorem dots_ne {a b c d:Int} (hp:a*d=b*c) (h1:a≠0∨b≠0) (h2:c≠0∨d≠0):a*c+b*d≠0:=by
 intro h
 have e1:c*(a*a+b*b)=0:=by grind
 have e2:d*(a*a+b*b)=0:=by grind
 have hs:a*a+b*b≠0:=fun e=>by rw [sq_zero] at e;rcases h1 with h1 | h1 <;> omega
 rcases Int.mul_eq_zero.1 e1 with h3 | h3
 ·rcases Int.mul_eq_zero.1 e2 with h4 | h4
  ·rcases h2 with h2 | h2 <;> omega
  ·exact hs h4
 ·exact hs h3
theorem samR_sym (p q:T3):samR p q=samR q p:=by
 unfold samR frm
 have e1:(q.x*p.w - p.x*q.w=0)↔(p.x*q.w - q.x*p.w=0):=by constructor <;> intro <;> omega
 have e2:(q.y*p.w - p.y*q.w=0)↔(p.y*q.w - q.y*p.w=0):=by constructor <;> intro <;> omega
 simp only [e1,e2]
theorem way_zero {p q:T3} (h:samR p q=true):(wayV p q).x=0∧(wayV p q).y=0:=by
 rw [samR,Bool.and_eq_true,decide_eq_true_eq,decide_eq_true_eq] at h
 exact h
theorem way_ne {p q:T3} (h:samR p q=false):(wayV p q).x≠0∨(wayV p q).y≠0:=by
 simp only [samR,Bool.and_eq_false_iff,decide_eq_false_iff_not] at h
 exact h
theorem wit_x (p q r:T3):witR p.x p.w q.x q.w r.x r.w=true↔(wayV q p).x*(wayV q r).x≤0:=by
 unfold witR
 rw [decide_eq_true_eq,sgn_mul_nn]
 simp only [wayV]
 have:(q.x*p.w - p.x*q.w)*(r.x*q.w - q.x*r.w)=-((p.x*q.w - q.x*p.w)*(r.x*q.w - q.x*r.w)):=by grind
 omega
theorem wit_y (p q r:T3):witR p.y p.w q.y q.w r.y r.w=true↔(wayV q p).y*(wayV q r).y≤0:=by
 unfold witR
 rw [decide_eq_true_eq,sgn_mul_nn]
 simp only [wayV]
 have:(q.y*p.w - p.y*q.w)*(r.y*q.w - q.y*r.w)=-((p.y*q.w - q.y*p.w)*(r.y*q.w - q.y*r.w)):=by grind
 omega
theorem way_vol (p q r:T3):(wayV q p).x*(wayV q r).y - (wayV q p).y*(wayV q r).x=volV p q r*(-q.w):=by simp only [wayV,volV,dotV,crossV];grind
theorem btw_doc (p q r:T3) (hp:0 < p.w):0 < btwV p q r↔btwR p q r=true:=by
 unfold btwR btwV
 by_cases hc:volV p q r=0
 ·have hc2:=(vol_col hp).1 hc
  have hi:isnV (volV p q r)=1:=by rcases isnV_cases (volV p q r) with h | h <;> omega
  rw [hi,hc2]
  have hpar:(wayV q p).x*(wayV q r).y=(wayV q p).y*(wayV q r).x:=by have:=way_vol p q r;rw [hc,Int.zero_mul] at this;omega
  cases h1:samR p q with
  | true =>
   have:(wayV q p).x=0∧(wayV q p).y=0:=by rw [samR_sym] at h1;exact way_zero h1
   simp [this]
  | false =>
   cases h2:samR q r with
   | true =>
    have:(wayV q r).x=0∧(wayV q r).y=0:=way_zero h2
    simp [this]
   | false =>
    have hn:=dots_ne hpar (way_ne (by rw [samR_sym];exact h1)) (way_ne h2)
    have hag:=against hpar hn
    simp only [Bool.not_true,Bool.or_false,Bool.not_false,Bool.true_and]
    rw [Bool.and_eq_true,wit_x,wit_y,← hag]
    omega
 ·have hc2:colR p q r=false:=by
   cases h:colR p q r with
   | false=>rfl
   | true=>exact absurd ((vol_col hp).2 h) hc
  have hi:isnV (volV p q r)=0:=by rcases isnV_cases (volV p q r) with h | h <;> omega
  rw [hi,hc2]
  simp
theorem q_btw {u v u' v' u'' v'':T3} (h:Pq u v) (j:Pq u' v') (i:Pq u'' v''):(0 < btwV u u' u'')↔btwR v v' v''=true:=by
 rw [← btw_doc _ _ _ h.v0]
 obtain ⟨a,b,ha,hb,e⟩:=h.pos
 obtain ⟨c,d,hc,hd,f⟩:=j.pos
 obtain ⟨x,y,hx,hy,g⟩:=i.pos
 have e1:isnV (volV u u' u'')=isnV (volV v v' v''):=by
  rw [← isn_mul (volV u u' u'') (a*c*x) (m_ne (m_ne (p_ne ha) (p_ne hc)) (p_ne hx)),← h_vol,e,f,g,h_vol,isn_mul _ _ (m_ne (m_ne (p_ne hb) (p_ne hd)) (p_ne hy))]
 have e2:=h_bt u u' u'' a c x
 rw [e,f,g,h_bt] at e2
 unfold btwV
 rw [e1]
 generalize (wayV u' u).x*(wayV u' u'').x+(wayV u' u).y*(wayV u' u'').y=A at *
 generalize (wayV v' v).x*(wayV v' v'').x+(wayV v' v).y*(wayV v' v'').y=B at *
 have p1:0 < c*a*(c*x):=Int.mul_pos (Int.mul_pos hc ha) (Int.mul_pos hc hx)
 have p2:0 < d*b*(d*y):=Int.mul_pos (Int.mul_pos hd hb) (Int.mul_pos hd hy)
 rcases isnV_cases (volV v v' v'') with hh | hh
 ·rw [hh.1];simp
 ·rw [hh.1,Int.one_mul,Int.one_mul,← pos_iff_mul (v:=0 - A) p1,← pos_iff_mul (v:=0 - B) p2]
  have:(0 - A)*(c*a*(c*x))=(0 - B)*(d*b*(d*y)):=by grind
  rw [this]
end Go.Proofs.YtmnfndpbblpjiaaGreatDoor.Pu

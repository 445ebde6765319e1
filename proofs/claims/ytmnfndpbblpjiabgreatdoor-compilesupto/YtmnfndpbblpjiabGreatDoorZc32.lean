/- Statements of a right source, as commands; what is made of them. -/
import Derived.Test.YtmnfndpbblpjiabGreatDoorZc20
import Derived.Test.YtmnfndpbblpjiabGreatDoorZc31
namespace Go.Proofs.YtmnfndpbblpjiabGreatDoor.Pu
theorem len2 {α : Type} {l : List α} (h : l.length = 2) : ∃ a b,l = [a,b] := by
 match l,h with
 | [a,b],_ => exact ⟨a,b,rfl⟩
theorem len3 {α : Type} {l : List α} (h : l.length = 3) : ∃ a b c,l = [a,b,c] := by
 match l,h with
 | [a,b,c],_ => exact ⟨a,b,c,rfl⟩
def ag (x : St) (j : Nat) : Nat := (x.args[j]?.getD 0).toNat
def ix (l : List St) (x : St) (j : Nat) : Nat := (gvI l (ag x j)).toNat
def cmdOf (l : List St) (x : St) : Cmd :=
 if x.word == [112,116] then .pt else
 if x.word == [109,105,100] then .mid (ix l x 0) (ix l x 1) else
 if x.word == [108,105,110,101] then .line (ix l x 0) (ix l x 1) else
 if x.word == [112,97,114] then .par (ix l x 0) (ix l x 1) else
 if x.word == [112,101,114,112] then .perp (ix l x 0) (ix l x 1) else
 if x.word == [109,101,101,116] then .meet (ix l x 0) (ix l x 1) else
 if x.word == [102,111,111,116] then .foot (ix l x 0) (ix l x 1) else
 if x.word == [109,105,114,114,111,114] then .mirror (ix l x 0) (ix l x 1) else
 if x.word == [99,101,110,116,114,101] then .centre (ix l x 0) (ix l x 1) (ix l x 2) else
 if x.word == [115,97,109,101] then .same (ix l x 0) (ix l x 1) else
 if x.word == [99,111,108] then .col (ix l x 0) (ix l x 1) (ix l x 2) else
 if x.word == [99,99,119] then .ccw (ix l x 0) (ix l x 1) (ix l x 2) else
 if x.word == [98,116,119] then .btw (ix l x 0) (ix l x 1) (ix l x 2) else
 if x.word == [99,111,110] then .con (ix l x 0) (ix l x 1) (ix l x 2) (ix l x 3) else
 if x.word == [111,110] then .on (ix l x 0) (ix l x 1) else
 if x.word == [112,108,108] then .pll (ix l x 0) (ix l x 1) else
 if x.word == [112,114,112] then .prp (ix l x 0) (ix l x 1) else
 .cc (ix l x 0) (ix l x 1) (ix l x 2)
def cmds (l : List St) : List Cmd := l.map (cmdOf l)
theorem word_cases {w : List UInt8} (h : (fm w).2 ≠ 0) : w = [112,116] ∨ w = [109,105,100] ∨ w = [108,105,110,101] ∨ w = [112,97,114] ∨ w = [112,101,114,112] ∨ w = [109,101,101,116] ∨ w = [102,111,111,116] ∨ w = [109,105,114,114,111,114] ∨ w = [99,101,110,116,114,101] ∨ w = [115,97,109,101] ∨ w = [99,111,108] ∨ w = [99,99,119] ∨ w = [98,116,119] ∨ w = [99,111,110] ∨ w = [111,110] ∨ w = [112,108,108] ∨ w = [112,114,112] ∨ w = [99,99] := by
 by_cases h0 : w = [112,116]
 ·simp [h0]
 by_cases h1 : w = [109,105,100]
 ·simp [h1]
 by_cases h2 : w = [108,105,110,101]
 ·simp [h2]
 by_cases h3 : w = [112,97,114]
 ·simp [h3]
 by_cases h4 : w = [112,101,114,112]
 ·simp [h4]
 by_cases h5 : w = [109,101,101,116]
 ·simp [h5]
 by_cases h6 : w = [102,111,111,116]
 ·simp [h6]
 by_cases h7 : w = [109,105,114,114,111,114]
 ·simp [h7]
 by_cases h8 : w = [99,101,110,116,114,101]
 ·simp [h8]
 by_cases h9 : w = [115,97,109,101]
 ·simp [h9]
 by_cases h10 : w = [99,111,108]
 ·simp [h10]
 by_cases h11 : w = [99,99,119]
 ·simp [h11]
 by_cases h12 : w = [98,116,119]
 ·simp [h12]
 by_cases h13 : w = [99,111,110]
 ·simp [h13]
 by_cases h14 : w = [111,110]
 ·simp [h14]
 by_cases h15 : w = [112,108,108]
 ·simp [h15]
 by_cases h16 : w = [112,114,112]
 ·simp [h16]
 by_cases h17 : w = [99,99]
 ·simp [h17]
 exfalso
 apply h
 simp [fm,show (w == [112,116]) = false from beq_eq_false_iff_ne.2 h0,show (w == [109,105,100]) = false from beq_eq_false_iff_ne.2 h1,show (w == [108,105,110,101]) = false from beq_eq_false_iff_ne.2 h2,show (w == [112,97,114]) = false from beq_eq_false_iff_ne.2 h3,show (w == [112,101,114,112]) = false from beq_eq_false_iff_ne.2 h4,show (w == [109,101,101,116]) = false from beq_eq_false_iff_ne.2 h5,show (w == [102,111,111,116]) = false from beq_eq_false_iff_ne.2 h6,show (w == [109,105,114,114,111,114]) = false from beq_eq_false_iff_ne.2 h7,show (w == [99,101,110,116,114,101]) = false from beq_eq_false_iff_ne.2 h8,show (w == [115,97,109,101]) = false from beq_eq_false_iff_ne.2 h9,show (w == [99,111,108]) = false from beq_eq_false_iff_ne.2 h10,show (w == [99,99,119]) = false from beq_eq_false_iff_ne.2 h11,show (w == [98,116,119]) = false from beq_eq_false_iff_ne.2 h12,show (w == [99,111,110]) = false from beq_eq_false_iff_ne.2 h13,show (w == [111,110]) = false from beq_eq_false_iff_ne.2 h14,show (w == [112,108,108]) = false from beq_eq_false_iff_ne.2 h15,show (w == [112,114,112]) = false from beq_eq_false_iff_ne.2 h16,show (w == [99,99]) = false from beq_eq_false_iff_ne.2 h17]
def thJ (l : List St) (x : St) (j : Nat) : Tr := if j < x.args.length then hm (ix l x j) else ⟨0,0,0⟩
def thO (l : List St) (x : St) : Th := ⟨thJ l x 0,thJ l x 1,thJ l x 2,thJ l x 3⟩
def grdN (wd : List UInt8) : Nat := if wd == [108,105,110,101] then 3 else 0
def qsL (wd : List UInt8) (t : Th) : List Stp := (askL wd 48 t).1 ++ [⟨6,48 + (askL wd 48 t).2,0,0⟩]
def csL (wd : List UInt8) (i k : Nat) (t : Th) : List Stp := (conL wd 48 i t).1 ++ (grdL wd (48 + (conL wd 48 i t).1.length) (conL wd 48 i t).2.1 k ++ keepL wd (48 + (conL wd 48 i t).1.length + grdN wd) (conL wd 48 i t).2.1 k)
def stL (l : List St) (k i : Nat) (x : St) : List Stp := if x.name = 0 then qsL x.word (thO l x) else csL x.word i k (thO l x)
section
variable {p : List (St × Nat)}
theorem gv_more {l m : List St} {nm : Nat} (h : gvI l nm ≠ -1) : gvI (l ++ m) nm = gvI l nm := by
 rcases gvI_cases l nm with ⟨h1,_⟩ | ⟨k,hk,h1,h2,h3⟩
 ·exact absurd h1 h
 ·rw [h1]
  exact gvI_some (by simp; omega) (by rw [List.getElem_append_left hk]; exact h2) (fun j hj => by rw [List.getElem_append_left (by omega)]; exact h3 j hj)
theorem gv_take {p : List (St × Nat)} {j nm : Nat} (h : gvI (sts (p.take j)) nm ≠ -1) : gvI (sts p) nm = gvI (sts (p.take j)) nm := by
 have : sts p = sts (p.take j) ++ sts (p.drop j) := by rw [sts,sts,sts,← List.map_append,List.take_append_drop]
 rw [this,gv_more h]
theorem arg_at (h : Ok p) {j : Nat} (hj : j < p.length) {i : Nat} (hi : i < p[j].1.args.length) :
  ∃ k,∃ hk : k < j,ix (sts p) p[j].1 i = k ∧ gvI (sts p) (ag p[j].1 i) = (k : Int) ∧ argW (p.take j) (ag p[j].1 i) = (p[k]'(by omega)).2 ∧ ((fm p[j].1.word).1[i]?.getD 0).toNat = (fm (p[k]'(by omega)).1.word).2 := by
 obtain ⟨he,-⟩ := h j hj
 obtain ⟨-,hl,hn,hs,-⟩ := err_zero he
 have hag : ag p[j].1 i = p[j].1.args[i].toNat := by simp [ag,hi]
 unfold namesOk at hn
 rw [Bool.and_eq_true,List.all_eq_true] at hn
 have hg : gvI (sts (p.take j)) (ag p[j].1 i) ≠ -1 := by
  have := hn.1 p[j].1.args[i] (List.getElem_mem hi)
  rw [hag]; simpa using this
 obtain ⟨k,hk,h1,h2⟩ := given_lt hg
 have hkj : k < j := by simp at hk; omega
 have hw := who_of hk h1
 have hpk : (p.take j)[k] = p[k]'(by omega) := by simp
 have hgp := gv_take hg
 rw [h1] at hgp
 refine ⟨k,hkj,by rw [ix,hgp]; rfl,hgp,by rw [argW,hw]; simp,?_⟩
 unfold sortsOk at hs
 rw [List.all_eq_true] at hs
 have hi2 : i < (fm p[j].1.word).1.length := by omega
 have hz := hs (p[j].1.args[i],(fm p[j].1.word).1[i]) (by
  rw [List.mem_iff_getElem]
  exact ⟨i,by simp; omega,by simp⟩)
 have haw : argWord (p.take j) p[j].1.args[i].toNat = (p[k]'(by omega)).1.word := by
  rw [← hag,argWord,hw]; simp
 simp only [haw] at hz
 rw [List.getElem?_eq_getElem hi2]
 simp at hz ⊢
 exact hz.symm
theorem srt_cmd {l : List St} {x : St} (h : (fm x.word).2 ≠ 0) : srt (cmdOf l x) = (fm x.word).2 := by
 rcases word_cases h with e | e | e | e | e | e | e | e | e | e | e | e | e | e | e | e | e | e <;> rw [cmdOf,e] <;> rfl
theorem sts_at {j : Nat} (hj : j < p.length) : (sts p)[j]'(by rw [sts_len]; exact hj) = p[j].1 := by simp [sts]
theorem cmds_at {j : Nat} (hj : j < p.length) : (cmds (sts p))[j]'(by simp [cmds,sts_len]; exact hj) = cmdOf (sts p) p[j].1 := by simp [cmds,sts]
theorem cmds_len : (cmds (sts p)).length = p.length := by simp [cmds,sts_len]
theorem arg_P (h : Ok p) {j : Nat} (hj : j < p.length) {i : Nat} (hi : i < p[j].1.args.length) (hs : ((fm p[j].1.word).1[i]?.getD 0).toNat = 80) : isP ((cmds (sts p)).take j) (ix (sts p) p[j].1 i) := by
 obtain ⟨k,hk,e1,-,-,e2⟩ := arg_at h hj hi
 rw [e1]
 refine ⟨by rw [List.length_take,cmds_len]; omega,?_⟩
 rw [List.getElem_take,cmds_at (by omega),srt_cmd (by rw [← e2,hs]; omega),← e2,hs]
theorem arg_L (h : Ok p) {j : Nat} (hj : j < p.length) {i : Nat} (hi : i < p[j].1.args.length) (hs : ((fm p[j].1.word).1[i]?.getD 0).toNat = 76) : isLn ((cmds (sts p)).take j) (ix (sts p) p[j].1 i) := by
 obtain ⟨k,hk,e1,-,-,e2⟩ := arg_at h hj hi
 rw [e1]
 refine ⟨by rw [List.length_take,cmds_len]; omega,?_⟩
 rw [List.getElem_take,cmds_at (by omega),srt_cmd (by rw [← e2,hs]; omega),← e2,hs]
def wts (p : List (St × Nat)) : List Nat := p.map Prod.snd
theorem arg_W (h : Ok p) {j : Nat} (hj : j < p.length) {i : Nat} (hi : i < p[j].1.args.length) : wt ((wts p).take j) (ix (sts p) p[j].1 i) = argW (p.take j) (p[j].1.args[i].toNat) := by
 obtain ⟨k,hk,e1,-,e2,-⟩ := arg_at h hj hi
 have hag : ag p[j].1 i = p[j].1.args[i].toNat := by simp [ag,hi]
 rw [← hag,e1,e2,wt,wts]
 simp [hk,show k < p.length by omega]
theorem ok_cmd (h : Ok p) {j : Nat} (hj : j < p.length) : okC ((cmds (sts p)).take j) (cmdOf (sts p) p[j].1) ∧ wtC ((wts p).take j) (cmdOf (sts p) p[j].1) = p[j].2 := by
 obtain ⟨he,hw⟩ := h j hj
 obtain ⟨hk,hl,-,-,-⟩ := err_zero he
 have P := fun i hi => arg_P h hj (i := i) hi
 have L := fun i hi => arg_L h hj (i := i) hi
 have V := fun i hi => arg_W h hj (i := i) hi
 rw [hw]
 unfold known at hk
 rw [Bool.and_eq_true] at hk
 have h0 : (fm p[j].1.word).2 ≠ 0 := by simpa using hk.1
 have hq := hk.2
 unfold wgh
 generalize p[j].1 = x at *
 obtain ⟨nm,wd,ar⟩ := x
 simp only at *
 rcases word_cases h0 with e | e | e | e | e | e | e | e | e | e | e | e | e | e | e | e | e | e
 ·subst e
  have hl2 : ar.length = 0 := hl
  have hn : nm ≠ 0 := by simpa [fm] using hq
  exact ⟨trivial,by rw [if_neg hn]; rfl⟩
 ·subst e
  have hl2 : ar.length = 2 := hl
  have hn : nm ≠ 0 := by simpa [fm] using hq
  refine ⟨⟨P 0 (by omega) rfl,P 1 (by omega) rfl⟩,?_⟩
  rw [if_neg hn]
  obtain ⟨a,b,rfl⟩ := len2 hl2
  have v0 := V 0 (by omega)
  have v1 := V 1 (by omega)
  simp only [List.getElem_cons_zero,List.getElem_cons_succ] at v0 v1
  show wt _ _ + wt _ _ = _
  rw [v0,v1]
  simp [wG,sumW]
 ·subst e
  have hl2 : ar.length = 2 := hl
  have hn : nm ≠ 0 := by simpa [fm] using hq
  refine ⟨⟨P 0 (by omega) rfl,P 1 (by omega) rfl⟩,?_⟩
  rw [if_neg hn]
  obtain ⟨a,b,rfl⟩ := len2 hl2
  have v0 := V 0 (by omega)
  have v1 := V 1 (by omega)
  simp only [List.getElem_cons_zero,List.getElem_cons_succ] at v0 v1
  show wt _ _ + wt _ _ = _
  rw [v0,v1]
  simp [wG,sumW]
 ·subst e
  have hl2 : ar.length = 2 := hl
  have hn : nm ≠ 0 := by simpa [fm] using hq
  refine ⟨⟨P 0 (by omega) rfl,L 1 (by omega) rfl⟩,?_⟩
  rw [if_neg hn]
  obtain ⟨a,b,rfl⟩ := len2 hl2
  have v0 := V 0 (by omega)
  have v1 := V 1 (by omega)
  simp only [List.getElem_cons_zero,List.getElem_cons_succ] at v0 v1
  show wt _ _ + wt _ _ = _
  rw [v0,v1]
  simp [wG,sumW]
 ·subst e
  have hl2 : ar.length = 2 := hl
  have hn : nm ≠ 0 := by simpa [fm] using hq
  refine ⟨⟨P 0 (by omega) rfl,L 1 (by omega) rfl⟩,?_⟩
  rw [if_neg hn]
  obtain ⟨a,b,rfl⟩ := len2 hl2
  have v0 := V 0 (by omega)
  have v1 := V 1 (by omega)
  simp only [List.getElem_cons_zero,List.getElem_cons_succ] at v0 v1
  show wt _ _ + wt _ _ = _
  rw [v0,v1]
  simp [wG,sumW]
 ·subst e
  have hl2 : ar.length = 2 := hl
  have hn : nm ≠ 0 := by simpa [fm] using hq
  refine ⟨⟨L 0 (by omega) rfl,L 1 (by omega) rfl⟩,?_⟩
  rw [if_neg hn]
  obtain ⟨a,b,rfl⟩ := len2 hl2
  have v0 := V 0 (by omega)
  have v1 := V 1 (by omega)
  simp only [List.getElem_cons_zero,List.getElem_cons_succ] at v0 v1
  show wt _ _ + wt _ _ = _
  rw [v0,v1]
  simp [wG,sumW]
 ·subst e
  have hl2 : ar.length = 2 := hl
  have hn : nm ≠ 0 := by simpa [fm] using hq
  refine ⟨⟨P 0 (by omega) rfl,L 1 (by omega) rfl⟩,?_⟩
  rw [if_neg hn]
  obtain ⟨a,b,rfl⟩ := len2 hl2
  have v0 := V 0 (by omega)
  have v1 := V 1 (by omega)
  simp only [List.getElem_cons_zero,List.getElem_cons_succ] at v0 v1
  show wt _ _ + wt _ _ + wt _ _ = _
  rw [v0,v1]
  simp [wG,sumW,lastW]
 ·subst e
  have hl2 : ar.length = 2 := hl
  have hn : nm ≠ 0 := by simpa [fm] using hq
  refine ⟨⟨P 0 (by omega) rfl,L 1 (by omega) rfl⟩,?_⟩
  rw [if_neg hn]
  obtain ⟨a,b,rfl⟩ := len2 hl2
  have v0 := V 0 (by omega)
  have v1 := V 1 (by omega)
  simp only [List.getElem_cons_zero,List.getElem_cons_succ] at v0 v1
  show 2 * (wt _ _ + wt _ _) = _
  rw [v0,v1]
  simp [wG,sumW]
 ·subst e
  have hl2 : ar.length = 3 := hl
  have hn : nm ≠ 0 := by simpa [fm] using hq
  refine ⟨⟨P 0 (by omega) rfl,P 1 (by omega) rfl,P 2 (by omega) rfl⟩,?_⟩
  rw [if_neg hn]
  obtain ⟨a,b,c,rfl⟩ := len3 hl2
  have v0 := V 0 (by omega)
  have v1 := V 1 (by omega)
  have v2 := V 2 (by omega)
  simp only [List.getElem_cons_zero,List.getElem_cons_succ] at v0 v1 v2
  show 4 * (wt _ _ + wt _ _ + wt _ _) = _
  rw [v0,v1,v2]
  simp [wG,sumW]; omega
 ·subst e
  have hl2 : ar.length = 2 := hl
  have hn : nm = 0 := by simpa [fm] using hq
  exact ⟨⟨P 0 (by omega) rfl,P 1 (by omega) rfl⟩,by rw [if_pos hn]; rfl⟩
 ·subst e
  have hl2 : ar.length = 3 := hl
  have hn : nm = 0 := by simpa [fm] using hq
  exact ⟨⟨P 0 (by omega) rfl,P 1 (by omega) rfl,P 2 (by omega) rfl⟩,by rw [if_pos hn]; rfl⟩
 ·subst e
  have hl2 : ar.length = 3 := hl
  have hn : nm = 0 := by simpa [fm] using hq
  exact ⟨⟨P 0 (by omega) rfl,P 1 (by omega) rfl,P 2 (by omega) rfl⟩,by rw [if_pos hn]; rfl⟩
 ·subst e
  have hl2 : ar.length = 3 := hl
  have hn : nm = 0 := by simpa [fm] using hq
  exact ⟨⟨P 0 (by omega) rfl,P 1 (by omega) rfl,P 2 (by omega) rfl⟩,by rw [if_pos hn]; rfl⟩
 ·subst e
  have hl2 : ar.length = 4 := hl
  have hn : nm = 0 := by simpa [fm] using hq
  exact ⟨⟨P 0 (by omega) rfl,P 1 (by omega) rfl,P 2 (by omega) rfl,P 3 (by omega) rfl⟩,by rw [if_pos hn]; rfl⟩
 ·subst e
  have hl2 : ar.length = 2 := hl
  have hn : nm = 0 := by simpa [fm] using hq
  exact ⟨⟨P 0 (by omega) rfl,L 1 (by omega) rfl⟩,by rw [if_pos hn]; rfl⟩
 ·subst e
  have hl2 : ar.length = 2 := hl
  have hn : nm = 0 := by simpa [fm] using hq
  exact ⟨⟨L 0 (by omega) rfl,L 1 (by omega) rfl⟩,by rw [if_pos hn]; rfl⟩
 ·subst e
  have hl2 : ar.length = 2 := hl
  have hn : nm = 0 := by simpa [fm] using hq
  exact ⟨⟨L 0 (by omega) rfl,L 1 (by omega) rfl⟩,by rw [if_pos hn]; rfl⟩
 ·subst e
  have hl2 : ar.length = 3 := hl
  have hn : nm = 0 := by simpa [fm] using hq
  exact ⟨⟨L 0 (by omega) rfl,L 1 (by omega) rfl,L 2 (by omega) rfl⟩,by rw [if_pos hn]; rfl⟩
theorem wf_from (h : Ok p) : ∀ d,d ≤ p.length → Wf ((cmds (sts p)).take (p.length - d)) ((wts p).take (p.length - d)) ((cmds (sts p)).drop (p.length - d)) := by
 intro d
 induction d with
 | zero => intro _; rw [Nat.sub_zero,List.drop_of_length_le (by rw [cmds_len]; omega)]; trivial
 | succ d ih =>
  intro hd
  have hj : p.length - (d + 1) < p.length := by omega
  have hj2 : p.length - (d + 1) < (cmds (sts p)).length := by rw [cmds_len]; exact hj
  have ih := ih (by omega)
  rw [show p.length - d = p.length - (d + 1) + 1 by omega] at ih
  rw [List.drop_eq_getElem_cons hj2]
  obtain ⟨h1,h2⟩ := ok_cmd h hj
  rw [List.take_succ_eq_append_getElem hj2,List.take_succ_eq_append_getElem (by simpa [wts] using hj),cmds_at hj] at ih
  rw [cmds_at hj]
  refine ⟨h1,by rw [h2]; exact h.weight hj,?_⟩
  rw [h2]
  simpa [wts] using ih
theorem wf_cmds (h : Ok p) : Wf [] [] (cmds (sts p)) := by
 have := wf_from h p.length (Nat.le_refl _)
 simpa using this
theorem st_cmd (h : Ok p) {j : Nat} (hj : j < p.length) (k i : Nat) : stL (sts p) k i p[j].1 = cmdL k i (cmdOf (sts p) p[j].1) := by
 obtain ⟨he,-⟩ := h j hj
 obtain ⟨hk,hl,-,-,-⟩ := err_zero he
 unfold known at hk
 rw [Bool.and_eq_true] at hk
 have h0 : (fm p[j].1.word).2 ≠ 0 := by simpa using hk.1
 have hq := hk.2
 generalize p[j].1 = x at *
 obtain ⟨nm,wd,ar⟩ := x
 simp only at *
 have tj : ∀ i,i < ar.length → thJ (sts p) ⟨nm,wd,ar⟩ i = hm (ix (sts p) ⟨nm,wd,ar⟩ i) := fun i hi => by unfold thJ; rw [if_pos hi]
 rcases word_cases h0 with e | e | e | e | e | e | e | e | e | e | e | e | e | e | e | e | e | e
 ·subst e
  have hl2 : ar.length = 0 := hl
  have hn : nm ≠ 0 := by simpa [fm] using hq
  rw [stL,if_neg hn]
  unfold csL thO
  rfl
 ·subst e
  have hl2 : ar.length = 2 := hl
  have hn : nm ≠ 0 := by simpa [fm] using hq
  rw [stL,if_neg hn]
  unfold csL thO
  rw [tj 0 (by omega),tj 1 (by omega)]
  rfl
 ·subst e
  have hl2 : ar.length = 2 := hl
  have hn : nm ≠ 0 := by simpa [fm] using hq
  rw [stL,if_neg hn]
  unfold csL thO
  rw [tj 0 (by omega),tj 1 (by omega)]
  rfl
 ·subst e
  have hl2 : ar.length = 2 := hl
  have hn : nm ≠ 0 := by simpa [fm] using hq
  rw [stL,if_neg hn]
  unfold csL thO
  rw [tj 0 (by omega),tj 1 (by omega)]
  rfl
 ·subst e
  have hl2 : ar.length = 2 := hl
  have hn : nm ≠ 0 := by simpa [fm] using hq
  rw [stL,if_neg hn]
  unfold csL thO
  rw [tj 0 (by omega),tj 1 (by omega)]
  rfl
 ·subst e
  have hl2 : ar.length = 2 := hl
  have hn : nm ≠ 0 := by simpa [fm] using hq
  rw [stL,if_neg hn]
  unfold csL thO
  rw [tj 0 (by omega),tj 1 (by omega)]
  rfl
 ·subst e
  have hl2 : ar.length = 2 := hl
  have hn : nm ≠ 0 := by simpa [fm] using hq
  rw [stL,if_neg hn]
  unfold csL thO
  rw [tj 0 (by omega),tj 1 (by omega)]
  rfl
 ·subst e
  have hl2 : ar.length = 2 := hl
  have hn : nm ≠ 0 := by simpa [fm] using hq
  rw [stL,if_neg hn]
  unfold csL thO
  rw [tj 0 (by omega),tj 1 (by omega)]
  rfl
 ·subst e
  have hl2 : ar.length = 3 := hl
  have hn : nm ≠ 0 := by simpa [fm] using hq
  rw [stL,if_neg hn]
  unfold csL thO
  rw [tj 0 (by omega),tj 1 (by omega),tj 2 (by omega)]
  rfl
 ·subst e
  have hl2 : ar.length = 2 := hl
  have hn : nm = 0 := by simpa [fm] using hq
  rw [stL,if_pos hn]
  unfold qsL thO
  rw [tj 0 (by omega),tj 1 (by omega)]
  rfl
 ·subst e
  have hl2 : ar.length = 3 := hl
  have hn : nm = 0 := by simpa [fm] using hq
  rw [stL,if_pos hn]
  unfold qsL thO
  rw [tj 0 (by omega),tj 1 (by omega),tj 2 (by omega)]
  rfl
 ·subst e
  have hl2 : ar.length = 3 := hl
  have hn : nm = 0 := by simpa [fm] using hq
  rw [stL,if_pos hn]
  unfold qsL thO
  rw [tj 0 (by omega),tj 1 (by omega),tj 2 (by omega)]
  rfl
 ·subst e
  have hl2 : ar.length = 3 := hl
  have hn : nm = 0 := by simpa [fm] using hq
  rw [stL,if_pos hn]
  unfold qsL thO
  rw [tj 0 (by omega),tj 1 (by omega),tj 2 (by omega)]
  rfl
 ·subst e
  have hl2 : ar.length = 4 := hl
  have hn : nm = 0 := by simpa [fm] using hq
  rw [stL,if_pos hn]
  unfold qsL thO
  rw [tj 0 (by omega),tj 1 (by omega),tj 2 (by omega),tj 3 (by omega)]
  rfl
 ·subst e
  have hl2 : ar.length = 2 := hl
  have hn : nm = 0 := by simpa [fm] using hq
  rw [stL,if_pos hn]
  unfold qsL thO
  rw [tj 0 (by omega),tj 1 (by omega)]
  rfl
 ·subst e
  have hl2 : ar.length = 2 := hl
  have hn : nm = 0 := by simpa [fm] using hq
  rw [stL,if_pos hn]
  unfold qsL thO
  rw [tj 0 (by omega),tj 1 (by omega)]
  rfl
 ·subst e
  have hl2 : ar.length = 2 := hl
  have hn : nm = 0 := by simpa [fm] using hq
  rw [stL,if_pos hn]
  unfold qsL thO
  rw [tj 0 (by omega),tj 1 (by omega)]
  rfl
 ·subst e
  have hl2 : ar.length = 3 := hl
  have hn : nm = 0 := by simpa [fm] using hq
  rw [stL,if_pos hn]
  unfold qsL thO
  rw [tj 0 (by omega),tj 1 (by omega),tj 2 (by omega)]
  rfl
theorem ins_cmd (h : Ok p) {j : Nat} (hj : j < p.length) : insC (cmdOf (sts p) p[j].1) = if (p[j].1.word == [112,116]) = true then 2 else 0 := by
 obtain ⟨he,-⟩ := h j hj
 obtain ⟨hk,-,-,-,-⟩ := err_zero he
 unfold known at hk
 rw [Bool.and_eq_true] at hk
 have h0 : (fm p[j].1.word).2 ≠ 0 := by simpa using hk.1
 rcases word_cases h0 with e | e | e | e | e | e | e | e | e | e | e | e | e | e | e | e | e | e <;> rw [cmdOf,e] <;> rfl
end
end Go.Proofs.YtmnfndpbblpjiabGreatDoor.Pu

/- The steps that are made are right ones. -/
namespace Go.Proofs.YtmnfndpbblpjiabGreatDoor.Pu
def okG (n : Nat) : (Nat → Bool) → List Stp → Prop
 | _,[] => True
 | M,t :: l => Small t ∧ properB t 128 n = true ∧ (∀ r ∈ readsOf t,r < 128 ∧ M r = true) ∧ okG n (if t.op ≤ 5 then upd t.x true M else M) l
theorem okG_okL {n : Nat} : ∀ (l : List Stp) (M : Nat → Bool),okG n M l → okL 128 n M l
 | [],_,_ => trivial
 | _ :: l,_,h => ⟨h.2.1,h.2.2.1,okG_okL l _ h.2.2.2⟩
theorem okG_small {n : Nat} : ∀ (l : List Stp) (M : Nat → Bool),okG n M l → ∀ t ∈ l,Small t
 | [],_,_,_,ht => by cases ht
 | _ :: l,_,h,u,hu => by
  rcases List.mem_cons.1 hu with e | hu
  ·subst e; exact h.1
  ·exact okG_small l _ h.2.2.2 u hu
def Sub (M M' : Nat → Bool) : Prop := ∀ r,M r = true → M' r = true
theorem Sub.trans {A B C : Nat → Bool} (h : Sub A B) (k : Sub B C) : Sub A C := fun r hr => k r (h r hr)
def Rs (M : Nat → Bool) (r : Nat) : Prop := r < 128 ∧ M r = true
def Rt (M : Nat → Bool) (t : Tr) : Prop := Rs M t.x ∧ Rs M t.y ∧ Rs M t.w
theorem Rs.sub {M M' : Nat → Bool} {r : Nat} (h : Rs M r) (k : Sub M M') : Rs M' r := ⟨h.1,k r h.2⟩
theorem Rt.sub {M M' : Nat → Bool} {r : Tr} (h : Rt M r) (k : Sub M M') : Rt M' r := ⟨h.1.sub k,h.2.1.sub k,h.2.2.sub k⟩
theorem upd_sub (M : Nat → Bool) (x : Nat) : Sub M (upd x true M) := fun r h => by unfold upd; split <;> simp [h]
theorem upd_at (M : Nat → Bool) (x : Nat) : upd x true M x = true := by simp [upd]
section
variable {n s : Nat} {M : Nat → Bool} {l : List Stp}
theorem og_set {op x y z : Nat} (hs : x < 128) (hop : op ≤ 5) (hsm : Small ⟨op,x,y,z⟩) (hp : properB ⟨op,x,y,z⟩ 128 n = true) (hr : ∀ r ∈ readsOf ⟨op,x,y,z⟩,r < 128 ∧ M r = true) (k : ∀ M',Sub M M' → Rs M' x → okG n M' l) : okG n M (⟨op,x,y,z⟩ :: l) := by
 refine ⟨hsm,hp,hr,?_⟩
 rw [if_pos hop]
 exact k _ (upd_sub M x) ⟨hs,upd_at M x⟩
theorem og_add {x y z : Nat} (hs : x < 128) (hy : Rs M y) (hz : Rs M z) (k : ∀ M',Sub M M' → Rs M' x → okG n M' l) : okG n M (⟨2,x,y,z⟩ :: l) := by
 have h1 := hy.1
 have h2 := hz.1
 refine og_set hs (by omega) ⟨by show 2 < 256; omega,by show x < 256; omega,by show y < 256; omega,by show z < 256; omega⟩ ?_ ?_ k
 ·simp [properB]; omega
 ·intro r hr
  simp [readsOf] at hr
  rcases hr with rfl | rfl
  ·exact hy
  ·exact hz
theorem og_sub {x y z : Nat} (hs : x < 128) (hy : Rs M y) (hz : Rs M z) (k : ∀ M',Sub M M' → Rs M' x → okG n M' l) : okG n M (⟨3,x,y,z⟩ :: l) := by
 have h1 := hy.1
 have h2 := hz.1
 refine og_set hs (by omega) ⟨by show 3 < 256; omega,by show x < 256; omega,by show y < 256; omega,by show z < 256; omega⟩ ?_ ?_ k
 ·simp [properB]; omega
 ·intro r hr
  simp [readsOf] at hr
  rcases hr with rfl | rfl
  ·exact hy
  ·exact hz
theorem og_mul {x y z : Nat} (hs : x < 128) (hy : Rs M y) (hz : Rs M z) (k : ∀ M',Sub M M' → Rs M' x → okG n M' l) : okG n M (⟨4,x,y,z⟩ :: l) := by
 have h1 := hy.1
 have h2 := hz.1
 refine og_set hs (by omega) ⟨by show 4 < 256; omega,by show x < 256; omega,by show y < 256; omega,by show z < 256; omega⟩ ?_ ?_ k
 ·simp [properB]; omega
 ·intro r hr
  simp [readsOf] at hr
  rcases hr with rfl | rfl
  ·exact hy
  ·exact hz
theorem og_con {x y : Nat} (hs : x < 128) (hy : y < 256) (k : ∀ M',Sub M M' → Rs M' x → okG n M' l) : okG n M (⟨1,x,y,0⟩ :: l) := by
 refine og_set hs (by omega) ⟨by show 1 < 256; omega,by show x < 256; omega,hy,by show 0 < 256; omega⟩ ?_ ?_ k
 ·simp [properB]; omega
 ·intro r hr
  simp [readsOf] at hr
theorem og_in {x y : Nat} (hs : x < 128) (hy : y < n) (hn : n ≤ 32) (k : ∀ M',Sub M M' → Rs M' x → okG n M' l) : okG n M (⟨0,x,y,0⟩ :: l) := by
 refine og_set hs (by omega) ⟨by show 0 < 256; omega,by show x < 256; omega,by show y < 256; omega,by show 0 < 256; omega⟩ ?_ ?_ k
 ·simp [properB]; omega
 ·intro r hr
  simp [readsOf] at hr
theorem og_sgn {x y : Nat} (hs : x < 128) (hy : Rs M y) (k : ∀ M',Sub M M' → Rs M' x → okG n M' l) : okG n M (⟨5,x,y,0⟩ :: l) := by
 have h1 := hy.1
 refine og_set hs (by omega) ⟨by show 5 < 256; omega,by show x < 256; omega,by show y < 256; omega,by show 0 < 256; omega⟩ ?_ ?_ k
 ·simp [properB]; omega
 ·intro r hr
  simp [readsOf] at hr
  subst hr
  exact hy
theorem og_out {x : Nat} (hx : Rs M x) (k : okG n M l) : okG n M (⟨6,x,0,0⟩ :: l) := by
 have h1 := hx.1
 refine ⟨⟨by show 6 < 256; omega,by show x < 256; omega,by show 0 < 256; omega,by show 0 < 256; omega⟩,by simp [properB]; omega,?_,k⟩
 intro r hr
 simp [readsOf] at hr
 subst hr
 exact hx
theorem og_stop {x y z : Nat} (hx : Rs M x) (hy : y < 3) (hz : z < 16) (k : okG n M l) : okG n M (⟨7,x,y,z⟩ :: l) := by
 have h1 := hx.1
 refine ⟨⟨by show 7 < 256; omega,by show x < 256; omega,by show y < 256; omega,by show z < 256; omega⟩,by simp [properB]; omega,?_,k⟩
 intro r hr
 simp [readsOf] at hr
 subst hr
 exact hx
theorem og_prodS {p q r t : Nat} (hs : s + 3 ≤ 128) (h_p : Rs M p) (h_q : Rs M q) (h_r : Rs M r) (h_t : Rs M t)
  (k : ∀ M',Sub M M' → Rs M' (s + 2) → okG n M' l) : okG n M (prodS s p q r t ++ l) := by
 unfold prodS
 refine og_mul (by omega) h_p h_q ?_
 intro M1 s1 r1
 have g1_r := Rs.sub h_r s1
 have g1_t := Rs.sub h_t s1
 refine og_mul (by omega) g1_r g1_t ?_
 intro M2 s2 r2
 have g2_a := Rs.sub r1 s2
 refine og_add (by omega) g2_a r2 ?_
 intro M3 s3 r3
 exact k _ ((s1.trans s2).trans s3) r3
theorem og_prodD {p q r t : Nat} (hs : s + 3 ≤ 128) (h_p : Rs M p) (h_q : Rs M q) (h_r : Rs M r) (h_t : Rs M t)
  (k : ∀ M',Sub M M' → Rs M' (s + 2) → okG n M' l) : okG n M (prodD s p q r t ++ l) := by
 unfold prodD
 refine og_mul (by omega) h_p h_q ?_
 intro M1 s1 r1
 have g1_r := Rs.sub h_r s1
 have g1_t := Rs.sub h_t s1
 refine og_mul (by omega) g1_r g1_t ?_
 intro M2 s2 r2
 have g2_a := Rs.sub r1 s2
 refine og_sub (by omega) g2_a r2 ?_
 intro M3 s3 r3
 exact k _ ((s1.trans s2).trans s3) r3
theorem og_neg {y : Nat} (hs : s + 2 ≤ 128) (h_y : Rs M y)
  (k : ∀ M',Sub M M' → Rs M' (s + 1) → okG n M' l) : okG n M (negL s y ++ l) := by
 unfold negL
 refine og_con (by omega) (by omega) ?_
 intro M1 s1 r1
 have g1_y := Rs.sub h_y s1
 refine og_sub (by omega) r1 g1_y ?_
 intro M2 s2 r2
 exact k _ (s1.trans s2) r2
theorem og_isn {y : Nat} (hs : s + 4 ≤ 128) (h_y : Rs M y)
  (k : ∀ M',Sub M M' → Rs M' (s + 3) → okG n M' l) : okG n M (isnL s y ++ l) := by
 unfold isnL
 refine og_sgn (by omega) h_y ?_
 intro M1 s1 r1
 refine og_mul (by omega) r1 r1 ?_
 intro M2 s2 r2
 refine og_con (by omega) (by omega) ?_
 intro M3 s3 r3
 have g3_b := Rs.sub r2 s3
 refine og_sub (by omega) r3 g3_b ?_
 intro M4 s4 r4
 exact k _ (((s1.trans s2).trans s3).trans s4) r4
theorem og_cross {a b : Tr} (hs : s + 9 ≤ 128) (h_a : Rt M a) (h_b : Rt M b)
  (k : ∀ M',Sub M M' → Rt M' (crossR s) → okG n M' l) : okG n M (crossL s a b ++ l) := by
 unfold crossL
 simp only [List.append_assoc]
 refine og_prodD (by omega) h_a.2.1 h_b.2.2 h_a.2.2 h_b.2.1 ?_
 intro M1 s1 r1
 have g1_a := Rt.sub h_a s1
 have g1_b := Rt.sub h_b s1
 refine og_prodD (by omega) g1_a.2.2 g1_b.1 g1_a.1 g1_b.2.2 ?_
 intro M2 s2 r2
 have g2_a := Rt.sub g1_a s2
 have g2_b := Rt.sub g1_b s2
 have g2_x := Rs.sub r1 s2
 refine og_prodD (by omega) g2_a.1 g2_b.2.1 g2_a.2.1 g2_b.1 ?_
 intro M3 s3 r3
 have g3_x := Rs.sub g2_x s3
 have g3_y := Rs.sub r2 s3
 exact k _ ((s1.trans s2).trans s3) ⟨g3_x,g3_y,r3⟩
theorem og_dot {a b : Tr} (hs : s + 5 ≤ 128) (h_a : Rt M a) (h_b : Rt M b)
  (k : ∀ M',Sub M M' → Rs M' (s + 4) → okG n M' l) : okG n M (dotL s a b ++ l) := by
 unfold dotL
 simp only [List.append_assoc]
 refine og_prodS (by omega) h_a.1 h_b.1 h_a.2.1 h_b.2.1 ?_
 intro M1 s1 r1
 have g1_a := Rt.sub h_a s1
 have g1_b := Rt.sub h_b s1
 refine og_mul (by omega) g1_a.2.2 g1_b.2.2 ?_
 intro M2 s2 r2
 have g2_x := Rs.sub r1 s2
 refine og_add (by omega) g2_x r2 ?_
 intro M3 s3 r3
 exact k _ ((s1.trans s2).trans s3) r3
theorem og_vol {a b c : Tr} (hs : s + 14 ≤ 128) (h_a : Rt M a) (h_b : Rt M b) (h_c : Rt M c)
  (k : ∀ M',Sub M M' → Rs M' (s + 13) → okG n M' l) : okG n M (volL s a b c ++ l) := by
 unfold volL
 simp only [List.append_assoc]
 refine og_cross (by omega) h_a h_b ?_
 intro M1 s1 r1
 have g1_c := Rt.sub h_c s1
 refine og_dot (by omega) r1 g1_c ?_
 intro M2 s2 r2
 exact k _ (s1.trans s2) r2
theorem og_mid {a b : Tr} (hs : s + 8 ≤ 128) (h_a : Rt M a) (h_b : Rt M b)
  (k : ∀ M',Sub M M' → Rt M' (midR s) → okG n M' l) : okG n M (midL s a b ++ l) := by
 unfold midL
 simp only [List.append_assoc]
 refine og_prodS (by omega) h_a.1 h_b.2.2 h_b.1 h_a.2.2 ?_
 intro M1 s1 r1
 have g1_a := Rt.sub h_a s1
 have g1_b := Rt.sub h_b s1
 refine og_prodS (by omega) g1_a.2.1 g1_b.2.2 g1_b.2.1 g1_a.2.2 ?_
 intro M2 s2 r2
 have g2_a := Rt.sub g1_a s2
 have g2_b := Rt.sub g1_b s2
 have g2_x := Rs.sub r1 s2
 refine og_mul (by omega) g2_a.2.2 g2_b.2.2 ?_
 intro M3 s3 r3
 have g3_x := Rs.sub g2_x s3
 have g3_y := Rs.sub r2 s3
 refine og_add (by omega) r3 r3 ?_
 intro M4 s4 r4
 have g4_x := Rs.sub g3_x s4
 have g4_y := Rs.sub g3_y s4
 exact k _ (((s1.trans s2).trans s3).trans s4) ⟨g4_x,g4_y,r4⟩
theorem og_par {p m : Tr} (hs : s + 7 ≤ 128) (h_p : Rt M p) (h_m : Rt M m)
  (k : ∀ M',Sub M M' → Rt M' (parR s) → okG n M' l) : okG n M (parL s p m ++ l) := by
 unfold parL
 simp only [List.append_assoc]
 refine og_mul (by omega) h_m.1 h_p.2.2 ?_
 intro M1 s1 r1
 have g1_p := Rt.sub h_p s1
 have g1_m := Rt.sub h_m s1
 refine og_mul (by omega) g1_m.2.1 g1_p.2.2 ?_
 intro M2 s2 r2
 have g2_p := Rt.sub g1_p s2
 have g2_m := Rt.sub g1_m s2
 have g2_x := Rs.sub r1 s2
 refine og_prodS (by omega) g2_m.1 g2_p.1 g2_m.2.1 g2_p.2.1 ?_
 intro M3 s3 r3
 have g3_x := Rs.sub g2_x s3
 have g3_y := Rs.sub r2 s3
 refine og_neg (by omega) r3 ?_
 intro M4 s4 r4
 have g4_x := Rs.sub g3_x s4
 have g4_y := Rs.sub g3_y s4
 exact k _ (((s1.trans s2).trans s3).trans s4) ⟨g4_x,g4_y,r4⟩
theorem og_upr {p m : Tr} (hs : s + 9 ≤ 128) (h_p : Rt M p) (h_m : Rt M m)
  (k : ∀ M',Sub M M' → Rt M' (uprR s) → okG n M' l) : okG n M (uprL s p m ++ l) := by
 unfold uprL
 simp only [List.append_assoc]
 refine og_neg (by omega) h_m.1 ?_
 intro M1 s1 r1
 have g1_p := Rt.sub h_p s1
 have g1_m := Rt.sub h_m s1
 refine og_par (by omega) g1_p ⟨g1_m.2.1,r1,g1_m.2.2⟩ ?_
 intro M2 s2 r2
 exact k _ (s1.trans s2) ⟨r2.1,r2.2.1,r2.2.2⟩
theorem og_foot {p m : Tr} (hs : s + 18 ≤ 128) (h_p : Rt M p) (h_m : Rt M m)
  (k : ∀ M',Sub M M' → Rt M' (footR s) → okG n M' l) : okG n M (footL s p m ++ l) := by
 unfold footL
 simp only [List.append_assoc]
 refine og_upr (by omega) h_p h_m ?_
 intro M1 s1 r1
 have g1_m := Rt.sub h_m s1
 refine og_cross (by omega) r1 g1_m ?_
 intro M2 s2 r2
 exact k _ (s1.trans s2) ⟨r2.1,r2.2.1,r2.2.2⟩
theorem og_mir {p m : Tr} (hs : s + 27 ≤ 128) (h_p : Rt M p) (h_m : Rt M m)
  (k : ∀ M',Sub M M' → Rt M' (mirR s) → okG n M' l) : okG n M (mirL s p m ++ l) := by
 unfold mirL
 simp only [List.append_assoc]
 refine og_foot (by omega) h_p h_m ?_
 intro M1 s1 r1
 have g1_p := Rt.sub h_p s1
 refine og_add (by omega) r1.1 r1.1 ?_
 intro M2 s2 r2
 have g2_p := Rt.sub g1_p s2
 have g2_f := Rt.sub r1 s2
 refine og_add (by omega) g2_f.2.1 g2_f.2.1 ?_
 intro M3 s3 r3
 have g3_p := Rt.sub g2_p s3
 have g3_f := Rt.sub g2_f s3
 have g3_tx := Rs.sub r2 s3
 refine og_prodD (by omega) g3_tx g3_p.2.2 g3_p.1 g3_f.2.2 ?_
 intro M4 s4 r4
 have g4_p := Rt.sub g3_p s4
 have g4_f := Rt.sub g3_f s4
 have g4_ty := Rs.sub r3 s4
 refine og_prodD (by omega) g4_ty g4_p.2.2 g4_p.2.1 g4_f.2.2 ?_
 intro M5 s5 r5
 have g5_p := Rt.sub g4_p s5
 have g5_f := Rt.sub g4_f s5
 have g5_x := Rs.sub r4 s5
 refine og_mul (by omega) g5_f.2.2 g5_p.2.2 ?_
 intro M6 s6 r6
 have g6_x := Rs.sub g5_x s6
 have g6_y := Rs.sub r5 s6
 exact k _ (((((s1.trans s2).trans s3).trans s4).trans s5).trans s6) ⟨g6_x,g6_y,r6⟩
theorem og_hal {a b : Tr} (hs : s + 26 ≤ 128) (h_a : Rt M a) (h_b : Rt M b)
  (k : ∀ M',Sub M M' → Rt M' (halR s) → okG n M' l) : okG n M (halL s a b ++ l) := by
 unfold halL
 simp only [List.append_assoc]
 refine og_mid (by omega) h_a h_b ?_
 intro M1 s1 r1
 have g1_a := Rt.sub h_a s1
 have g1_b := Rt.sub h_b s1
 refine og_cross (by omega) g1_a g1_b ?_
 intro M2 s2 r2
 have g2_m := Rt.sub r1 s2
 refine og_upr (by omega) g2_m r2 ?_
 intro M3 s3 r3
 exact k _ ((s1.trans s2).trans s3) ⟨r3.1,r3.2.1,r3.2.2⟩
theorem og_cen {a b c : Tr} (hs : s + 61 ≤ 128) (h_a : Rt M a) (h_b : Rt M b) (h_c : Rt M c)
  (k : ∀ M',Sub M M' → Rt M' (cenR s) → okG n M' l) : okG n M (cenL s a b c ++ l) := by
 unfold cenL
 simp only [List.append_assoc]
 refine og_hal (by omega) h_a h_b ?_
 intro M1 s1 r1
 have g1_a := Rt.sub h_a s1
 have g1_c := Rt.sub h_c s1
 refine og_hal (by omega) g1_a g1_c ?_
 intro M2 s2 r2
 have g2_f := Rt.sub r1 s2
 refine og_cross (by omega) g2_f r2 ?_
 intro M3 s3 r3
 exact k _ ((s1.trans s2).trans s3) ⟨r3.1,r3.2.1,r3.2.2⟩
theorem og_way {a b : Tr} (hs : s + 7 ≤ 128) (h_a : Rt M a) (h_b : Rt M b)
  (k : ∀ M',Sub M M' → Rt M' (wayR s) → okG n M' l) : okG n M (wayL s a b ++ l) := by
 unfold wayL
 simp only [List.append_assoc]
 refine og_prodD (by omega) h_b.1 h_a.2.2 h_a.1 h_b.2.2 ?_
 intro M1 s1 r1
 have g1_a := Rt.sub h_a s1
 have g1_b := Rt.sub h_b s1
 refine og_prodD (by omega) g1_b.2.1 g1_a.2.2 g1_a.2.1 g1_b.2.2 ?_
 intro M2 s2 r2
 have g2_a := Rt.sub g1_a s2
 have g2_b := Rt.sub g1_b s2
 have g2_x := Rs.sub r1 s2
 refine og_mul (by omega) g2_a.2.2 g2_b.2.2 ?_
 intro M3 s3 r3
 have g3_x := Rs.sub g2_x s3
 have g3_y := Rs.sub r2 s3
 exact k _ ((s1.trans s2).trans s3) ⟨g3_x,g3_y,r3⟩
theorem og_lif {p : Tr} (hs : s + 5 ≤ 128) (h_p : Rt M p)
  (k : ∀ M',Sub M M' → Rt M' (lifR s) → okG n M' l) : okG n M (lifL s p ++ l) := by
 unfold lifL
 simp only [List.append_assoc]
 refine og_mul (by omega) h_p.1 h_p.2.2 ?_
 intro M1 s1 r1
 have g1_p := Rt.sub h_p s1
 refine og_mul (by omega) g1_p.2.1 g1_p.2.2 ?_
 intro M2 s2 r2
 have g2_p := Rt.sub g1_p s2
 have g2_x := Rs.sub r1 s2
 refine og_prodS (by omega) g2_p.1 g2_p.1 g2_p.2.1 g2_p.2.1 ?_
 intro M3 s3 r3
 have g3_x := Rs.sub g2_x s3
 have g3_y := Rs.sub r2 s3
 exact k _ ((s1.trans s2).trans s3) ⟨g3_x,g3_y,r3⟩
theorem og_btw {a b c : Tr} (hs : s + 38 ≤ 128) (h_a : Rt M a) (h_b : Rt M b) (h_c : Rt M c)
  (k : ∀ M',Sub M M' → Rs M' (s + 37) → okG n M' l) : okG n M (btwL s a b c ++ l) := by
 unfold btwL
 simp only [List.append_assoc]
 refine og_vol (by omega) h_a h_b h_c ?_
 intro M1 s1 r1
 have g1_a := Rt.sub h_a s1
 have g1_b := Rt.sub h_b s1
 have g1_c := Rt.sub h_c s1
 refine og_isn (by omega) r1 ?_
 intro M2 s2 r2
 have g2_a := Rt.sub g1_a s2
 have g2_b := Rt.sub g1_b s2
 have g2_c := Rt.sub g1_c s2
 refine og_way (by omega) g2_b g2_a ?_
 intro M3 s3 r3
 have g3_b := Rt.sub g2_b s3
 have g3_c := Rt.sub g2_c s3
 have g3_st := Rs.sub r2 s3
 refine og_way (by omega) g3_b g3_c ?_
 intro M4 s4 r4
 have g4_st := Rs.sub g3_st s4
 have g4_bk := Rt.sub r3 s4
 refine og_prodS (by omega) g4_bk.1 r4.1 g4_bk.2.1 r4.2.1 ?_
 intro M5 s5 r5
 have g5_st := Rs.sub g4_st s5
 refine og_neg (by omega) r5 ?_
 intro M6 s6 r6
 have g6_st := Rs.sub g5_st s6
 refine og_mul (by omega) g6_st r6 ?_
 intro M7 s7 r7
 exact k _ ((((((s1.trans s2).trans s3).trans s4).trans s5).trans s6).trans s7) r7
theorem og_rnd {a b c d : Tr} (hs : s + 50 ≤ 128) (h_a : Rt M a) (h_b : Rt M b) (h_c : Rt M c) (h_d : Rt M d)
  (k : ∀ M',Sub M M' → Rs M' (s + 49) → okG n M' l) : okG n M (rndL s a b c d ++ l) := by
 unfold rndL
 simp only [List.append_assoc]
 refine og_way (by omega) h_a h_b ?_
 intro M1 s1 r1
 have g1_a := Rt.sub h_a s1
 have g1_c := Rt.sub h_c s1
 have g1_d := Rt.sub h_d s1
 refine og_way (by omega) g1_a g1_c ?_
 intro M2 s2 r2
 have g2_a := Rt.sub g1_a s2
 have g2_d := Rt.sub g1_d s2
 have g2_tb := Rt.sub r1 s2
 refine og_way (by omega) g2_a g2_d ?_
 intro M3 s3 r3
 have g3_tb := Rt.sub g2_tb s3
 have g3_tc := Rt.sub r2 s3
 refine og_lif (by omega) g3_tb ?_
 intro M4 s4 r4
 have g4_tc := Rt.sub g3_tc s4
 have g4_td := Rt.sub r3 s4
 refine og_lif (by omega) g4_tc ?_
 intro M5 s5 r5
 have g5_td := Rt.sub g4_td s5
 have g5_lb := Rt.sub r4 s5
 refine og_lif (by omega) g5_td ?_
 intro M6 s6 r6
 have g6_lb := Rt.sub g5_lb s6
 have g6_lc := Rt.sub r5 s6
 refine og_vol (by omega) g6_lb g6_lc r6 ?_
 intro M7 s7 r7
 exact k _ ((((((s1.trans s2).trans s3).trans s4).trans s5).trans s6).trans s7) r7
theorem og_sam {a b : Tr} (hs : s + 10 ≤ 128) (h_a : Rt M a) (h_b : Rt M b)
  (k : ∀ M',Sub M M' → Rs M' (s + 9) → okG n M' l) : okG n M (samL s a b ++ l) := by
 unfold samL
 simp only [List.append_assoc]
 refine og_way (by omega) h_a h_b ?_
 intro M1 s1 r1
 refine og_prodS (by omega) r1.1 r1.1 r1.2.1 r1.2.1 ?_
 intro M2 s2 r2
 exact k _ (s1.trans s2) r2
theorem og_kp3 {m : Tr} {f k : Nat} (hk : k < 16) (hm' : Rt M m) (hf : Rs M f) (kk : ∀ M',Sub M M' → Rt M' (hm k) → okG n M' l) : okG n M (kp3 f m k ++ l) := by
 refine og_mul (by omega) hm'.1 hf ?_
 intro M1 s1 r1
 refine og_mul (by omega) (hm'.2.1.sub s1) (hf.sub s1) ?_
 intro M2 s2 r2
 refine og_mul (by omega) ((hm'.2.2.sub s1).sub s2) ((hf.sub s1).sub s2) ?_
 intro M3 s3 r3
 exact kk _ ((s1.trans s2).trans s3) ⟨(r1.sub s2).sub s3,r2.sub s3,r3⟩
theorem og_kpP {m : Tr} {f k : Nat} (hs : f < 128) (hk : k < 16) (hm' : Rt M m) (kk : ∀ M',Sub M M' → Rt M' (hm k) → okG n M' l) : okG n M (kpP f m k ++ l) := by
 refine og_sgn hs hm'.2.2 ?_
 intro M1 s1 r1
 exact og_kp3 hk (hm'.sub s1) r1 (fun M2 s2 r2 => kk _ (s1.trans s2) r2)
theorem og_kpL {m : Tr} {f k : Nat} (hs : f < 128) (hk : k < 16) (hm' : Rt M m) (kk : ∀ M',Sub M M' → Rt M' (hm k) → okG n M' l) : okG n M (kpL f m k ++ l) := by
 refine og_con hs (by omega) ?_
 intro M1 s1 r1
 exact og_kp3 hk (hm'.sub s1) r1 (fun M2 s2 r2 => kk _ (s1.trans s2) r2)
def Homes (C : List Cmd) (M : Nat → Bool) : Prop := ∀ j (h : j < C.length),srt C[j] ≠ 63 → Rt M (hm j)
theorem Homes.P {C : List Cmd} (h : Homes C M) {j : Nat} (hj : isP C j) : Rt M (hm j) := h j hj.1 (by rw [hj.2]; omega)
theorem Homes.L {C : List Cmd} (h : Homes C M) {j : Nat} (hj : isLn C j) : Rt M (hm j) := h j hj.1 (by rw [hj.2]; omega)
theorem Homes.next {C : List Cmd} {c : Cmd} {M' : Nat → Bool} (h : Homes C M) (k : Sub M M') (hc : srt c ≠ 63 → Rt M' (hm C.length)) : Homes (C ++ [c]) M' := by
 intro j hj hs
 by_cases hl : j < C.length
 ·rw [List.getElem_append_left hl] at hs; exact (h j hl hs).sub k
 ·have : j = C.length := by simp at hj; omega
  subst this
  exact hc (by simpa using hs)
theorem og_cmd {C : List Cmd} {i : Nat} (c : Cmd) (hk : C.length < 16) (hn : n ≤ 32) (hi : i + insC c ≤ n) (h : Homes C M) (hok : okC C c) (kk : ∀ M',Sub M M' → (srt c ≠ 63 → Rt M' (hm C.length)) → okG n M' l) : okG n M (cmdL C.length i c ++ l) := by
 cases c with
 | pt =>
  have hi2 : i + 2 ≤ n := hi
  refine og_in (by omega) (by omega) hn ?_
  intro M1 s1 r1
  refine og_in (by omega) (by omega) hn ?_
  intro M2 s2 r2
  refine og_con (by omega) (by omega) ?_
  intro M3 s3 r3
  refine og_kpP (m := givenR 48) (by omega) hk ⟨(r1.sub s2).sub s3,r2.sub s3,r3⟩ ?_
  intro M4 s4 r4
  exact kk _ (((s1.trans s2).trans s3).trans s4) (fun _ => r4)
 | mid a b =>
  unfold okC at hok
  unfold cmdL
  simp only [List.append_assoc]
  refine og_mid (by omega) (h.P hok.1) (h.P hok.2) ?_
  intro M1 s1 r1
  refine og_kpP (by omega) hk r1 ?_
  intro M2 s2 r2
  exact kk _ (s1.trans s2) (fun _ => r2)
 | line a b =>
  unfold okC at hok
  unfold cmdL
  simp only [List.append_assoc,List.cons_append]
  refine og_cross (by omega) (h.P hok.1) (h.P hok.2) ?_
  intro M1 s1 r1
  refine og_prodS (by omega) r1.1 r1.1 r1.2.1 r1.2.1 ?_
  intro M2 s2 r2
  refine og_stop r2 (by omega) hk ?_
  refine og_kpL (by omega) hk (r1.sub s2) ?_
  intro M3 s3 r3
  exact kk _ ((s1.trans s2).trans s3) (fun _ => r3)
 | par a b =>
  unfold okC at hok
  unfold cmdL
  simp only [List.append_assoc]
  refine og_par (by omega) (h.P hok.1) (h.L hok.2) ?_
  intro M1 s1 r1
  refine og_kpL (by omega) hk r1 ?_
  intro M2 s2 r2
  exact kk _ (s1.trans s2) (fun _ => r2)
 | perp a b =>
  unfold okC at hok
  unfold cmdL
  simp only [List.append_assoc]
  refine og_upr (by omega) (h.P hok.1) (h.L hok.2) ?_
  intro M1 s1 r1
  refine og_kpL (by omega) hk r1 ?_
  intro M2 s2 r2
  exact kk _ (s1.trans s2) (fun _ => r2)
 | meet a b =>
  unfold okC at hok
  unfold cmdL
  simp only [List.append_assoc,List.cons_append]
  refine og_cross (by omega) (h.L hok.1) (h.L hok.2) ?_
  intro M1 s1 r1
  refine og_stop r1.2.2 (by omega) hk ?_
  refine og_kpP (by omega) hk r1 ?_
  intro M2 s2 r2
  exact kk _ (s1.trans s2) (fun _ => r2)
 | foot a b =>
  unfold okC at hok
  unfold cmdL
  simp only [List.append_assoc]
  refine og_foot (by omega) (h.P hok.1) (h.L hok.2) ?_
  intro M1 s1 r1
  refine og_kpP (by omega) hk r1 ?_
  intro M2 s2 r2
  exact kk _ (s1.trans s2) (fun _ => r2)
 | mirror a b =>
  unfold okC at hok
  unfold cmdL
  simp only [List.append_assoc]
  refine og_mir (by omega) (h.P hok.1) (h.L hok.2) ?_
  intro M1 s1 r1
  refine og_kpP (by omega) hk r1 ?_
  intro M2 s2 r2
  exact kk _ (s1.trans s2) (fun _ => r2)
 | centre a b c =>
  unfold okC at hok
  unfold cmdL
  simp only [List.append_assoc,List.cons_append]
  refine og_cen (by omega) (h.P hok.1) (h.P hok.2.1) (h.P hok.2.2) ?_
  intro M1 s1 r1
  refine og_stop r1.2.2 (by omega) hk ?_
  refine og_kpP (by omega) hk r1 ?_
  intro M2 s2 r2
  exact kk _ (s1.trans s2) (fun _ => r2)
 | same a b =>
  unfold okC at hok
  unfold cmdL
  simp only [List.append_assoc]
  refine og_sam (by omega) (h.P hok.1) (h.P hok.2) ?_
  intro M1 s1 r1
  refine og_isn (by omega) r1 ?_
  intro M2 s2 r2
  refine og_out r2 ?_
  exact kk _ (s1.trans s2) (fun hh => absurd rfl hh)
 | col a b c =>
  unfold okC at hok
  unfold cmdL
  simp only [List.append_assoc]
  refine og_vol (by omega) (h.P hok.1) (h.P hok.2.1) (h.P hok.2.2) ?_
  intro M1 s1 r1
  refine og_isn (by omega) r1 ?_
  intro M2 s2 r2
  refine og_out r2 ?_
  exact kk _ (s1.trans s2) (fun hh => absurd rfl hh)
 | ccw a b c =>
  unfold okC at hok
  unfold cmdL
  simp only [List.append_assoc]
  refine og_vol (by omega) (h.P hok.1) (h.P hok.2.1) (h.P hok.2.2) ?_
  intro M1 s1 r1
  refine og_out r1 ?_
  exact kk _ s1 (fun hh => absurd rfl hh)
 | btw a b c =>
  unfold okC at hok
  unfold cmdL
  simp only [List.append_assoc]
  refine og_btw (by omega) (h.P hok.1) (h.P hok.2.1) (h.P hok.2.2) ?_
  intro M1 s1 r1
  refine og_out r1 ?_
  exact kk _ s1 (fun hh => absurd rfl hh)
 | con a b c d =>
  unfold okC at hok
  unfold cmdL
  simp only [List.append_assoc]
  refine og_rnd (by omega) (h.P hok.1) (h.P hok.2.1) (h.P hok.2.2.1) (h.P hok.2.2.2) ?_
  intro M1 s1 r1
  refine og_isn (by omega) r1 ?_
  intro M2 s2 r2
  refine og_out r2 ?_
  exact kk _ (s1.trans s2) (fun hh => absurd rfl hh)
 | on a b =>
  unfold okC at hok
  unfold cmdL
  simp only [List.append_assoc]
  refine og_dot (by omega) (h.P hok.1) (h.L hok.2) ?_
  intro M1 s1 r1
  refine og_isn (by omega) r1 ?_
  intro M2 s2 r2
  refine og_out r2 ?_
  exact kk _ (s1.trans s2) (fun hh => absurd rfl hh)
 | cc a b c =>
  unfold okC at hok
  unfold cmdL
  simp only [List.append_assoc]
  refine og_vol (by omega) (h.L hok.1) (h.L hok.2.1) (h.L hok.2.2) ?_
  intro M1 s1 r1
  refine og_isn (by omega) r1 ?_
  intro M2 s2 r2
  refine og_out r2 ?_
  exact kk _ (s1.trans s2) (fun hh => absurd rfl hh)
 | pll a b =>
  unfold okC at hok
  unfold cmdL
  simp only [List.append_assoc]
  refine og_prodD (by omega) (h.L hok.1).1 (h.L hok.2).2.1 (h.L hok.1).2.1 (h.L hok.2).1 ?_
  intro M1 s1 r1
  refine og_isn (by omega) r1 ?_
  intro M2 s2 r2
  refine og_out r2 ?_
  exact kk _ (s1.trans s2) (fun hh => absurd rfl hh)
 | prp a b =>
  unfold okC at hok
  unfold cmdL
  simp only [List.append_assoc]
  refine og_prodS (by omega) (h.L hok.1).1 (h.L hok.2).1 (h.L hok.1).2.1 (h.L hok.2).2.1 ?_
  intro M1 s1 r1
  refine og_isn (by omega) r1 ?_
  intro M2 s2 r2
  refine og_out r2 ?_
  exact kk _ (s1.trans s2) (fun hh => absurd rfl hh)
end
theorem og_cmds {n : Nat} (hn : n ≤ 32) : ∀ (r C : List Cmd) (W : List Nat) (i : Nat) (M : Nat → Bool),Homes C M → Wf C W r → C.length + r.length ≤ 16 → i + cntI r ≤ n → okG n M (cmdsL r C.length i)
 | [],_,_,_,_,_,_,_,_ => trivial
 | c :: r,C,W,i,M,h,hw,hl,hi => by
  obtain ⟨h1,-,h3⟩ := hw
  simp only [cntI,List.map_cons,List.sum_cons] at hi
  simp only [List.length_cons] at hl
  refine og_cmd c (by omega) hn (by omega) h h1 ?_
  intro M' s' hc
  have := og_cmds hn r (C ++ [c]) _ (i + insC c) M' (h.next s' hc) h3 (by simp; omega) (by unfold cntI; omega)
  simpa using this
theorem cmdL_len (k i : Nat) (c : Cmd) : (cmdL k i c).length ≤ 70 := by cases c <;> exact Nat.le_of_ble_eq_true rfl
theorem cmdsL_len : ∀ (r : List Cmd) (k i : Nat),(cmdsL r k i).length ≤ 70 * r.length
 | [],_,_ => Nat.le_refl _
 | c :: r,k,i => by
  have h1 := cmdL_len k i c
  have h2 := cmdsL_len r (k + 1) (i + insC c)
  simp only [cmdsL,List.length_append,List.length_cons]
  omega
structure Made (l : List St) : Prop where
 len : (cmdsL (cmds l) 0 0).length ≤ 1120
 ok : okG (cntI (cmds l)) (fun _ => false) (cmdsL (cmds l) 0 0)
 n32 : cntI (cmds l) ≤ 32
theorem cntI_le : ∀ r : List Cmd,cntI r ≤ 2 * r.length
 | [] => Nat.le_refl _
 | c :: r => by
  have h1 : insC c ≤ 2 := by cases c <;> exact Nat.le_of_ble_eq_true rfl
  have h2 := cntI_le r
  simp only [cntI,List.map_cons,List.sum_cons,List.length_cons] at *
  omega
theorem made_any {p : List (St × Nat)} (h : Ok p) (hl : p.length ≤ 16) : Made (sts p) := by
 have e := cmds_len (p := p)
 have h32 : cntI (cmds (sts p)) ≤ 32 := by have := cntI_le (cmds (sts p)); omega
 refine ⟨by have := cmdsL_len (cmds (sts p)) 0 0; omega,?_,h32⟩
 exact og_cmds h32 (cmds (sts p)) [] [] 0 _ (fun j hj => by simp at hj) (wf_cmds h) (by simp; omega) (by omega)
end Go.Proofs.YtmnfndpbblpjiabGreatDoor.Pu

/- Right steps are good ones; the range of inputs: plain. -/
namespace Go.Proofs.YtmnfndpbblpjiabGreatDoor
open Go.RowKit Pu
theorem Pu.right_good {l : List Stp} {k : Nat} {t : Stp} {regs ins : Nat} (hs : Small t) (hr : regs ≤ 128) (h : rightB l k t regs ins = true) : Good ins t := by
 unfold rightB at h
 rw [proper_fit] at h
 simp only [Bool.and_eq_true,decide_eq_true_eq,List.all_eq_true] at h
 obtain ⟨⟨ho,hx⟩,hr2⟩ := h
 have h7 : t.op ≤ 7 := by
  refine Nat.le_of_not_lt fun hh => ?_
  simp [opFit,show ¬ t.op = 0 by omega,show ¬ t.op = 1 by omega,show ¬ t.op = 2 by omega,show ¬ t.op = 3 by omega,show ¬ t.op = 4 by omega,show ¬ t.op = 5 by omega,show ¬ t.op = 6 by omega,show ¬ t.op = 7 by omega] at ho
 refine ⟨hs,h7,by omega,fun h => ?_,fun h => ?_,fun h => ?_,fun h => ?_⟩
 ·have := (hr2 t.y (by simp [readsOf,h])).1; omega
 ·have := (hr2 t.z (by simp [readsOf,h])).1; omega
 ·simp [opFit,h] at ho; exact ho.1
 ·simp [opFit,h] at ho; exact ho
theorem Pu.inpSt_range {s : ByteArray} : ∀ (k f : Nat) (l : List Int),inpSt s k = some (f,l) → ∀ x ∈ l,-99 ≤ x ∧ x ≤ 99 := by
 intro k
 induction k with
 | zero => intro f l h; simp [inpSt] at h; rw [h.2]; intro x hx; cases hx
 | succ k ih =>
  intro f l h
  simp only [inpSt] at h
  split at h
  ·cases h
  ·rename_i f' l' hk
   split at h
   ·split at h
    ·rename_i n hn
     simp at h
     obtain ⟨-,rfl⟩ := h
     intro x hx
     rcases List.mem_append.1 hx with hx | hx
     ·exact ih f' l' hk x hx
     ·simp at hx; subst hx; exact numer_range hn
    ·cases h
   ·simp at h
    obtain ⟨-,rfl⟩ := h
    exact ih f' l' hk
theorem Pu.inps_range {s : ByteArray} {l : List Int} (h : inps s = some l) : ∀ x ∈ l,-100 < x ∧ x < 100 := by
 unfold inps at h
 split at h
 ·simp at h; subst h; intro x hx; cases hx
 ·simp at h
  obtain ⟨f,hf⟩ := h
  intro x hx
  have := inpSt_range _ f l hf x hx
  omega
end Go.Proofs.YtmnfndpbblpjiabGreatDoor

/- Of the statements of a source: how many there are, and that their words stand in it: plain. -/
namespace Go.Proofs.YtmnfndpbblpjiabGreatDoor.Pu
theorem nx_inv {y x : Sc} {c : Nat} (h : nx y c = some x) :
  (y.st = 0 ∧ y.n ≠ 16 ∧ c = 63 ∧ x = ⟨2,y.n,y.le,y.ar⟩) ∨ (y.st = 0 ∧ y.n ≠ 16 ∧ isL c = true ∧ x = ⟨1,y.n,y.le,y.ar⟩) ∨ (y.st = 1 ∧ c = 61 ∧ x = ⟨2,y.n,y.le,y.ar⟩) ∨ (y.st = 2 ∧ isL c = true ∧ x = ⟨3,y.n,1,y.ar⟩) ∨
  (y.st = 3 ∧ isL c = true ∧ x = ⟨3,y.n,y.le + 1,y.ar⟩) ∨ (y.st = 3 ∧ c = 40 ∧ x = ⟨4,y.n,y.le,0⟩) ∨ (y.st = 4 ∧ isL c = true ∧ x = ⟨5,y.n,y.le,y.ar + 1⟩) ∨ (y.st = 4 ∧ c = 41 ∧ x = ⟨7,y.n,y.le,y.ar⟩) ∨
  (y.st = 5 ∧ c = 41 ∧ x = ⟨7,y.n,y.le,y.ar⟩) ∨ (y.st = 5 ∧ c = 44 ∧ x = ⟨6,y.n,y.le,y.ar⟩) ∨ (y.st = 6 ∧ isL c = true ∧ x = ⟨5,y.n,y.le,y.ar + 1⟩) ∨ (y.st = 7 ∧ c = 59 ∧ x = ⟨0,y.n + 1,y.le,y.ar⟩) := by
 unfold nx at h
 by_cases h0 : y.st = 0
 ·rw [if_pos h0] at h
  by_cases h1 : y.n = 16
  ·simp [h1] at h
  ·by_cases h2 : c = 63
   ·simp [h1,h2] at h; simp [h0,h1,h2,h]
   ·by_cases h3 : isL c = true
    ·simp [h1,h2,h3] at h; simp [h0,h1,h3,h]
    ·simp [h1,h2,h3] at h
 rw [if_neg h0] at h
 by_cases h1 : y.st = 1
 ·rw [if_pos h1] at h
  by_cases h2 : c = 61
  ·simp [h2] at h; simp [h1,h2,h]
  ·simp [h2] at h
 rw [if_neg h1] at h
 by_cases h2 : y.st = 2
 ·rw [if_pos h2] at h
  by_cases h3 : isL c = true
  ·simp [h3] at h; simp [h2,h3,h]
  ·simp [h3] at h
 rw [if_neg h2] at h
 by_cases h3 : y.st = 3
 ·rw [if_pos h3] at h
  by_cases h4 : isL c && decide (y.le < 6)
  ·rw [if_pos h4] at h
   simp at h4 h
   simp [h3,h4.1,h]
  ·rw [if_neg h4] at h
   by_cases h5 : c = 40
   ·simp [h5] at h; simp [h3,h5,h]
   ·simp [h5] at h
 rw [if_neg h3] at h
 by_cases h4 : y.st = 4
 ·rw [if_pos h4] at h
  by_cases h5 : isL c = true
  ·simp [h5] at h; simp [h4,h5,h]
  ·by_cases h6 : c = 41
   ·simp [h6,isL] at h; simp [h4,h6,h]
   ·simp [h5,h6] at h
 rw [if_neg h4] at h
 by_cases h5 : y.st = 5
 ·rw [if_pos h5] at h
  by_cases h6 : c = 41
  ·simp [h6] at h; simp [h5,h6,h]
  ·by_cases h7 : c = 44 ∧ y.ar < 4
   ·simp [h7] at h; simp [h5,h7.1,h]
   ·rw [if_neg h6,if_neg h7] at h; cases h
 rw [if_neg h5] at h
 by_cases h6 : y.st = 6
 ·rw [if_pos h6] at h
  by_cases h7 : isL c = true
  ·simp [h7] at h; simp [h6,h7,h]
  ·simp [h7] at h
 rw [if_neg h6] at h
 by_cases h7 : y.st = 7
 ·rw [if_pos h7] at h
  by_cases h8 : c = 59
  ·simp [h8] at h; simp [h7,h8,h]
  ·simp [h8] at h
 ·rw [if_neg h7] at h; cases h
def InS (s : ByteArray) (i : Nat) (wd : List UInt8) : Prop := i + wd.length ≤ s.size ∧ ∀ j (hj : j < wd.length),bt s (i + j) = wd[j]
theorem InS.nil (s : ByteArray) {i : Nat} (h : i ≤ s.size) : InS s i [] := ⟨by simpa using h,fun j hj => by simp at hj⟩
theorem InS.snoc {s : ByteArray} {i : Nat} {wd : List UInt8} (h : InS s i wd) (hk : i + wd.length < s.size) : InS s i (wd ++ [bt s (i + wd.length)]) := by
 refine ⟨by simp; omega,fun j hj => ?_⟩
 by_cases e : j < wd.length
 ·rw [List.getElem_append_left e]; exact h.2 j e
 ·have : j = wd.length := by simp at hj; omega
  subst this
  simp
structure GaI (s : ByteArray) (k : Nat) (x : Sc) : Prop where
 cnt : (gaA s k).l.length = x.n
 n16 : x.n ≤ 16 ∧ (x.st ≠ 0 → x.n < 16)
 ins : (gaA s k).ins = true ↔ (x.st = 4 ∨ x.st = 5 ∨ x.st = 6)
 old : ∀ y ∈ (gaA s k).l,∃ i,InS s i y.word
 wd2 : x.st = 2 → (gaA s k).x.word = []
 wd3 : x.st = 3 → (gaA s k).x.word.length ≤ k ∧ InS s (k - (gaA s k).x.word.length) (gaA s k).x.word
 wd4 : 4 ≤ x.st → ∃ i,InS s i (gaA s k).x.word
theorem ga_inv (s : ByteArray) : ∀ (k : Nat) (x : Sc),k ≤ s.size → stA s k = some x → GaI s k x := by
 intro k
 induction k with
 | zero =>
  intro x _ h
  have : x = ⟨0,0,0,0⟩ := (Option.some.inj h).symm
  subst this
  exact ⟨rfl,⟨by decide,fun h => absurd rfl h⟩,by simp [gaA],fun y hy => by simp [gaA] at hy,fun h => by simp at h,fun h => by simp at h,fun h => by simp at h⟩
 | succ k ih =>
  intro x hk h
  obtain ⟨y,hy,hn⟩ := stA_back h
  obtain ⟨c1,c2,c3,c4,c5,c6,c7⟩ := ih y (by omega) hy
  have hl : isL (g s k) = true → 97 ≤ g s k ∧ g s k ≤ 122 := (isL_iff _).1
  have hA : gaA s (k + 1) = gaStep s k (gaA s k) := rfl
  rcases nx_inv hn with ⟨a,b,c,rfl⟩ | ⟨a,b,c,rfl⟩ | ⟨a,c,rfl⟩ | ⟨a,c,rfl⟩ | ⟨a,c,rfl⟩ | ⟨a,c,rfl⟩ | ⟨a,c,rfl⟩ | ⟨a,c,rfl⟩ | ⟨a,c,rfl⟩ | ⟨a,c,rfl⟩ | ⟨a,c,rfl⟩ | ⟨a,c,rfl⟩
  ·have hG : gaStep s k (gaA s k) = ⟨(gaA s k).l,⟨(gaA s k).x.name,[],(gaA s k).x.args⟩,(gaA s k).ins⟩ := by simp [gaStep,c]
   constructor
   all_goals (simp only [hA,hG])
   ·exact c1
   ·exact ⟨c2.1,fun _ => by omega⟩
   ·rw [c3]; simp [a]
   ·exact c4
   ·intro _; trivial
   ·intro h; simp at h
   ·intro h; simp at h
  ·have hc := hl c
   have hi : (gaA s k).ins = false := by
    cases hh : (gaA s k).ins with
    | false => rfl
    | true => rw [hh] at c3; simp [a] at c3
   have hG : gaStep s k (gaA s k) = ⟨(gaA s k).l,⟨(gaA s k).x.name,(gaA s k).x.word ++ [bt s k],(gaA s k).x.args⟩,false⟩ := by
    simp [gaStep,c,hi,show g s k ≠ 61 by omega,show g s k ≠ 63 by omega,show g s k ≠ 40 by omega,show g s k ≠ 41 by omega,show g s k ≠ 59 by omega]
   constructor
   all_goals (simp only [hA,hG])
   ·exact c1
   ·exact ⟨c2.1,fun _ => by omega⟩
   ·simp
   ·exact c4
   ·intro h; simp at h
   ·intro h; simp at h
   ·intro h; simp at h
  ·have hG : gaStep s k (gaA s k) = ⟨(gaA s k).l,⟨g s (k - 1),[],(gaA s k).x.args⟩,(gaA s k).ins⟩ := by simp [gaStep,c]
   constructor
   all_goals (simp only [hA,hG])
   ·exact c1
   ·exact ⟨c2.1,fun _ => c2.2 (by omega)⟩
   ·rw [c3]; simp [a]
   ·exact c4
   ·intro _; trivial
   ·intro h; simp at h
   ·intro h; simp at h
  ·have hc := hl c
   have hi : (gaA s k).ins = false := by
    cases hh : (gaA s k).ins with
    | false => rfl
    | true => rw [hh] at c3; simp [a] at c3
   have hw := c5 a
   have hG : gaStep s k (gaA s k) = ⟨(gaA s k).l,⟨(gaA s k).x.name,[bt s k],(gaA s k).x.args⟩,false⟩ := by
    simp [gaStep,c,hi,hw,show g s k ≠ 61 by omega,show g s k ≠ 63 by omega,show g s k ≠ 40 by omega,show g s k ≠ 41 by omega,show g s k ≠ 59 by omega]
   constructor
   all_goals (simp only [hA,hG])
   ·exact c1
   ·exact ⟨c2.1,fun _ => c2.2 (by omega)⟩
   ·simp
   ·exact c4
   ·intro h; simp at h
   ·intro _
    have := (InS.nil s (i := k) (by omega)).snoc (by simp; omega)
    simpa using this
   ·intro h; simp at h
  ·have hc := hl c
   have hi : (gaA s k).ins = false := by
    cases hh : (gaA s k).ins with
    | false => rfl
    | true => rw [hh] at c3; simp [a] at c3
   obtain ⟨w1,w2⟩ := c6 a
   have hG : gaStep s k (gaA s k) = ⟨(gaA s k).l,⟨(gaA s k).x.name,(gaA s k).x.word ++ [bt s k],(gaA s k).x.args⟩,false⟩ := by
    simp [gaStep,c,hi,show g s k ≠ 61 by omega,show g s k ≠ 63 by omega,show g s k ≠ 40 by omega,show g s k ≠ 41 by omega,show g s k ≠ 59 by omega]
   constructor
   all_goals (simp only [hA,hG])
   ·exact c1
   ·exact ⟨c2.1,fun _ => c2.2 (by omega)⟩
   ·simp
   ·exact c4
   ·intro h; simp at h
   ·intro _
    have e : k - (gaA s k).x.word.length + (gaA s k).x.word.length = k := by omega
    have := w2.snoc (by omega)
    rw [e] at this
    refine ⟨by simp; omega,?_⟩
    rw [show k + 1 - ((gaA s k).x.word ++ [bt s k]).length = k - (gaA s k).x.word.length by simp]
    exact this
   ·intro h; simp at h
  ·have hG : gaStep s k (gaA s k) = ⟨(gaA s k).l,(gaA s k).x,true⟩ := by simp [gaStep,c]
   constructor
   all_goals (simp only [hA,hG])
   ·exact c1
   ·exact ⟨c2.1,fun _ => c2.2 (by omega)⟩
   ·simp
   ·exact c4
   ·intro h; simp at h
   ·intro h; simp at h
   ·intro _; exact ⟨_,(c6 a).2⟩
  ·have hc := hl c
   have hi : (gaA s k).ins = true := c3.2 (.inl a)
   have hG : gaStep s k (gaA s k) = ⟨(gaA s k).l,⟨(gaA s k).x.name,(gaA s k).x.word,(gaA s k).x.args ++ [bt s k]⟩,true⟩ := by
    simp [gaStep,c,hi,show g s k ≠ 61 by omega,show g s k ≠ 63 by omega,show g s k ≠ 40 by omega,show g s k ≠ 41 by omega,show g s k ≠ 59 by omega]
   constructor
   all_goals (simp only [hA,hG])
   ·exact c1
   ·exact ⟨c2.1,fun _ => c2.2 (by omega)⟩
   ·simp
   ·exact c4
   ·intro h; simp at h
   ·intro h; simp at h
   ·intro _; exact c7 (by omega)
  ·have hG : gaStep s k (gaA s k) = ⟨(gaA s k).l,(gaA s k).x,false⟩ := by simp [gaStep,c]
   constructor
   all_goals (simp only [hA,hG])
   ·exact c1
   ·exact ⟨c2.1,fun _ => c2.2 (by omega)⟩
   ·simp
   ·exact c4
   ·intro h; simp at h
   ·intro h; simp at h
   ·intro _; exact c7 (by omega)
  ·have hG : gaStep s k (gaA s k) = ⟨(gaA s k).l,(gaA s k).x,false⟩ := by simp [gaStep,c]
   constructor
   all_goals (simp only [hA,hG])
   ·exact c1
   ·exact ⟨c2.1,fun _ => c2.2 (by omega)⟩
   ·simp
   ·exact c4
   ·intro h; simp at h
   ·intro h; simp at h
   ·intro _; exact c7 (by omega)
  ·have hG : gaStep s k (gaA s k) = gaA s k := by simp [gaStep,c,isL]
   constructor
   all_goals (simp only [hA,hG])
   ·exact c1
   ·exact ⟨c2.1,fun _ => c2.2 (by omega)⟩
   ·rw [c3]; simp [a]
   ·exact c4
   ·intro h; simp at h
   ·intro h; simp at h
   ·intro _; exact c7 (by omega)
  ·have hc := hl c
   have hi : (gaA s k).ins = true := c3.2 (.inr (.inr a))
   have hG : gaStep s k (gaA s k) = ⟨(gaA s k).l,⟨(gaA s k).x.name,(gaA s k).x.word,(gaA s k).x.args ++ [bt s k]⟩,true⟩ := by
    simp [gaStep,c,hi,show g s k ≠ 61 by omega,show g s k ≠ 63 by omega,show g s k ≠ 40 by omega,show g s k ≠ 41 by omega,show g s k ≠ 59 by omega]
   constructor
   all_goals (simp only [hA,hG])
   ·exact c1
   ·exact ⟨c2.1,fun _ => c2.2 (by omega)⟩
   ·simp
   ·exact c4
   ·intro h; simp at h
   ·intro h; simp at h
   ·intro _; exact c7 (by omega)
  ·have hG : gaStep s k (gaA s k) = ⟨(gaA s k).l ++ [(gaA s k).x],⟨0,[],[]⟩,(gaA s k).ins⟩ := by simp [gaStep,c]
   have h15 := c2.2 (by omega)
   constructor
   all_goals (simp only [hA,hG])
   ·simp [c1]
   ·exact ⟨by omega,fun h => absurd rfl h⟩
   ·rw [c3]; simp [a]
   ·intro z hz
    rcases List.mem_append.1 hz with hz | hz
    ·exact c4 z hz
    ·simp at hz; subst hz; exact c7 (by omega)
   ·intro h; simp at h
   ·intro h; simp at h
   ·intro h; simp at h
theorem whole_count {s : ByteArray} (h : Whole s) : (gaA s s.size).l.length ≤ 16 ∧ ∀ y ∈ (gaA s s.size).l,∃ i,InS s i y.word := by
 obtain ⟨x,hx,-⟩ := h
 have hi := ga_inv s s.size x (Nat.le_refl _) hx
 exact ⟨by rw [hi.cnt]; exact hi.n16.1,hi.old⟩
end Go.Proofs.YtmnfndpbblpjiabGreatDoor.Pu

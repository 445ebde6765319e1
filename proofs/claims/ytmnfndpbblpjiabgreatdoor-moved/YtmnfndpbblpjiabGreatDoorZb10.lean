/- Statements of a right source, as commands; what is made of them. -/
import Derived.Deep.WholeRow
import Derived.Test.YtmnfndpbblpjiabGreatDoorZb07
import Derived.Test.YtmnfndpbblpjiabGreatDoorZb09
import Derived.Test.YtmnfndpbblpjiabGreatDoorZb08
import Derived.Test.YtmnfndpbblpjiabGreatDoorZb02
import Derived.Test.YtmnfndpbblpjiabGreatDoorZb01
import Derived.Test.YtmnfndpbblpjiabGreatDoorZb04
namespace Go.Proofs.YtmnfndpbblpjiabGreatDoor.Pu

theorem len2 {α : Type} {l : List α} (h : l.length = 2) : ∃ a b, l = [a, b] := by
  match l, h with
  | [a, b], _ => exact ⟨a, b, rfl⟩
theorem len3 {α : Type} {l : List α} (h : l.length = 3) : ∃ a b c, l = [a, b, c] := by
  match l, h with
  | [a, b, c], _ => exact ⟨a, b, c, rfl⟩
def ag (x : St) (j : Nat) : Nat := (x.args[j]?.getD 0).toNat
def ix (l : List St) (x : St) (j : Nat) : Nat := (gvI l (ag x j)).toNat

def cmdOf (l : List St) (x : St) : Cmd :=
  if x.word == [112, 116] then .pt else
  if x.word == [109, 105, 100] then .mid (ix l x 0) (ix l x 1) else
  if x.word == [108, 105, 110, 101] then .line (ix l x 0) (ix l x 1) else
  if x.word == [112, 97, 114] then .par (ix l x 0) (ix l x 1) else
  if x.word == [112, 101, 114, 112] then .perp (ix l x 0) (ix l x 1) else
  if x.word == [109, 101, 101, 116] then .meet (ix l x 0) (ix l x 1) else
  if x.word == [102, 111, 111, 116] then .foot (ix l x 0) (ix l x 1) else
  if x.word == [109, 105, 114, 114, 111, 114] then .mirror (ix l x 0) (ix l x 1) else
  if x.word == [99, 101, 110, 116, 114, 101] then .centre (ix l x 0) (ix l x 1) (ix l x 2) else
  if x.word == [115, 97, 109, 101] then .same (ix l x 0) (ix l x 1) else
  if x.word == [99, 111, 108] then .col (ix l x 0) (ix l x 1) (ix l x 2) else
  if x.word == [99, 99, 119] then .ccw (ix l x 0) (ix l x 1) (ix l x 2) else
  if x.word == [98, 116, 119] then .btw (ix l x 0) (ix l x 1) (ix l x 2) else
  if x.word == [99, 111, 110] then .con (ix l x 0) (ix l x 1) (ix l x 2) (ix l x 3) else
  if x.word == [111, 110] then .on (ix l x 0) (ix l x 1) else
  if x.word == [112, 108, 108] then .pll (ix l x 0) (ix l x 1) else
  if x.word == [112, 114, 112] then .prp (ix l x 0) (ix l x 1) else
  .cc (ix l x 0) (ix l x 1) (ix l x 2)
def cmds (l : List St) : List Cmd := l.map (cmdOf l)
theorem word_cases {w : List UInt8} (h : (fm w).2 ≠ 0) : w = [112, 116] ∨ w = [109, 105, 100] ∨ w = [108, 105, 110, 101] ∨ w = [112, 97, 114] ∨ w = [112, 101, 114, 112] ∨ w = [109, 101, 101, 116] ∨ w = [102, 111, 111, 116] ∨ w = [109, 105, 114, 114, 111, 114] ∨ w = [99, 101, 110, 116, 114, 101] ∨ w = [115, 97, 109, 101] ∨ w = [99, 111, 108] ∨ w = [99, 99, 119] ∨ w = [98, 116, 119] ∨ w = [99, 111, 110] ∨ w = [111, 110] ∨ w = [112, 108, 108] ∨ w = [112, 114, 112] ∨ w = [99, 99] := by
  by_cases h0 : w = [112, 116]
  · simp [h0]
  by_cases h1 : w = [109, 105, 100]
  · simp [h1]
  by_cases h2 : w = [108, 105, 110, 101]
  · simp [h2]
  by_cases h3 : w = [112, 97, 114]
  · simp [h3]
  by_cases h4 : w = [112, 101, 114, 112]
  · simp [h4]
  by_cases h5 : w = [109, 101, 101, 116]
  · simp [h5]
  by_cases h6 : w = [102, 111, 111, 116]
  · simp [h6]
  by_cases h7 : w = [109, 105, 114, 114, 111, 114]
  · simp [h7]
  by_cases h8 : w = [99, 101, 110, 116, 114, 101]
  · simp [h8]
  by_cases h9 : w = [115, 97, 109, 101]
  · simp [h9]
  by_cases h10 : w = [99, 111, 108]
  · simp [h10]
  by_cases h11 : w = [99, 99, 119]
  · simp [h11]
  by_cases h12 : w = [98, 116, 119]
  · simp [h12]
  by_cases h13 : w = [99, 111, 110]
  · simp [h13]
  by_cases h14 : w = [111, 110]
  · simp [h14]
  by_cases h15 : w = [112, 108, 108]
  · simp [h15]
  by_cases h16 : w = [112, 114, 112]
  · simp [h16]
  by_cases h17 : w = [99, 99]
  · simp [h17]
  exfalso
  apply h
  simp [fm, show (w == [112, 116]) = false from beq_eq_false_iff_ne.2 h0, show (w == [109, 105, 100]) = false from beq_eq_false_iff_ne.2 h1, show (w == [108, 105, 110, 101]) = false from beq_eq_false_iff_ne.2 h2, show (w == [112, 97, 114]) = false from beq_eq_false_iff_ne.2 h3, show (w == [112, 101, 114, 112]) = false from beq_eq_false_iff_ne.2 h4, show (w == [109, 101, 101, 116]) = false from beq_eq_false_iff_ne.2 h5, show (w == [102, 111, 111, 116]) = false from beq_eq_false_iff_ne.2 h6, show (w == [109, 105, 114, 114, 111, 114]) = false from beq_eq_false_iff_ne.2 h7, show (w == [99, 101, 110, 116, 114, 101]) = false from beq_eq_false_iff_ne.2 h8, show (w == [115, 97, 109, 101]) = false from beq_eq_false_iff_ne.2 h9, show (w == [99, 111, 108]) = false from beq_eq_false_iff_ne.2 h10, show (w == [99, 99, 119]) = false from beq_eq_false_iff_ne.2 h11, show (w == [98, 116, 119]) = false from beq_eq_false_iff_ne.2 h12, show (w == [99, 111, 110]) = false from beq_eq_false_iff_ne.2 h13, show (w == [111, 110]) = false from beq_eq_false_iff_ne.2 h14, show (w == [112, 108, 108]) = false from beq_eq_false_iff_ne.2 h15, show (w == [112, 114, 112]) = false from beq_eq_false_iff_ne.2 h16, show (w == [99, 99]) = false from beq_eq_false_iff_ne.2 h17]
/-- The registers of a statement's arguments. -/
def thJ (l : List St) (x : St) (j : Nat) : Tr := if j < x.args.length then hm (ix l x j) else ⟨0, 0, 0⟩
def thO (l : List St) (x : St) : Th := ⟨thJ l x 0, thJ l x 1, thJ l x 2, thJ l x 3⟩
def grdN (wd : List UInt8) : Nat := if wd == [108, 105, 110, 101] then 3 else 0
/-- What is made of a statement. -/
def qsL (wd : List UInt8) (t : Th) : List Stp := (askL wd 48 t).1 ++ [⟨6, 48 + (askL wd 48 t).2, 0, 0⟩]
def csL (wd : List UInt8) (i k : Nat) (t : Th) : List Stp := (conL wd 48 i t).1 ++ (grdL wd (48 + (conL wd 48 i t).1.length) (conL wd 48 i t).2.1 k ++ keepL wd (48 + (conL wd 48 i t).1.length + grdN wd) (conL wd 48 i t).2.1 k)
def stL (l : List St) (k i : Nat) (x : St) : List Stp := if x.name = 0 then qsL x.word (thO l x) else csL x.word i k (thO l x)

section
variable {p : List (St × Nat)}
theorem gv_more {l m : List St} {nm : Nat} (h : gvI l nm ≠ -1) : gvI (l ++ m) nm = gvI l nm := by
  rcases gvI_cases l nm with ⟨h1, _⟩ | ⟨k, hk, h1, h2, h3⟩
  · exact absurd h1 h
  · rw [h1]
    exact gvI_some (by simp; omega) (by rw [List.getElem_append_left hk]; exact h2) (fun j hj => by rw [List.getElem_append_left (by omega)]; exact h3 j hj)
theorem gv_take {p : List (St × Nat)} {j nm : Nat} (h : gvI (sts (p.take j)) nm ≠ -1) : gvI (sts p) nm = gvI (sts (p.take j)) nm := by
  have : sts p = sts (p.take j) ++ sts (p.drop j) := by rw [sts, sts, sts, ← List.map_append, List.take_append_drop]
  rw [this, gv_more h]
/-- What is so of a right statement's arguments. -/
theorem arg_at (h : Ok p) {j : Nat} (hj : j < p.length) {i : Nat} (hi : i < p[j].1.args.length) :
    ∃ k, ∃ hk : k < j, ix (sts p) p[j].1 i = k ∧ gvI (sts p) (ag p[j].1 i) = (k : Int) ∧ argW (p.take j) (ag p[j].1 i) = (p[k]'(by omega)).2 ∧ ((fm p[j].1.word).1[i]?.getD 0).toNat = (fm (p[k]'(by omega)).1.word).2 := by
  obtain ⟨he, -⟩ := h j hj
  obtain ⟨-, hl, hn, hs, -⟩ := err_zero he
  have hag : ag p[j].1 i = p[j].1.args[i].toNat := by simp [ag, hi]
  unfold namesOk at hn
  rw [Bool.and_eq_true, List.all_eq_true] at hn
  have hg : gvI (sts (p.take j)) (ag p[j].1 i) ≠ -1 := by
    have := hn.1 p[j].1.args[i] (List.getElem_mem hi)
    rw [hag]; simpa using this
  obtain ⟨k, hk, h1, h2⟩ := given_lt hg
  have hkj : k < j := by simp at hk; omega
  have hw := who_of hk h1
  have hpk : (p.take j)[k] = p[k]'(by omega) := by simp
  have hgp := gv_take hg
  rw [h1] at hgp
  refine ⟨k, hkj, by rw [ix, hgp]; rfl, hgp, by rw [argW, hw]; simp, ?_⟩
  unfold sortsOk at hs
  rw [List.all_eq_true] at hs
  have hi2 : i < (fm p[j].1.word).1.length := by omega
  have hz := hs (p[j].1.args[i], (fm p[j].1.word).1[i]) (by
    rw [List.mem_iff_getElem]
    exact ⟨i, by simp; omega, by simp⟩)
  have haw : argWord (p.take j) p[j].1.args[i].toNat = (p[k]'(by omega)).1.word := by
    rw [← hag, argWord, hw]; simp
  simp only [haw] at hz
  rw [List.getElem?_eq_getElem hi2]
  simp at hz ⊢
  exact hz.symm

theorem srt_cmd {l : List St} {x : St} (h : (fm x.word).2 ≠ 0) : srt (cmdOf l x) = (fm x.word).2 := by
  rcases word_cases h with e | e | e | e | e | e | e | e | e | e | e | e | e | e | e | e | e | e <;> rw [cmdOf, e] <;> rfl
theorem sts_at {j : Nat} (hj : j < p.length) : (sts p)[j]'(by rw [sts_len]; exact hj) = p[j].1 := by simp [sts]
theorem cmds_at {j : Nat} (hj : j < p.length) : (cmds (sts p))[j]'(by simp [cmds, sts_len]; exact hj) = cmdOf (sts p) p[j].1 := by simp [cmds, sts]
theorem cmds_len : (cmds (sts p)).length = p.length := by simp [cmds, sts_len]
theorem arg_P (h : Ok p) {j : Nat} (hj : j < p.length) {i : Nat} (hi : i < p[j].1.args.length) (hs : ((fm p[j].1.word).1[i]?.getD 0).toNat = 80) : isP ((cmds (sts p)).take j) (ix (sts p) p[j].1 i) := by
  obtain ⟨k, hk, e1, -, -, e2⟩ := arg_at h hj hi
  rw [e1]
  refine ⟨by rw [List.length_take, cmds_len]; omega, ?_⟩
  rw [List.getElem_take, cmds_at (by omega), srt_cmd (by rw [← e2, hs]; omega), ← e2, hs]
theorem arg_L (h : Ok p) {j : Nat} (hj : j < p.length) {i : Nat} (hi : i < p[j].1.args.length) (hs : ((fm p[j].1.word).1[i]?.getD 0).toNat = 76) : isLn ((cmds (sts p)).take j) (ix (sts p) p[j].1 i) := by
  obtain ⟨k, hk, e1, -, -, e2⟩ := arg_at h hj hi
  rw [e1]
  refine ⟨by rw [List.length_take, cmds_len]; omega, ?_⟩
  rw [List.getElem_take, cmds_at (by omega), srt_cmd (by rw [← e2, hs]; omega), ← e2, hs]
def wts (p : List (St × Nat)) : List Nat := p.map Prod.snd
theorem arg_W (h : Ok p) {j : Nat} (hj : j < p.length) {i : Nat} (hi : i < p[j].1.args.length) : wt ((wts p).take j) (ix (sts p) p[j].1 i) = argW (p.take j) (p[j].1.args[i].toNat) := by
  obtain ⟨k, hk, e1, -, e2, -⟩ := arg_at h hj hi
  have hag : ag p[j].1 i = p[j].1.args[i].toNat := by simp [ag, hi]
  rw [← hag, e1, e2, wt, wts]
  simp [hk, show k < p.length by omega]

theorem ok_cmd (h : Ok p) {j : Nat} (hj : j < p.length) : okC ((cmds (sts p)).take j) (cmdOf (sts p) p[j].1) ∧ wtC ((wts p).take j) (cmdOf (sts p) p[j].1) = p[j].2 := by
  obtain ⟨he, hw⟩ := h j hj
  obtain ⟨hk, hl, -, -, -⟩ := err_zero he
  have P := fun i hi => arg_P h hj (i := i) hi
  have L := fun i hi => arg_L h hj (i := i) hi
  have V := fun i hi => arg_W h hj (i := i) hi
  rw [hw]
  unfold known at hk
  rw [Bool.and_eq_true] at hk
  have h0 : (fm p[j].1.word).2 ≠ 0 := by simpa using hk.1
  have hq := hk.2
  unfold wgh
  generalize p[j].1 = x at *
  obtain ⟨nm, wd, ar⟩ := x
  simp only at *
  rcases word_cases h0 with e | e | e | e | e | e | e | e | e | e | e | e | e | e | e | e | e | e
  · subst e
    have hl2 : ar.length = 0 := hl
    have hn : nm ≠ 0 := by simpa [fm] using hq
    exact ⟨trivial, by rw [if_neg hn]; rfl⟩
  · subst e
    have hl2 : ar.length = 2 := hl
    have hn : nm ≠ 0 := by simpa [fm] using hq
    refine ⟨⟨P 0 (by omega) rfl, P 1 (by omega) rfl⟩, ?_⟩
    rw [if_neg hn]
    obtain ⟨a, b, rfl⟩ := len2 hl2
    have v0 := V 0 (by omega)
    have v1 := V 1 (by omega)
    simp only [List.getElem_cons_zero, List.getElem_cons_succ] at v0 v1
    show wt _ _ + wt _ _ = _
    rw [v0, v1]
    simp [wG, sumW]
  · subst e
    have hl2 : ar.length = 2 := hl
    have hn : nm ≠ 0 := by simpa [fm] using hq
    refine ⟨⟨P 0 (by omega) rfl, P 1 (by omega) rfl⟩, ?_⟩
    rw [if_neg hn]
    obtain ⟨a, b, rfl⟩ := len2 hl2
    have v0 := V 0 (by omega)
    have v1 := V 1 (by omega)
    simp only [List.getElem_cons_zero, List.getElem_cons_succ] at v0 v1
    show wt _ _ + wt _ _ = _
    rw [v0, v1]
    simp [wG, sumW]
  · subst e
    have hl2 : ar.length = 2 := hl
    have hn : nm ≠ 0 := by simpa [fm] using hq
    refine ⟨⟨P 0 (by omega) rfl, L 1 (by omega) rfl⟩, ?_⟩
    rw [if_neg hn]
    obtain ⟨a, b, rfl⟩ := len2 hl2
    have v0 := V 0 (by omega)
    have v1 := V 1 (by omega)
    simp only [List.getElem_cons_zero, List.getElem_cons_succ] at v0 v1
    show wt _ _ + wt _ _ = _
    rw [v0, v1]
    simp [wG, sumW]
  · subst e
    have hl2 : ar.length = 2 := hl
    have hn : nm ≠ 0 := by simpa [fm] using hq
    refine ⟨⟨P 0 (by omega) rfl, L 1 (by omega) rfl⟩, ?_⟩
    rw [if_neg hn]
    obtain ⟨a, b, rfl⟩ := len2 hl2
    have v0 := V 0 (by omega)
    have v1 := V 1 (by omega)
    simp only [List.getElem_cons_zero, List.getElem_cons_succ] at v0 v1
    show wt _ _ + wt _ _ = _
    rw [v0, v1]
    simp [wG, sumW]
  · subst e
    have hl2 : ar.length = 2 := hl
    have hn : nm ≠ 0 := by simpa [fm] using hq
    refine ⟨⟨L 0 (by omega) rfl, L 1 (by omega) rfl⟩, ?_⟩
    rw [if_neg hn]
    obtain ⟨a, b, rfl⟩ := len2 hl2
    have v0 := V 0 (by omega)
    have v1 := V 1 (by omega)
    simp only [List.getElem_cons_zero, List.getElem_cons_succ] at v0 v1
    show wt _ _ + wt _ _ = _
    rw [v0, v1]
    simp [wG, sumW]
  · subst e
    have hl2 : ar.length = 2 := hl
    have hn : nm ≠ 0 := by simpa [fm] using hq
    refine ⟨⟨P 0 (by omega) rfl, L 1 (by omega) rfl⟩, ?_⟩
    rw [if_neg hn]
    obtain ⟨a, b, rfl⟩ := len2 hl2
    have v0 := V 0 (by omega)
    have v1 := V 1 (by omega)
    simp only [List.getElem_cons_zero, List.getElem_cons_succ] at v0 v1
    show wt _ _ + wt _ _ + wt _ _ = _
    rw [v0, v1]
    simp [wG, sumW, lastW]
  · subst e
    have hl2 : ar.length = 2 := hl
    have hn : nm ≠ 0 := by simpa [fm] using hq
    refine ⟨⟨P 0 (by omega) rfl, L 1 (by omega) rfl⟩, ?_⟩
    rw [if_neg hn]
    obtain ⟨a, b, rfl⟩ := len2 hl2
    have v0 := V 0 (by omega)
    have v1 := V 1 (by omega)
    simp only [List.getElem_cons_zero, List.getElem_cons_succ] at v0 v1
    show 2 * (wt _ _ + wt _ _) = _
    rw [v0, v1]
    simp [wG, sumW]
  · subst e
    have hl2 : ar.length = 3 := hl
    have hn : nm ≠ 0 := by simpa [fm] using hq
    refine ⟨⟨P 0 (by omega) rfl, P 1 (by omega) rfl, P 2 (by omega) rfl⟩, ?_⟩
    rw [if_neg hn]
    obtain ⟨a, b, c, rfl⟩ := len3 hl2
    have v0 := V 0 (by omega)
    have v1 := V 1 (by omega)
    have v2 := V 2 (by omega)
    simp only [List.getElem_cons_zero, List.getElem_cons_succ] at v0 v1 v2
    show 4 * (wt _ _ + wt _ _ + wt _ _) = _
    rw [v0, v1, v2]
    simp [wG, sumW]; omega
  · subst e
    have hl2 : ar.length = 2 := hl
    have hn : nm = 0 := by simpa [fm] using hq
    exact ⟨⟨P 0 (by omega) rfl, P 1 (by omega) rfl⟩, by rw [if_pos hn]; rfl⟩
  · subst e
    have hl2 : ar.length = 3 := hl
    have hn : nm = 0 := by simpa [fm] using hq
    exact ⟨⟨P 0 (by omega) rfl, P 1 (by omega) rfl, P 2 (by omega) rfl⟩, by rw [if_pos hn]; rfl⟩
  · subst e
    have hl2 : ar.length = 3 := hl
    have hn : nm = 0 := by simpa [fm] using hq
    exact ⟨⟨P 0 (by omega) rfl, P 1 (by omega) rfl, P 2 (by omega) rfl⟩, by rw [if_pos hn]; rfl⟩
  · subst e
    have hl2 : ar.length = 3 := hl
    have hn : nm = 0 := by simpa [fm] using hq
    exact ⟨⟨P 0 (by omega) rfl, P 1 (by omega) rfl, P 2 (by omega) rfl⟩, by rw [if_pos hn]; rfl⟩
  · subst e
    have hl2 : ar.length = 4 := hl
    have hn : nm = 0 := by simpa [fm] using hq
    exact ⟨⟨P 0 (by omega) rfl, P 1 (by omega) rfl, P 2 (by omega) rfl, P 3 (by omega) rfl⟩, by rw [if_pos hn]; rfl⟩
  · subst e
    have hl2 : ar.length = 2 := hl
    have hn : nm = 0 := by simpa [fm] using hq
    exact ⟨⟨P 0 (by omega) rfl, L 1 (by omega) rfl⟩, by rw [if_pos hn]; rfl⟩
  · subst e
    have hl2 : ar.length = 2 := hl
    have hn : nm = 0 := by simpa [fm] using hq
    exact ⟨⟨L 0 (by omega) rfl, L 1 (by omega) rfl⟩, by rw [if_pos hn]; rfl⟩
  · subst e
    have hl2 : ar.length = 2 := hl
    have hn : nm = 0 := by simpa [fm] using hq
    exact ⟨⟨L 0 (by omega) rfl, L 1 (by omega) rfl⟩, by rw [if_pos hn]; rfl⟩
  · subst e
    have hl2 : ar.length = 3 := hl
    have hn : nm = 0 := by simpa [fm] using hq
    exact ⟨⟨L 0 (by omega) rfl, L 1 (by omega) rfl, L 2 (by omega) rfl⟩, by rw [if_pos hn]; rfl⟩
theorem wf_from (h : Ok p) : ∀ d, d ≤ p.length → Wf ((cmds (sts p)).take (p.length - d)) ((wts p).take (p.length - d)) ((cmds (sts p)).drop (p.length - d)) := by
  intro d
  induction d with
  | zero => intro _; rw [Nat.sub_zero, List.drop_of_length_le (by rw [cmds_len]; omega)]; trivial
  | succ d ih =>
    intro hd
    have hj : p.length - (d + 1) < p.length := by omega
    have hj2 : p.length - (d + 1) < (cmds (sts p)).length := by rw [cmds_len]; exact hj
    have ih := ih (by omega)
    rw [show p.length - d = p.length - (d + 1) + 1 by omega] at ih
    rw [List.drop_eq_getElem_cons hj2]
    obtain ⟨h1, h2⟩ := ok_cmd h hj
    rw [List.take_succ_eq_append_getElem hj2, List.take_succ_eq_append_getElem (by simpa [wts] using hj), cmds_at hj] at ih
    rw [cmds_at hj]
    refine ⟨h1, by rw [h2]; exact h.weight hj, ?_⟩
    rw [h2]
    simpa [wts] using ih
theorem wf_cmds (h : Ok p) : Wf [] [] (cmds (sts p)) := by
  have := wf_from h p.length (Nat.le_refl _)
  simpa using this

theorem st_cmd (h : Ok p) {j : Nat} (hj : j < p.length) (k i : Nat) : stL (sts p) k i p[j].1 = cmdL k i (cmdOf (sts p) p[j].1) := by
  obtain ⟨he, -⟩ := h j hj
  obtain ⟨hk, hl, -, -, -⟩ := err_zero he
  unfold known at hk
  rw [Bool.and_eq_true] at hk
  have h0 : (fm p[j].1.word).2 ≠ 0 := by simpa using hk.1
  have hq := hk.2
  generalize p[j].1 = x at *
  obtain ⟨nm, wd, ar⟩ := x
  simp only at *
  have tj : ∀ i, i < ar.length → thJ (sts p) ⟨nm, wd, ar⟩ i = hm (ix (sts p) ⟨nm, wd, ar⟩ i) := fun i hi => by unfold thJ; rw [if_pos hi]
  rcases word_cases h0 with e | e | e | e | e | e | e | e | e | e | e | e | e | e | e | e | e | e
  · subst e
    have hl2 : ar.length = 0 := hl
    have hn : nm ≠ 0 := by simpa [fm] using hq
    rw [stL, if_neg hn]
    unfold csL thO
    rfl
  · subst e
    have hl2 : ar.length = 2 := hl
    have hn : nm ≠ 0 := by simpa [fm] using hq
    rw [stL, if_neg hn]
    unfold csL thO
    rw [tj 0 (by omega), tj 1 (by omega)]
    rfl
  · subst e
    have hl2 : ar.length = 2 := hl
    have hn : nm ≠ 0 := by simpa [fm] using hq
    rw [stL, if_neg hn]
    unfold csL thO
    rw [tj 0 (by omega), tj 1 (by omega)]
    rfl
  · subst e
    have hl2 : ar.length = 2 := hl
    have hn : nm ≠ 0 := by simpa [fm] using hq
    rw [stL, if_neg hn]
    unfold csL thO
    rw [tj 0 (by omega), tj 1 (by omega)]
    rfl
  · subst e
    have hl2 : ar.length = 2 := hl
    have hn : nm ≠ 0 := by simpa [fm] using hq
    rw [stL, if_neg hn]
    unfold csL thO
    rw [tj 0 (by omega), tj 1 (by omega)]
    rfl
  · subst e
    have hl2 : ar.length = 2 := hl
    have hn : nm ≠ 0 := by simpa [fm] using hq
    rw [stL, if_neg hn]
    unfold csL thO
    rw [tj 0 (by omega), tj 1 (by omega)]
    rfl
  · subst e
    have hl2 : ar.length = 2 := hl
    have hn : nm ≠ 0 := by simpa [fm] using hq
    rw [stL, if_neg hn]
    unfold csL thO
    rw [tj 0 (by omega), tj 1 (by omega)]
    rfl
  · subst e
    have hl2 : ar.length = 2 := hl
    have hn : nm ≠ 0 := by simpa [fm] using hq
    rw [stL, if_neg hn]
    unfold csL thO
    rw [tj 0 (by omega), tj 1 (by omega)]
    rfl
  · subst e
    have hl2 : ar.length = 3 := hl
    have hn : nm ≠ 0 := by simpa [fm] using hq
    rw [stL, if_neg hn]
    unfold csL thO
    rw [tj 0 (by omega), tj 1 (by omega), tj 2 (by omega)]
    rfl
  · subst e
    have hl2 : ar.length = 2 := hl
    have hn : nm = 0 := by simpa [fm] using hq
    rw [stL, if_pos hn]
    unfold qsL thO
    rw [tj 0 (by omega), tj 1 (by omega)]
    rfl
  · subst e
    have hl2 : ar.length = 3 := hl
    have hn : nm = 0 := by simpa [fm] using hq
    rw [stL, if_pos hn]
    unfold qsL thO
    rw [tj 0 (by omega), tj 1 (by omega), tj 2 (by omega)]
    rfl
  · subst e
    have hl2 : ar.length = 3 := hl
    have hn : nm = 0 := by simpa [fm] using hq
    rw [stL, if_pos hn]
    unfold qsL thO
    rw [tj 0 (by omega), tj 1 (by omega), tj 2 (by omega)]
    rfl
  · subst e
    have hl2 : ar.length = 3 := hl
    have hn : nm = 0 := by simpa [fm] using hq
    rw [stL, if_pos hn]
    unfold qsL thO
    rw [tj 0 (by omega), tj 1 (by omega), tj 2 (by omega)]
    rfl
  · subst e
    have hl2 : ar.length = 4 := hl
    have hn : nm = 0 := by simpa [fm] using hq
    rw [stL, if_pos hn]
    unfold qsL thO
    rw [tj 0 (by omega), tj 1 (by omega), tj 2 (by omega), tj 3 (by omega)]
    rfl
  · subst e
    have hl2 : ar.length = 2 := hl
    have hn : nm = 0 := by simpa [fm] using hq
    rw [stL, if_pos hn]
    unfold qsL thO
    rw [tj 0 (by omega), tj 1 (by omega)]
    rfl
  · subst e
    have hl2 : ar.length = 2 := hl
    have hn : nm = 0 := by simpa [fm] using hq
    rw [stL, if_pos hn]
    unfold qsL thO
    rw [tj 0 (by omega), tj 1 (by omega)]
    rfl
  · subst e
    have hl2 : ar.length = 2 := hl
    have hn : nm = 0 := by simpa [fm] using hq
    rw [stL, if_pos hn]
    unfold qsL thO
    rw [tj 0 (by omega), tj 1 (by omega)]
    rfl
  · subst e
    have hl2 : ar.length = 3 := hl
    have hn : nm = 0 := by simpa [fm] using hq
    rw [stL, if_pos hn]
    unfold qsL thO
    rw [tj 0 (by omega), tj 1 (by omega), tj 2 (by omega)]
    rfl
theorem ins_cmd (h : Ok p) {j : Nat} (hj : j < p.length) : insC (cmdOf (sts p) p[j].1) = if (p[j].1.word == [112, 116]) = true then 2 else 0 := by
  obtain ⟨he, -⟩ := h j hj
  obtain ⟨hk, -, -, -, -⟩ := err_zero he
  unfold known at hk
  rw [Bool.and_eq_true] at hk
  have h0 : (fm p[j].1.word).2 ≠ 0 := by simpa using hk.1
  rcases word_cases h0 with e | e | e | e | e | e | e | e | e | e | e | e | e | e | e | e | e | e <;> rw [cmdOf, e] <;> rfl
end
end Go.Proofs.YtmnfndpbblpjiabGreatDoor.Pu

/- The sources that the statements name, plainly: what they are, what they tell. -/
namespace Go.Proofs.YtmnfndpbblpjiabGreatDoor.Pu

def okB (p : List (St × Nat)) : Bool := (List.range p.length).all fun j => match p[j]? with
  | some y => decide (err (p.take j) y.1 = 0) && decide (y.2 = wgh (p.take j) y.1)
  | none => true
theorem okB_ok {p : List (St × Nat)} (h : okB p = true) : Ok p := by
  intro j hj
  unfold okB at h
  rw [List.all_eq_true] at h
  have := h j (by simpa using hj)
  rw [List.getElem?_eq_getElem hj] at this
  simpa using this
def stW (s : ByteArray) : Bool := match stA s s.size with
  | some x => decide (x.st = 0)
  | none => false
theorem stW_whole {s : ByteArray} (h : stW s = true) : Whole s := by
  unfold stW at h
  split at h
  · rename_i x hx; exact ⟨x, hx, by simpa using h⟩
  · cases h
def awkC : List Cmd := [.pt, .pt, .pt, .col 0 1 2, .ccw 0 1 2, .btw 0 1 2]

def medS : ByteArray := ⟨[97, 61, 112, 116, 40, 41, 59, 98, 61, 112, 116, 40, 41, 59, 99, 61, 112, 116, 40, 41, 59, 100, 61, 109, 105, 100, 40, 98, 44, 99, 41, 59, 101, 61, 109, 105, 100, 40, 99, 44, 97, 41, 59, 102, 61, 109, 105, 100, 40, 97, 44, 98, 41, 59, 108, 61, 108, 105, 110, 101, 40, 97, 44, 100, 41, 59, 109, 61, 108, 105, 110, 101, 40, 98, 44, 101, 41, 59, 110, 61, 108, 105, 110, 101, 40, 99, 44, 102, 41, 59, 63, 99, 99, 40, 108, 44, 109, 44, 110, 41, 59].toArray⟩
def medP : List (St × Nat) := [(⟨97, [112, 116], []⟩, 1), (⟨98, [112, 116], []⟩, 1), (⟨99, [112, 116], []⟩, 1), (⟨100, [109, 105, 100], [98, 99]⟩, 2), (⟨101, [109, 105, 100], [99, 97]⟩, 2), (⟨102, [109, 105, 100], [97, 98]⟩, 2), (⟨108, [108, 105, 110, 101], [97, 100]⟩, 3), (⟨109, [108, 105, 110, 101], [98, 101]⟩, 3), (⟨110, [108, 105, 110, 101], [99, 102]⟩, 3), (⟨0, [99, 99], [108, 109, 110]⟩, 0)]
theorem med_whole : Whole medS := stW_whole (by kernel_rfl)
theorem med_ok : Ok medP := okB_ok (by kernel_rfl)
theorem med_ga : (gaA medS medS.size).l = sts medP := by kernel_rfl
theorem med_cmds : cmds (sts medP) = medC := by kernel_rfl

def hgtS : ByteArray := ⟨[97, 61, 112, 116, 40, 41, 59, 98, 61, 112, 116, 40, 41, 59, 99, 61, 112, 116, 40, 41, 59, 108, 61, 108, 105, 110, 101, 40, 98, 44, 99, 41, 59, 109, 61, 108, 105, 110, 101, 40, 99, 44, 97, 41, 59, 110, 61, 108, 105, 110, 101, 40, 97, 44, 98, 41, 59, 117, 61, 112, 101, 114, 112, 40, 97, 44, 108, 41, 59, 118, 61, 112, 101, 114, 112, 40, 98, 44, 109, 41, 59, 119, 61, 112, 101, 114, 112, 40, 99, 44, 110, 41, 59, 63, 99, 99, 40, 117, 44, 118, 44, 119, 41, 59, 104, 61, 109, 101, 101, 116, 40, 117, 44, 118, 41, 59, 63, 111, 110, 40, 104, 44, 119, 41, 59].toArray⟩
def hgtP : List (St × Nat) := [(⟨97, [112, 116], []⟩, 1), (⟨98, [112, 116], []⟩, 1), (⟨99, [112, 116], []⟩, 1), (⟨108, [108, 105, 110, 101], [98, 99]⟩, 2), (⟨109, [108, 105, 110, 101], [99, 97]⟩, 2), (⟨110, [108, 105, 110, 101], [97, 98]⟩, 2), (⟨117, [112, 101, 114, 112], [97, 108]⟩, 3), (⟨118, [112, 101, 114, 112], [98, 109]⟩, 3), (⟨119, [112, 101, 114, 112], [99, 110]⟩, 3), (⟨0, [99, 99], [117, 118, 119]⟩, 0), (⟨104, [109, 101, 101, 116], [117, 118]⟩, 6), (⟨0, [111, 110], [104, 119]⟩, 0)]
theorem hgt_whole : Whole hgtS := stW_whole (by kernel_rfl)
theorem hgt_ok : Ok hgtP := okB_ok (by kernel_rfl)
theorem hgt_ga : (gaA hgtS hgtS.size).l = sts hgtP := by kernel_rfl
theorem hgt_cmds : cmds (sts hgtP) = hgtC := by kernel_rfl

def chdS : ByteArray := ⟨[97, 61, 112, 116, 40, 41, 59, 98, 61, 112, 116, 40, 41, 59, 99, 61, 112, 116, 40, 41, 59, 109, 61, 109, 105, 100, 40, 97, 44, 98, 41, 59, 108, 61, 108, 105, 110, 101, 40, 97, 44, 98, 41, 59, 112, 61, 112, 101, 114, 112, 40, 109, 44, 108, 41, 59, 100, 61, 109, 105, 114, 114, 111, 114, 40, 99, 44, 112, 41, 59, 63, 99, 111, 110, 40, 97, 44, 98, 44, 99, 44, 100, 41, 59, 63, 115, 97, 109, 101, 40, 99, 44, 100, 41, 59].toArray⟩
def chdP : List (St × Nat) := [(⟨97, [112, 116], []⟩, 1), (⟨98, [112, 116], []⟩, 1), (⟨99, [112, 116], []⟩, 1), (⟨109, [109, 105, 100], [97, 98]⟩, 2), (⟨108, [108, 105, 110, 101], [97, 98]⟩, 2), (⟨112, [112, 101, 114, 112], [109, 108]⟩, 4), (⟨100, [109, 105, 114, 114, 111, 114], [99, 112]⟩, 10), (⟨0, [99, 111, 110], [97, 98, 99, 100]⟩, 0), (⟨0, [115, 97, 109, 101], [99, 100]⟩, 0)]
theorem chd_whole : Whole chdS := stW_whole (by kernel_rfl)
theorem chd_ok : Ok chdP := okB_ok (by kernel_rfl)
theorem chd_ga : (gaA chdS chdS.size).l = sts chdP := by kernel_rfl
theorem chd_cmds : cmds (sts chdP) = chdC := by kernel_rfl

def ninS : ByteArray := ⟨[97, 61, 112, 116, 40, 41, 59, 98, 61, 112, 116, 40, 41, 59, 99, 61, 112, 116, 40, 41, 59, 100, 61, 109, 105, 100, 40, 98, 44, 99, 41, 59, 101, 61, 109, 105, 100, 40, 99, 44, 97, 41, 59, 102, 61, 109, 105, 100, 40, 97, 44, 98, 41, 59, 108, 61, 108, 105, 110, 101, 40, 98, 44, 99, 41, 59, 103, 61, 102, 111, 111, 116, 40, 97, 44, 108, 41, 59, 63, 99, 111, 110, 40, 100, 44, 101, 44, 102, 44, 103, 41, 59].toArray⟩
def ninP : List (St × Nat) := [(⟨97, [112, 116], []⟩, 1), (⟨98, [112, 116], []⟩, 1), (⟨99, [112, 116], []⟩, 1), (⟨100, [109, 105, 100], [98, 99]⟩, 2), (⟨101, [109, 105, 100], [99, 97]⟩, 2), (⟨102, [109, 105, 100], [97, 98]⟩, 2), (⟨108, [108, 105, 110, 101], [98, 99]⟩, 2), (⟨103, [102, 111, 111, 116], [97, 108]⟩, 5), (⟨0, [99, 111, 110], [100, 101, 102, 103]⟩, 0)]
theorem nin_whole : Whole ninS := stW_whole (by kernel_rfl)
theorem nin_ok : Ok ninP := okB_ok (by kernel_rfl)
theorem nin_ga : (gaA ninS ninS.size).l = sts ninP := by kernel_rfl
theorem nin_cmds : cmds (sts ninP) = ninC := by kernel_rfl

def sidS : ByteArray := ⟨[97, 61, 112, 116, 40, 41, 59, 98, 61, 112, 116, 40, 41, 59, 99, 61, 112, 116, 40, 41, 59, 63, 99, 111, 108, 40, 97, 44, 98, 44, 99, 41, 59, 63, 99, 99, 119, 40, 97, 44, 98, 44, 99, 41, 59, 63, 99, 99, 119, 40, 99, 44, 98, 44, 97, 41, 59, 63, 98, 116, 119, 40, 97, 44, 98, 44, 99, 41, 59].toArray⟩
def sidP : List (St × Nat) := [(⟨97, [112, 116], []⟩, 1), (⟨98, [112, 116], []⟩, 1), (⟨99, [112, 116], []⟩, 1), (⟨0, [99, 111, 108], [97, 98, 99]⟩, 0), (⟨0, [99, 99, 119], [97, 98, 99]⟩, 0), (⟨0, [99, 99, 119], [99, 98, 97]⟩, 0), (⟨0, [98, 116, 119], [97, 98, 99]⟩, 0)]
theorem sid_whole : Whole sidS := stW_whole (by kernel_rfl)
theorem sid_ok : Ok sidP := okB_ok (by kernel_rfl)
theorem sid_ga : (gaA sidS sidS.size).l = sts sidP := by kernel_rfl
theorem sid_cmds : cmds (sts sidP) = sidC := by kernel_rfl

def awkS : ByteArray := ⟨[97, 61, 112, 116, 40, 41, 59, 98, 61, 112, 116, 40, 41, 59, 99, 61, 112, 116, 40, 41, 59, 63, 99, 111, 108, 40, 97, 44, 98, 44, 99, 41, 59, 63, 99, 99, 119, 40, 97, 44, 98, 44, 99, 41, 59, 63, 98, 116, 119, 40, 97, 44, 98, 44, 99, 41, 59].toArray⟩
def awkP : List (St × Nat) := [(⟨97, [112, 116], []⟩, 1), (⟨98, [112, 116], []⟩, 1), (⟨99, [112, 116], []⟩, 1), (⟨0, [99, 111, 108], [97, 98, 99]⟩, 0), (⟨0, [99, 99, 119], [97, 98, 99]⟩, 0), (⟨0, [98, 116, 119], [97, 98, 99]⟩, 0)]
theorem awk_whole : Whole awkS := stW_whole (by kernel_rfl)
theorem awk_ok : Ok awkP := okB_ok (by kernel_rfl)
theorem awk_ga : (gaA awkS awkS.size).l = sts awkP := by kernel_rfl
theorem awk_cmds : cmds (sts awkP) = awkC := by kernel_rfl

end Go.Proofs.YtmnfndpbblpjiabGreatDoor.Pu

/- The program's steps: what fits. -/
namespace Go.Proofs.YtmnfndpbblpjiabGreatDoor
open Go.RowKit Pu

def stA (t : Stp) : Array Value := #[.int .u8 t.op, .int .u8 t.x, .int .u8 t.y, .int .u8 t.z]
abbrev stV (t : Stp) : Value := .agg #[.int .u8 t.op, .int .u8 t.x, .int .u8 t.y, .int .u8 t.z]

theorem setsx_any (op : Nat) (w : World) (h : op < 256) : Calls Tryz.prog 55 #[.int .u8 op] w fun e w' => e = .returned (.bool (decide (op ≤ 5))) ∧ w = w' := by
  by_cases h5 : op ≤ 5
  · have : (op : Int) ≤ 5 := by omega
    go_enter Tryz.func55, Tryz.ntmps55
    go_wp2_with fail
    go_ret
    exact ⟨by simp [h5], rfl⟩
  · have : ¬ (op : Int) ≤ 5 := by omega
    go_enter Tryz.func55, Tryz.ntmps55
    go_wp2_with fail
    go_ret
    exact ⟨by simp, rfl⟩
theorem readsz_any (op : Nat) (w : World) (_h : op < 256) : Calls Tryz.prog 137 #[.int .u8 op] w fun e w' => e = .returned (.bool (rz op)) ∧ w = w' := by
  cases e2 : decide (op = 2) <;> cases e3 : decide (op = 3) <;> cases e4 : decide (op = 4)
  all_goals
    have HZ : Hid (rz op = (decide (op = 2) || decide (op = 3) || decide (op = 4))) := rfl
    rw [e2, e3, e4] at HZ
    simp only [decide_eq_true_eq, decide_eq_false_iff_not] at e2 e3 e4
    first
      | omega
      | (have b2 : ((op : Int) == 2) = true := beq_t e2
         clear e2 e3 e4
         go_enter Tryz.func137, Tryz.ntmps137
         go_wp2_with fail
         go_ret
         exact ⟨by rw [HZ.out]; rfl, rfl⟩)
      | (have b2 : ((op : Int) == 2) = false := beq_f e2
         have b3 : ((op : Int) == 3) = true := beq_t e3
         clear e2 e3 e4
         go_enter Tryz.func137, Tryz.ntmps137
         go_wp2_with fail
         go_ret
         exact ⟨by rw [HZ.out]; rfl, rfl⟩)
      | (have b2 : ((op : Int) == 2) = false := beq_f e2
         have b3 : ((op : Int) == 3) = false := beq_f e3
         have b4 : ((op : Int) == 4) = true := beq_t e4
         clear e2 e3 e4
         go_enter Tryz.func137, Tryz.ntmps137
         go_wp2_with fail
         go_ret
         exact ⟨by rw [HZ.out]; rfl, rfl⟩)
      | (have b2 : ((op : Int) == 2) = false := beq_f e2
         have b3 : ((op : Int) == 3) = false := beq_f e3
         have b4 : ((op : Int) == 4) = false := beq_f e4
         clear e2 e3 e4
         go_enter Tryz.func137, Tryz.ntmps137
         go_wp2_with fail
         go_ret
         exact ⟨by rw [HZ.out]; rfl, rfl⟩)
theorem readsy_any (op : Nat) (w : World) (h : op < 256) : Calls Tryz.prog 136 #[.int .u8 op] w fun e w' => e = .returned (.bool (ry op)) ∧ w = w' := by
  by_cases e5 : op = 5
  · have HZ : Hid (ry op = true) := show ry op = true by simp [ry, e5]
    have b5 : ((op : Int) == 5) = true := beq_t e5
    clear e5
    go_enter Tryz.func136, Tryz.ntmps136
    go_wp2_with fail
    go_ret
    exact ⟨by rw [HZ.out]; rfl, rfl⟩
  · have HZ : Hid (ry op = rz op) := show ry op = rz op by simp [ry, e5]
    have b5 : ((op : Int) == 5) = false := beq_f e5
    clear e5
    go_enter Tryz.func136, Tryz.ntmps136
    go_wp2_with (go_at_call 137; refine (readsz_any op _ h).mono ?_; rintro e w1 ⟨rfl, rfl⟩)
    go_ret
    exact ⟨by rw [HZ.out]; rfl, rfl⟩
end Go.Proofs.YtmnfndpbblpjiabGreatDoor

/- The program's operandsFit. -/
namespace Go.Proofs.YtmnfndpbblpjiabGreatDoor
open Go.RowKit Pu

set_option maxHeartbeats 800000 in
theorem opfit_any (t : Stp) (ins : Nat) (w : World) (ht : Small t) (_hi : ins < 256) : Calls Tryz.prog 93 #[stV t, .int .u8 ins] w fun e w' => e = .returned (.bool (opFit t ins)) ∧ Mod (fun _ => False) w w' := by
  obtain ⟨op, x, y, z⟩ := t
  obtain ⟨h1, h2, h3, h4⟩ := ht
  simp only at h1 h2 h3 h4
  by_cases h7 : 7 < op
  · have HZ : Hid (opFit ⟨op, x, y, z⟩ ins = false) := show _ = false by
      simp [opFit, show ¬ op = 0 by omega, show ¬ op = 1 by omega, show ¬ op = 2 by omega, show ¬ op = 3 by omega, show ¬ op = 4 by omega, show ¬ op = 5 by omega, show ¬ op = 6 by omega, show ¬ op = 7 by omega]
    have b0 : ((op : Int) == 0) = false := beq_f (m := 0) (by omega)
    have b1 : ((op : Int) == 1) = false := beq_f (m := 1) (by omega)
    have b2 : ((op : Int) == 2) = false := beq_f (m := 2) (by omega)
    have b3 : ((op : Int) == 3) = false := beq_f (m := 3) (by omega)
    have b4 : ((op : Int) == 4) = false := beq_f (m := 4) (by omega)
    have b5 : ((op : Int) == 5) = false := beq_f (m := 5) (by omega)
    have b6 : ((op : Int) == 6) = false := beq_f (m := 6) (by omega)
    have b7 : ((op : Int) == 7) = false := beq_f (m := 7) (by omega)
    go_enter Tryz.func93, Tryz.ntmps93
    go_wp2_with fail
    go_ret
    exact ⟨by rw [HZ.out]; rfl, (Mod.refl _ _).alloc _⟩
  · have hop : op = 0 ∨ op = 1 ∨ op = 2 ∨ op = 3 ∨ op = 4 ∨ op = 5 ∨ op = 6 ∨ op = 7 := by omega
    clear h7 h1
    rcases hop with rfl | rfl | rfl | rfl | rfl | rfl | rfl | rfl
    · by_cases ha : y < ins
      · have ia : (y : Int) < (ins : Int) := by omega
        by_cases hb : z = 0
        · have ib : ((z : Int) == 0) = true := beq_t (m := 0) hb
          have HZ : Hid (opFit ⟨0, x, y, z⟩ ins = true) := show opFit ⟨0, x, y, z⟩ ins = true by simp [opFit, ha, hb]
          clear ha hb
          go_enter Tryz.func93, Tryz.ntmps93
          go_wp2_with fail
          go_ret
          exact ⟨by rw [HZ.out]; rfl, (Mod.refl _ _).alloc _⟩
        · have ib : ((z : Int) == 0) = false := beq_f (m := 0) hb
          have HZ : Hid (opFit ⟨0, x, y, z⟩ ins = false) := show opFit ⟨0, x, y, z⟩ ins = false by simp [opFit, hb]
          clear hb
          go_enter Tryz.func93, Tryz.ntmps93
          go_wp2_with fail
          go_ret
          exact ⟨by rw [HZ.out]; rfl, (Mod.refl _ _).alloc _⟩
      · have ia : ¬ (y : Int) < (ins : Int) := by omega
        have HZ : Hid (opFit ⟨0, x, y, z⟩ ins = false) := show opFit ⟨0, x, y, z⟩ ins = false by simp [opFit, ha]
        clear ha
        go_enter Tryz.func93, Tryz.ntmps93
        go_wp2_with fail
        go_ret
        exact ⟨by rw [HZ.out]; rfl, (Mod.refl _ _).alloc _⟩
    · by_cases hb : z = 0
      · have ib : ((z : Int) == 0) = true := beq_t (m := 0) hb
        have HZ : Hid (opFit ⟨1, x, y, z⟩ ins = true) := show opFit ⟨1, x, y, z⟩ ins = true by simp [opFit, hb]
        clear hb
        go_enter Tryz.func93, Tryz.ntmps93
        go_wp2_with fail
        go_ret
        exact ⟨by rw [HZ.out]; rfl, (Mod.refl _ _).alloc _⟩
      · have ib : ((z : Int) == 0) = false := beq_f (m := 0) hb
        have HZ : Hid (opFit ⟨1, x, y, z⟩ ins = false) := show opFit ⟨1, x, y, z⟩ ins = false by simp [opFit, hb]
        clear hb
        go_enter Tryz.func93, Tryz.ntmps93
        go_wp2_with fail
        go_ret
        exact ⟨by rw [HZ.out]; rfl, (Mod.refl _ _).alloc _⟩
    · have HZ : Hid (opFit ⟨2, x, y, z⟩ ins = true) := show opFit ⟨2, x, y, z⟩ ins = true by simp [opFit]
      go_enter Tryz.func93, Tryz.ntmps93
      go_wp2_with fail
      go_ret
      exact ⟨by rw [HZ.out]; rfl, (Mod.refl _ _).alloc _⟩
    · have HZ : Hid (opFit ⟨3, x, y, z⟩ ins = true) := show opFit ⟨3, x, y, z⟩ ins = true by simp [opFit]
      go_enter Tryz.func93, Tryz.ntmps93
      go_wp2_with fail
      go_ret
      exact ⟨by rw [HZ.out]; rfl, (Mod.refl _ _).alloc _⟩
    · have HZ : Hid (opFit ⟨4, x, y, z⟩ ins = true) := show opFit ⟨4, x, y, z⟩ ins = true by simp [opFit]
      go_enter Tryz.func93, Tryz.ntmps93
      go_wp2_with fail
      go_ret
      exact ⟨by rw [HZ.out]; rfl, (Mod.refl _ _).alloc _⟩
    · by_cases hb : z = 0
      · have ib : ((z : Int) == 0) = true := beq_t (m := 0) hb
        have HZ : Hid (opFit ⟨5, x, y, z⟩ ins = true) := show opFit ⟨5, x, y, z⟩ ins = true by simp [opFit, hb]
        clear hb
        go_enter Tryz.func93, Tryz.ntmps93
        go_wp2_with fail
        go_ret
        exact ⟨by rw [HZ.out]; rfl, (Mod.refl _ _).alloc _⟩
      · have ib : ((z : Int) == 0) = false := beq_f (m := 0) hb
        have HZ : Hid (opFit ⟨5, x, y, z⟩ ins = false) := show opFit ⟨5, x, y, z⟩ ins = false by simp [opFit, hb]
        clear hb
        go_enter Tryz.func93, Tryz.ntmps93
        go_wp2_with fail
        go_ret
        exact ⟨by rw [HZ.out]; rfl, (Mod.refl _ _).alloc _⟩
    · by_cases ha : y = 0
      · have ia : ((y : Int) == 0) = true := beq_t (m := 0) ha
        by_cases hb : z = 0
        · have ib : ((z : Int) == 0) = true := beq_t (m := 0) hb
          have HZ : Hid (opFit ⟨6, x, y, z⟩ ins = true) := show opFit ⟨6, x, y, z⟩ ins = true by simp [opFit, ha, hb]
          clear ha hb
          go_enter Tryz.func93, Tryz.ntmps93
          go_wp2_with fail
          go_ret
          exact ⟨by rw [HZ.out]; rfl, (Mod.refl _ _).alloc _⟩
        · have ib : ((z : Int) == 0) = false := beq_f (m := 0) hb
          have HZ : Hid (opFit ⟨6, x, y, z⟩ ins = false) := show opFit ⟨6, x, y, z⟩ ins = false by simp [opFit, hb]
          clear hb
          go_enter Tryz.func93, Tryz.ntmps93
          go_wp2_with fail
          go_ret
          exact ⟨by rw [HZ.out]; rfl, (Mod.refl _ _).alloc _⟩
      · have ia : ((y : Int) == 0) = false := beq_f (m := 0) ha
        have HZ : Hid (opFit ⟨6, x, y, z⟩ ins = false) := show opFit ⟨6, x, y, z⟩ ins = false by simp [opFit, ha]
        clear ha
        go_enter Tryz.func93, Tryz.ntmps93
        go_wp2_with fail
        go_ret
        exact ⟨by rw [HZ.out]; rfl, (Mod.refl _ _).alloc _⟩
    · by_cases ha : y < 3
      · have ia : (y : Int) < 3 := by omega
        by_cases hb : z < 16
        · have ib : (z : Int) < 16 := by omega
          have HZ : Hid (opFit ⟨7, x, y, z⟩ ins = true) := show opFit ⟨7, x, y, z⟩ ins = true by simp [opFit, ha, hb]
          clear ha hb
          go_enter Tryz.func93, Tryz.ntmps93
          go_wp2_with fail
          go_ret
          exact ⟨by rw [HZ.out]; rfl, (Mod.refl _ _).alloc _⟩
        · have ib : ¬ (z : Int) < 16 := by omega
          have HZ : Hid (opFit ⟨7, x, y, z⟩ ins = false) := show opFit ⟨7, x, y, z⟩ ins = false by simp [opFit, hb]
          clear hb
          go_enter Tryz.func93, Tryz.ntmps93
          go_wp2_with fail
          go_ret
          exact ⟨by rw [HZ.out]; rfl, (Mod.refl _ _).alloc _⟩
      · have ia : ¬ (y : Int) < 3 := by omega
        have HZ : Hid (opFit ⟨7, x, y, z⟩ ins = false) := show opFit ⟨7, x, y, z⟩ ins = false by simp [opFit, ha]
        clear ha
        go_enter Tryz.func93, Tryz.ntmps93
        go_wp2_with fail
        go_ret
        exact ⟨by rw [HZ.out]; rfl, (Mod.refl _ _).alloc _⟩
end Go.Proofs.YtmnfndpbblpjiabGreatDoor

/- The program's marks of registers; readsFit, stepFits. -/
namespace Go.Proofs.YtmnfndpbblpjiabGreatDoor
open Go.RowKit Pu

def mcells (M : Nat → Bool) : Array Value := Array.ofFn (n := 256) fun i => .bool (M i)
theorem mcells_size (M : Nat → Bool) : (mcells M).size = 256 := by simp [mcells]
theorem mcells_at (M : Nat → Bool) {r : Nat} (h : r < 256) : (mcells M)[r]? = some (.bool (M r)) := by simp [mcells, h]
theorem mcells_get (M : Nat → Bool) {r : Nat} (hr : r < 256) : ∀ h' : r < (mcells M).size, (mcells M)[r] = .bool (M r) := fun h' => by
  have := mcells_at M hr
  rw [Array.getElem?_eq_getElem h'] at this
  exact Option.some.inj this
theorem mcells_set (M : Nat → Bool) (r : Nat) (b : Bool) : (mcells M).setIfInBounds r (.bool b) = mcells (fun i => if i = r then b else M i) := by
  apply Array.ext
  · simp [mcells]
  · intro i h1 h2
    have hi : i < 256 := by simpa [mcells] using h2
    rw [Array.getElem_setIfInBounds (by simpa [mcells] using hi)]
    by_cases e : r = i
    · subst e; simp [mcells]
    · simp [mcells, e, show ¬ i = r from fun h => e h.symm]
theorem mcells_none : mcells (fun _ => false) = Array.replicate 256 (.bool false) := by
  apply Array.ext
  · simp [mcells]
  · intro i h1 h2; simp [mcells]
theorem mcells_one (M : Nat → Bool) : (mcells M).all (·.oneCell') = true := by
  rw [Array.all_eq_true_iff_forall_mem]
  intro v hv
  simp [mcells] at hv
  obtain ⟨i, rfl⟩ := hv
  rfl
theorem Tryz.infoM : (Tryz.prog.info? 98).map (fun i => (i.zero, i.size)) = some (some (.agg (Array.replicate 256 (.bool false))), 256) := by kernel_rfl

set_option maxHeartbeats 1600000 in
theorem rdfit_any (t : Stp) (M : Nat → Bool) (w : World) (ht : Small t) : Calls Tryz.prog 94 #[stV t, .agg (mcells M)] w fun e w' => e = .returned (.bool (rdFit M t)) ∧ Mod (fun _ => False) w w' := by
  obtain ⟨op, x, y, z⟩ := t
  obtain ⟨h1, h2, h3, h4⟩ := ht
  simp only at h1 h2 h3 h4
  have cx := mcells_get M h2
  have cy := mcells_get M h3
  have cz := mcells_get M h4
  have hsz := mcells_size M
  have ix : (x : Int) < 256 := by omega
  have iy : (y : Int) < 256 := by omega
  have iz : (z : Int) < 256 := by omega
  have HZ : Hid (rdFit M ⟨op, x, y, z⟩ = ((decide (op ≤ 5) || M x) && (!(ry op) || M y) && (!(rz op) || M z))) := rfl
  generalize mcells M = C at *
  generalize rdFit M ⟨op, x, y, z⟩ = R at *
  generalize M x = bx at *
  generalize M y = vy at *
  generalize M z = bz at *
  have hsx := fun w => setsx_any op w h1
  have hry := fun w => readsy_any op w h1
  have hrz := fun w => readsz_any op w h1
  generalize decide (op ≤ 5) = b5 at *
  generalize ry op = py at *
  generalize rz op = pz at *
  cases b5 <;> cases bx <;> cases py <;> cases vy <;> cases pz <;> cases bz
  all_goals
    simp only [Bool.or_true, Bool.or_false, Bool.and_true, Bool.and_false, Bool.not_true, Bool.not_false] at HZ
    go_enter Tryz.func94, Tryz.ntmps94
    go_wp2_with first
      | (go_at_call 55; refine (hsx _).mono ?_; rintro e w1 ⟨rfl, rfl⟩)
      | (go_at_call 136; refine (hry _).mono ?_; rintro e w1 ⟨rfl, rfl⟩)
      | (go_at_call 137; refine (hrz _).mono ?_; rintro e w1 ⟨rfl, rfl⟩)
    go_ret
    exact ⟨by rw [HZ.out]; rfl, ((Mod.refl _ _).alloc _).alloc _⟩
end Go.Proofs.YtmnfndpbblpjiabGreatDoor

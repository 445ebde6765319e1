/- Statements as plain data: what they are made into, and what they tell. -/
import Derived.Test.YtmnfndpbblpjiaaGreatDoorZa20
namespace Go.Proofs.YtmnfndpbblpjiaaGreatDoor.Pu
/-- A statement; its arguments are the numbers of the statements that gave them. -/
abbrev Cmd : Type := ((((Unit ⊕ (Nat × Nat)) ⊕ (Nat × Nat)) ⊕ ((Nat × Nat) ⊕ (Nat × Nat))) ⊕ (((Nat × Nat) ⊕ (Nat × Nat)) ⊕ ((Nat × Nat) ⊕ (Nat × Nat × Nat)))) ⊕ (((((Nat × Nat) ⊕ (Nat × Nat × Nat)) ⊕ (Nat × Nat × Nat)) ⊕ ((Nat × Nat × Nat) ⊕ (Nat × Nat × Nat × Nat))) ⊕ (((Nat × Nat) ⊕ (Nat × Nat)) ⊕ ((Nat × Nat) ⊕ (Nat × Nat × Nat))))
abbrev Cmd.pt : Cmd := .inl (.inl (.inl (.inl (.inl ()))))
abbrev Cmd.mid (a b : Nat) : Cmd := .inl (.inl (.inl (.inl (.inr (a, b)))))
abbrev Cmd.line (a b : Nat) : Cmd := .inl (.inl (.inl (.inr (a, b))))
abbrev Cmd.par (p l : Nat) : Cmd := .inl (.inl (.inr (.inl (p, l))))
abbrev Cmd.perp (p l : Nat) : Cmd := .inl (.inl (.inr (.inr (p, l))))
abbrev Cmd.meet (l m : Nat) : Cmd := .inl (.inr (.inl (.inl (l, m))))
abbrev Cmd.foot (p l : Nat) : Cmd := .inl (.inr (.inl (.inr (p, l))))
abbrev Cmd.mirror (p l : Nat) : Cmd := .inl (.inr (.inr (.inl (p, l))))
abbrev Cmd.centre (a b c : Nat) : Cmd := .inl (.inr (.inr (.inr (a, b, c))))
abbrev Cmd.same (a b : Nat) : Cmd := .inr (.inl (.inl (.inl (.inl (a, b)))))
abbrev Cmd.col (a b c : Nat) : Cmd := .inr (.inl (.inl (.inl (.inr (a, b, c)))))
abbrev Cmd.ccw (a b c : Nat) : Cmd := .inr (.inl (.inl (.inr (a, b, c))))
abbrev Cmd.btw (a b c : Nat) : Cmd := .inr (.inl (.inr (.inl (a, b, c))))
abbrev Cmd.con (a b c d : Nat) : Cmd := .inr (.inl (.inr (.inr (a, b, c, d))))
abbrev Cmd.on (p l : Nat) : Cmd := .inr (.inr (.inl (.inl (p, l))))
abbrev Cmd.pll (l m : Nat) : Cmd := .inr (.inr (.inl (.inr (l, m))))
abbrev Cmd.prp (l m : Nat) : Cmd := .inr (.inr (.inr (.inl (l, m))))
abbrev Cmd.cc (l m n : Nat) : Cmd := .inr (.inr (.inr (.inr (l, m, n))))
theorem Cmd.el {motive : Cmd → Prop} (pt : motive .pt) (mid : ∀ a b, motive (.mid a b)) (line : ∀ a b, motive (.line a b)) (par : ∀ p l, motive (.par p l)) (perp : ∀ p l, motive (.perp p l)) (meet : ∀ l m, motive (.meet l m)) (foot : ∀ p l, motive (.foot p l)) (mirror : ∀ p l, motive (.mirror p l)) (centre : ∀ a b c, motive (.centre a b c)) (same : ∀ a b, motive (.same a b)) (col : ∀ a b c, motive (.col a b c)) (ccw : ∀ a b c, motive (.ccw a b c)) (btw : ∀ a b c, motive (.btw a b c)) (con : ∀ a b c d, motive (.con a b c d)) (on : ∀ p l, motive (.on p l)) (pll : ∀ l m, motive (.pll l m)) (prp : ∀ l m, motive (.prp l m)) (cc : ∀ l m n, motive (.cc l m n)) : ∀ c, motive c
  | .inl (.inl (.inl (.inl (.inl ())))) => pt
  | .inl (.inl (.inl (.inl (.inr (a, b))))) => mid a b
  | .inl (.inl (.inl (.inr (a, b)))) => line a b
  | .inl (.inl (.inr (.inl (p, l)))) => par p l
  | .inl (.inl (.inr (.inr (p, l)))) => perp p l
  | .inl (.inr (.inl (.inl (l, m)))) => meet l m
  | .inl (.inr (.inl (.inr (p, l)))) => foot p l
  | .inl (.inr (.inr (.inl (p, l)))) => mirror p l
  | .inl (.inr (.inr (.inr (a, b, c)))) => centre a b c
  | .inr (.inl (.inl (.inl (.inl (a, b))))) => same a b
  | .inr (.inl (.inl (.inl (.inr (a, b, c))))) => col a b c
  | .inr (.inl (.inl (.inr (a, b, c)))) => ccw a b c
  | .inr (.inl (.inr (.inl (a, b, c)))) => btw a b c
  | .inr (.inl (.inr (.inr (a, b, c, d)))) => con a b c d
  | .inr (.inr (.inl (.inl (p, l)))) => on p l
  | .inr (.inr (.inl (.inr (l, m)))) => pll l m
  | .inr (.inr (.inr (.inl (l, m)))) => prp l m
  | .inr (.inr (.inr (.inr (l, m, n)))) => cc l m n
/-- What it gives: 80 a point, 76 a line, 63 an answer. -/
def srt : Cmd → Nat
  | .inl (.inl (.inl (.inl _))) => 80
  | .inl (.inl (.inl (.inr _))) => 76
  | .inl (.inl (.inr _)) => 76
  | .inl (.inr _) => 80
  | .inr _ => 63
def hm (k : Nat) : Tr := ⟨3 * k, 3 * k + 1, 3 * k + 2⟩
def kp3 (s : Nat) (m : Tr) (k : Nat) : List Stp := [⟨4, 3 * k, m.x, s⟩, ⟨4, 3 * k + 1, m.y, s⟩, ⟨4, 3 * k + 2, m.w, s⟩]
def kpP (s : Nat) (m : Tr) (k : Nat) : List Stp := ⟨5, s, m.w, 0⟩ :: kp3 s m k
def kpL (s : Nat) (m : Tr) (k : Nat) : List Stp := ⟨1, s, 1, 0⟩ :: kp3 s m k
def out1 (s : Nat) : List Stp := [⟨6, s, 0, 0⟩]
def cmdL (k i : Nat) : Cmd → List Stp
  | .inl (.inl (.inl (.inl (.inl ())))) => givenL 48 i ++ kpP 51 (givenR 48) k
  | .inl (.inl (.inl (.inl (.inr (a, b))))) => midL 48 (hm a) (hm b) ++ kpP 56 (midR 48) k
  | .inl (.inl (.inl (.inr (a, b)))) => crossL 48 (hm a) (hm b) ++ (prodS 57 50 50 53 53 ++ (⟨7, 59, 0, k⟩ :: kpL 60 (crossR 48) k))
  | .inl (.inl (.inr (.inl (p, l)))) => parL 48 (hm p) (hm l) ++ kpL 55 (parR 48) k
  | .inl (.inl (.inr (.inr (p, l)))) => uprL 48 (hm p) (hm l) ++ kpL 57 (uprR 48) k
  | .inl (.inr (.inl (.inl (l, m)))) => crossL 48 (hm l) (hm m) ++ (⟨7, 56, 1, k⟩ :: kpP 57 (crossR 48) k)
  | .inl (.inr (.inl (.inr (p, l)))) => footL 48 (hm p) (hm l) ++ kpP 66 (footR 48) k
  | .inl (.inr (.inr (.inl (p, l)))) => mirL 48 (hm p) (hm l) ++ kpP 75 (mirR 48) k
  | .inl (.inr (.inr (.inr (a, b, c)))) => cenL 48 (hm a) (hm b) (hm c) ++ (⟨7, 108, 2, k⟩ :: kpP 109 (cenR 48) k)
  | .inr (.inl (.inl (.inl (.inl (a, b))))) => samL 48 (hm a) (hm b) ++ (isnL 58 57 ++ out1 61)
  | .inr (.inl (.inl (.inl (.inr (a, b, c))))) => volL 48 (hm a) (hm b) (hm c) ++ (isnL 62 61 ++ out1 65)
  | .inr (.inl (.inl (.inr (a, b, c)))) => volL 48 (hm a) (hm b) (hm c) ++ out1 61
  | .inr (.inl (.inr (.inl (a, b, c)))) => btwL 48 (hm a) (hm b) (hm c) ++ out1 85
  | .inr (.inl (.inr (.inr (a, b, c, d)))) => rndL 48 (hm a) (hm b) (hm c) (hm d) ++ (isnL 98 97 ++ out1 101)
  | .inr (.inr (.inl (.inl (p, l)))) => dotL 48 (hm p) (hm l) ++ (isnL 53 52 ++ out1 56)
  | .inr (.inr (.inl (.inr (l, m)))) => prodD 48 (hm l).x (hm m).y (hm l).y (hm m).x ++ (isnL 51 50 ++ out1 54)
  | .inr (.inr (.inr (.inl (l, m)))) => prodS 48 (hm l).x (hm m).x (hm l).y (hm m).y ++ (isnL 51 50 ++ out1 54)
  | .inr (.inr (.inr (.inr (l, m, n)))) => volL 48 (hm l) (hm m) (hm n) ++ (isnL 62 61 ++ out1 65)
def insC : Cmd → Nat
  | .inl (.inl (.inl (.inl (.inl ())))) => 2
  | .inl (.inl (.inl (.inl (.inr _)))) => 0
  | .inl (.inl (.inl (.inr _))) => 0
  | .inl (.inl (.inr _)) => 0
  | .inl (.inr _) => 0
  | .inr _ => 0
def cmdsL : List Cmd → Nat → Nat → List Stp
  | [], _, _ => []
  | c :: r, k, i => cmdL k i c ++ cmdsL r (k + 1) (i + insC c)
def t0 : T3 := ⟨0, 0, 0⟩
def th (D : List T3) (j : Nat) : T3 := D[j]?.getD t0
def inp (ins : List Int) (j : Nat) : Int := ins[j]?.getD 0
/-- What a construction gives, as it is made. -/
def valC (D : List T3) (ins : List Int) (i : Nat) : Cmd → T3
  | .inl (.inl (.inl (.inl (.inl ())))) => ⟨inp ins i, inp ins (i + 1), 1⟩
  | .inl (.inl (.inl (.inl (.inr (a, b))))) => midV (th D a) (th D b)
  | .inl (.inl (.inl (.inr (a, b)))) => crossV (th D a) (th D b)
  | .inl (.inl (.inr (.inl (p, l)))) => parV (th D p) (th D l)
  | .inl (.inl (.inr (.inr (p, l)))) => uprV (th D p) (th D l)
  | .inl (.inr (.inl (.inl (l, m)))) => crossV (th D l) (th D m)
  | .inl (.inr (.inl (.inr (p, l)))) => footV (th D p) (th D l)
  | .inl (.inr (.inr (.inl (p, l)))) => mirV (th D p) (th D l)
  | .inl (.inr (.inr (.inr (a, b, c)))) => cenV (th D a) (th D b) (th D c)
  | .inr _ => t0
/-- Nought: it cannot be made. -/
def stopC (m : T3) : Cmd → Int
  | .inl (.inl (.inl (.inl _))) => 1
  | .inl (.inl (.inl (.inr _))) => m.x * m.x + m.y * m.y
  | .inl (.inl (.inr _)) => 1
  | .inl (.inr (.inl (.inl _))) => m.w
  | .inl (.inr (.inl (.inr _))) => 1
  | .inl (.inr (.inr (.inl _))) => 1
  | .inl (.inr (.inr (.inr _))) => m.w
  | .inr _ => 1
def lettC : Cmd → UInt8
  | .inl (.inl (.inl (.inl _))) => 99
  | .inl (.inl (.inl (.inr _))) => 115
  | .inl (.inl (.inr _)) => 99
  | .inl (.inr (.inl (.inl _))) => 112
  | .inl (.inr (.inl (.inr _))) => 99
  | .inl (.inr (.inr _)) => 99
  | .inr _ => 99
def mul3 (m : T3) (f : Int) : T3 := ⟨m.x * f, m.y * f, m.w * f⟩
def facC (m : T3) (c : Cmd) : Int := if srt c = 80 then sgn m.w else 1
def askC (D : List T3) : Cmd → Int
  | .inl _ => 0
  | .inr (.inl (.inl (.inl (.inl (a, b))))) => isnV (samV (th D a) (th D b))
  | .inr (.inl (.inl (.inl (.inr (a, b, c))))) => isnV (volV (th D a) (th D b) (th D c))
  | .inr (.inl (.inl (.inr (a, b, c)))) => volV (th D a) (th D b) (th D c)
  | .inr (.inl (.inr (.inl (a, b, c)))) => btwV (th D a) (th D b) (th D c)
  | .inr (.inl (.inr (.inr (a, b, c, d)))) => isnV (rndV (th D a) (th D b) (th D c) (th D d))
  | .inr (.inr (.inl (.inl (p, l)))) => isnV (dotV (th D p) (th D l))
  | .inr (.inr (.inl (.inr (l, m)))) => isnV ((th D l).x * (th D m).y - (th D l).y * (th D m).x)
  | .inr (.inr (.inr (.inl (l, m)))) => isnV ((th D l).x * (th D m).x + (th D l).y * (th D m).y)
  | .inr (.inr (.inr (.inr (l, m, n)))) => isnV (volV (th D l) (th D m) (th D n))
/-- The report. -/
def semC (ins : List Int) : List Cmd → Nat → Nat → List T3 → ByteArray → ByteArray
  | [], _, _, _, s => s
  | c :: r, k, i, D, s =>
    if srt c = 63 then semC ins r (k + 1) i (D ++ [t0]) (s ++ ⟨#[if 0 < askC D c then 49 else 48]⟩)
    else if stopC (valC D ins i c) c = 0 then s ++ ⟨#[lettC c]⟩ ++ dec (k : Int)
    else semC ins r (k + 1) (i + insC c) (D ++ [mul3 (valC D ins i c) (facC (valC D ins i c) c)]) s
def isP (C : List Cmd) (a : Nat) : Prop := ∃ h : a < C.length, srt C[a] = 80
def isLn (C : List Cmd) (a : Nat) : Prop := ∃ h : a < C.length, srt C[a] = 76
def okC (C : List Cmd) : Cmd → Prop
  | .inl (.inl (.inl (.inl (.inl ())))) => True
  | .inl (.inl (.inl (.inl (.inr (a, b))))) => isP C a ∧ isP C b
  | .inl (.inl (.inl (.inr (a, b)))) => isP C a ∧ isP C b
  | .inl (.inl (.inr (.inl (p, l)))) => isP C p ∧ isLn C l
  | .inl (.inl (.inr (.inr (p, l)))) => isP C p ∧ isLn C l
  | .inl (.inr (.inl (.inl (l, m)))) => isLn C l ∧ isLn C m
  | .inl (.inr (.inl (.inr (p, l)))) => isP C p ∧ isLn C l
  | .inl (.inr (.inr (.inl (p, l)))) => isP C p ∧ isLn C l
  | .inl (.inr (.inr (.inr (a, b, c)))) => isP C a ∧ isP C b ∧ isP C c
  | .inr (.inl (.inl (.inl (.inl (a, b))))) => isP C a ∧ isP C b
  | .inr (.inl (.inl (.inl (.inr (a, b, c))))) => isP C a ∧ isP C b ∧ isP C c
  | .inr (.inl (.inl (.inr (a, b, c)))) => isP C a ∧ isP C b ∧ isP C c
  | .inr (.inl (.inr (.inl (a, b, c)))) => isP C a ∧ isP C b ∧ isP C c
  | .inr (.inl (.inr (.inr (a, b, c, d)))) => isP C a ∧ isP C b ∧ isP C c ∧ isP C d
  | .inr (.inr (.inl (.inl (p, l)))) => isP C p ∧ isLn C l
  | .inr (.inr (.inl (.inr (l, m)))) => isLn C l ∧ isLn C m
  | .inr (.inr (.inr (.inl (l, m)))) => isLn C l ∧ isLn C m
  | .inr (.inr (.inr (.inr (l, m, n)))) => isLn C l ∧ isLn C m ∧ isLn C n
def wt (W : List Nat) (j : Nat) : Nat := W[j]?.getD 0
def wtC (W : List Nat) : Cmd → Nat
  | .inl (.inl (.inl (.inl (.inl ())))) => 1
  | .inl (.inl (.inl (.inl (.inr (a, b))))) => wt W a + wt W b
  | .inl (.inl (.inl (.inr (a, b)))) => wt W a + wt W b
  | .inl (.inl (.inr (.inl (p, l)))) => wt W p + wt W l
  | .inl (.inl (.inr (.inr (p, l)))) => wt W p + wt W l
  | .inl (.inr (.inl (.inl (l, m)))) => wt W l + wt W m
  | .inl (.inr (.inl (.inr (p, l)))) => wt W p + wt W l + wt W l
  | .inl (.inr (.inr (.inl (p, l)))) => 2 * (wt W p + wt W l)
  | .inl (.inr (.inr (.inr (a, b, c)))) => 4 * (wt W a + wt W b + wt W c)
  | .inr _ => 0
/-- Right statements behind those of C, which weigh W. -/
def Wf : List Cmd → List Nat → List Cmd → Prop
  | _, _, [] => True
  | C, W, c :: r => okC C c ∧ wtC W c ≤ 64 ∧ Wf (C ++ [c]) (W ++ [wtC W c]) r
def cntI (r : List Cmd) : Nat := (r.map insC).sum
/-- c |v| is at most d A. -/
def BdM (c d A : Nat) (v : Int) : Prop := c * v.natAbs ≤ d * A
theorem BdM.mul {c d A c' d' A' : Nat} {x y : Int} (h : BdM c d A x) (k : BdM c' d' A' y) : BdM (c * c') (d * d') (A * A') (x * y) := by
  unfold BdM at *
  rw [Int.natAbs_mul]
  have := Nat.mul_le_mul h k
  grind
theorem BdM.add {c d d' A : Nat} {x y : Int} (h : BdM c d A x) (k : BdM c d' A y) : BdM c (d + d') A (x + y) := by
  unfold BdM at *
  have h1 : c * (x + y).natAbs ≤ c * (x.natAbs + y.natAbs) := Nat.mul_le_mul_left c (Int.natAbs_add_le x y)
  grind
theorem BdM.neg {c d A : Nat} {x : Int} (h : BdM c d A x) : BdM c d A (0 - x) := by
  unfold BdM at *; rw [Int.zero_sub, Int.natAbs_neg]; exact h
theorem BdM.sub {c d d' A : Nat} {x y : Int} (h : BdM c d A x) (k : BdM c d' A y) : BdM c (d + d') A (x - y) := by
  have := h.add k.neg
  rwa [show x + (0 - y) = x - y by omega] at this
theorem BdM.comm {c d A A' : Nat} {x : Int} (h : BdM c d (A * A') x) : BdM c d (A' * A) x := by rw [Nat.mul_comm]; exact h
def B3 (c d A : Nat) (v : T3) : Prop := BdM c d A v.x ∧ BdM c d A v.y ∧ BdM c d A v.w
theorem B3.cross {c d A c' d' A' : Nat} {u v : T3} (h : B3 c d A u) (k : B3 c' d' A' v) : B3 (c * c') (d * d' + d * d') (A * A') (crossV u v) :=
  ⟨(h.2.1.mul k.2.2).sub (h.2.2.mul k.2.1), (h.2.2.mul k.1).sub (h.1.mul k.2.2), (h.1.mul k.2.1).sub (h.2.1.mul k.1)⟩
theorem B3.mid {c d A A' : Nat} {u v : T3} (h : B3 c d A u) (k : B3 c d A' v) : B3 (c * c) (d * d + d * d) (A * A') (midV u v) :=
  ⟨(h.1.mul k.2.2).add (k.1.mul h.2.2).comm, (h.2.1.mul k.2.2).add (k.2.1.mul h.2.2).comm, (h.2.2.mul k.2.2).add (h.2.2.mul k.2.2)⟩
theorem BdM.up {c d d' A : Nat} {x : Int} (h : BdM c d A x) (k : d ≤ d') : BdM c d' A x := Nat.le_trans h (Nat.mul_le_mul_right A k)
theorem B3.par {c d A c' d' A' : Nat} {p l : T3} (h : B3 c d A p) (k : B3 c' d' A' l) : B3 (c' * c) (d' * d + d' * d) (A' * A) (parV p l) :=
  ⟨(k.1.mul h.2.2).up (by omega), (k.2.1.mul h.2.2).up (by omega), ((k.1.mul h.1).add (k.2.1.mul h.2.1)).neg⟩
theorem B3.upr {c d A c' d' A' : Nat} {p l : T3} (h : B3 c d A p) (k : B3 c' d' A' l) : B3 (c' * c) (d' * d + d' * d) (A' * A) (uprV p l) := h.par ⟨k.2.1, k.1.neg, k.2.2⟩
def Bw (w : Nat) (v : T3) : Prop := B3 3 1 (297 ^ w) v
theorem BdM.fin {c d A A' : Nat} {x : Int} (h : BdM c d A x) (h0 : 0 < c) (hc : 3 * d ≤ c) (hA : A ≤ A') : BdM 3 1 A' x := by
  unfold BdM at *
  have h2 : 3 * d * A ≤ c * A := Nat.mul_le_mul_right A hc
  have h3 : c * (3 * x.natAbs) ≤ c * A := by grind
  have := Nat.le_of_mul_le_mul_left h3 h0
  omega
theorem B3.fin {c d A w : Nat} {x : T3} (h : B3 c d A x) (h0 : 0 < c) (hc : 3 * d ≤ c) (hA : A ≤ 297 ^ w) : Bw w x := ⟨h.1.fin h0 hc hA, h.2.1.fin h0 hc hA, h.2.2.fin h0 hc hA⟩
theorem p297 (a b : Nat) : 297 ^ a * 297 ^ b ≤ 297 ^ (a + b) := by rw [Nat.pow_add]; exact Nat.le_refl _
theorem q297 {a b : Nat} (h : a ≤ b) : 297 ^ a ≤ 297 ^ b := Nat.pow_le_pow_right (by omega) h
theorem Bw.cross {a b : Nat} {u v : T3} (h : Bw a u) (k : Bw b v) : Bw (a + b) (crossV u v) := (B3.cross h k).fin (by omega) (by omega) (p297 a b)
theorem Bw.mid {a b : Nat} {u v : T3} (h : Bw a u) (k : Bw b v) : Bw (a + b) (midV u v) := (B3.mid h k).fin (by omega) (by omega) (p297 a b)
theorem Bw.par {a b : Nat} {u v : T3} (h : Bw a u) (k : Bw b v) : Bw (a + b) (parV u v) := (B3.par h k).fin (by omega) (by omega) (by rw [Nat.add_comm]; exact p297 b a)
theorem Bw.upr {a b : Nat} {u v : T3} (h : Bw a u) (k : Bw b v) : Bw (a + b) (uprV u v) := (B3.upr h k).fin (by omega) (by omega) (by rw [Nat.add_comm]; exact p297 b a)
theorem Bw.foot {a b : Nat} {u v : T3} (h : Bw a u) (k : Bw b v) : Bw (a + b + b) (footV u v) := (B3.cross (B3.upr h k) k).fin (by omega) (by omega) (by rw [← Nat.pow_add, ← Nat.pow_add]; exact q297 (by omega))
theorem Bw.mir {a b : Nat} {u v : T3} (h : Bw a u) (k : Bw b v) : Bw (2 * (a + b)) (mirV u v) := by
  have f := B3.cross (B3.upr h k) k
  have e : 297 ^ b * 297 ^ a * 297 ^ b * 297 ^ a ≤ 297 ^ (2 * (a + b)) := by rw [← Nat.pow_add, ← Nat.pow_add, ← Nat.pow_add]; exact q297 (by omega)
  refine ⟨(((f.1.add f.1).mul h.2.2).sub (h.1.mul f.2.2).comm).fin (by omega) (by omega) e, (((f.2.1.add f.2.1).mul h.2.2).sub (h.2.1.mul f.2.2).comm).fin (by omega) (by omega) e, (f.2.2.mul h.2.2).fin (by omega) (by omega) e⟩
theorem Bw.cen {a b c : Nat} {u v t : T3} (h : Bw a u) (k : Bw b v) (j : Bw c t) : Bw (4 * (a + b + c)) (cenV u v t) := by
  have h1 := B3.upr (B3.mid h k) (B3.cross h k)
  have h2 := B3.upr (B3.mid h j) (B3.cross h j)
  refine (B3.cross h1 h2).fin (by omega) (by omega) ?_
  rw [← Nat.pow_add, ← Nat.pow_add, ← Nat.pow_add, ← Nat.pow_add, ← Nat.pow_add]; exact q297 (by omega)
theorem BdM.sg {A : Nat} {x f : Int} (h : BdM 3 1 A x) (hf : f.natAbs ≤ 1) : BdM 3 1 A (x * f) := by
  unfold BdM at *
  rw [Int.natAbs_mul]
  have := Nat.mul_le_mul_left x.natAbs hf
  omega
theorem Bw.sg {w : Nat} {v : T3} {f : Int} (h : Bw w v) (hf : f.natAbs ≤ 1) : Bw w (mul3 v f) := ⟨h.1.sg hf, h.2.1.sg hf, h.2.2.sg hf⟩
theorem sgn_abs (x : Int) : (sgn x).natAbs ≤ 1 := by rcases sgn_cases x with h | h | h <;> rw [h.1] <;> decide
theorem facC_abs (m : T3) (c : Cmd) : (facC m c).natAbs ≤ 1 := by
  unfold facC; split
  · exact sgn_abs _
  · decide
theorem Bw.sm {w M : Nat} {v : T3} (h : Bw w v) (hw : w ≤ 64) (hM : 297 ^ 64 ≤ M) : Sm M v.x ∧ Sm M v.y ∧ Sm M v.w := by
  have q := q297 hw
  obtain ⟨h1, h2, h3⟩ := h
  unfold BdM at h1 h2 h3
  unfold Sm
  generalize 297 ^ w = A at *
  generalize 297 ^ 64 = A' at *
  omega
end Go.Proofs.YtmnfndpbblpjiaaGreatDoor.Pu

/- What is made of right statements tells their report. -/
namespace Go.Proofs.YtmnfndpbblpjiaaGreatDoor.Pu
section
variable {B : Nat} {ins : List Int} {l : List Stp} {R R' : List Int} {Q : List Int → Prop} {M : Nat}
theorem rn_set {op x y z : Nat} (v : Int) (hR : R.length = 128) (hs : x < 128) (hop : op < 6) (hv : valOf ⟨op, x, y, z⟩ R ins = v) (hb : v.natAbs < B) (k : ∀ R', R'.length = 128 → (∀ r, r ≠ x → reg R' r = reg R r) → reg R' x = v → Rn B ins l R' Q) : Rn B ins (⟨op, x, y, z⟩ :: l) R Q := by
  have hb' : ¬ B ≤ (valOf ⟨op, x, y, z⟩ R ins).natAbs := by rw [hv]; omega
  obtain ⟨R2, h2, k2⟩ := k (R.set x v) (by simpa using hR) (fun r hr => reg_set_ne hr) (reg_set_eq (by omega))
  refine ⟨R2, h2, fun rest st => ?_⟩
  rw [List.cons_append, play_set hop hb', hv]
  exact k2 rest st
/-- At home: three registers are set, nothing else below 48. -/
def Kept (k : Nat) (v : T3) (R R' : List Int) : Prop := R'.length = 128 ∧ (∀ r, r < 48 → r ≠ 3 * k → r ≠ 3 * k + 1 → r ≠ 3 * k + 2 → reg R' r = reg R r) ∧ reg R' (3 * k) = v.x ∧ reg R' (3 * k + 1) = v.y ∧ reg R' (3 * k + 2) = v.w
theorem mul_abs {x f : Int} {N : Nat} (hx : Sm N x) (hf : f.natAbs ≤ 1) (hb : N < B) : (x * f).natAbs < B := by
  unfold Sm at hx
  rw [Int.natAbs_mul]
  have := Nat.mul_le_mul_left x.natAbs hf
  omega
theorem rn_kp3 {s N k : Nat} {m : Tr} {v : T3} {f : Int} (hR : R.length = 128) (hk : k < 16) (hs : 48 ≤ s) (hm : m.x ≥ 48 ∧ m.y ≥ 48 ∧ m.w ≥ 48) (hv : Tv s N R m v) (hf : reg R s = f) (hf1 : f.natAbs ≤ 1) (hB : N < B) (kk : ∀ R', Kept k (mul3 v f) R R' → Rn B ins l R' Q) : Rn B ins (kp3 s m k ++ l) R Q := by
  refine rn_set (v.x * f) hR (by omega) (by omega) (val_mul hv.1.2.1 hf) (mul_abs hv.1.2.2 hf1 hB) ?_
  intro R1 n1 k1 e1
  refine rn_set (v.y * f) n1 (by omega) (by omega) (val_mul (by rw [k1 _ (by omega)]; exact hv.2.1.2.1) (by rw [k1 _ (by omega)]; exact hf)) (mul_abs hv.2.1.2.2 hf1 hB) ?_
  intro R2 n2 k2 e2
  refine rn_set (v.w * f) n2 (by omega) (by omega) (val_mul (by rw [k2 _ (by omega), k1 _ (by omega)]; exact hv.2.2.2.1) (by rw [k2 _ (by omega), k1 _ (by omega)]; exact hf)) (mul_abs hv.2.2.2.2 hf1 hB) ?_
  intro R3 n3 k3 e3
  exact kk R3 ⟨n3, fun r _ h1 h2 h3 => by rw [k3 _ h3, k2 _ h2, k1 _ h1], by rw [k3 _ (by omega), k2 _ (by omega)]; exact e1, by rw [k3 _ (by omega)]; exact e2, e3⟩
theorem Kept.lo {k s : Nat} {v : T3} {R1 R2 : List Int} (h : Lo s R R1) (hs : 48 ≤ s) (kk : Kept k v R1 R2) : Kept k v R R2 := ⟨kk.1, fun r h1 h2 h3 h4 => by rw [kk.2.1 r h1 h2 h3 h4, h.2 r (by omega)], kk.2.2⟩
theorem rn_kpP {s N k : Nat} {m : Tr} {v : T3} (hR : R.length = 128) (hk : k < 16) (hs : 48 ≤ s) (hs2 : s < 128) (hm : m.x ≥ 48 ∧ m.y ≥ 48 ∧ m.w ≥ 48) (h1 : 1 ≤ N) (hv : Tv s N R m v) (hB : N < B) (kk : ∀ R', Kept k (mul3 v (sgn v.w)) R R' → Rn B ins l R' Q) : Rn B ins (kpP s m k ++ l) R Q := by
  refine rn_work (sgn v.w) N hR hs2 (by omega) (val_sgn hv.2.2.2.1) (.sgn _ h1) hB ?_
  intro R1 l1 v1
  have hv1 : Tv s N R1 m v := hv.lo l1 s N (Nat.le_refl _) (Nat.le_refl _)
  refine rn_kp3 l1.1 hk hs hm hv1 v1.2.1 (sgn_abs _) hB ?_
  intro R2 k2
  exact kk R2 (Kept.lo l1 hs k2)
theorem rn_kpL {s N k : Nat} {m : Tr} {v : T3} (hR : R.length = 128) (hk : k < 16) (hs : 48 ≤ s) (hs2 : s < 128) (hm : m.x ≥ 48 ∧ m.y ≥ 48 ∧ m.w ≥ 48) (h1 : 1 ≤ N) (hv : Tv s N R m v) (hB : N < B) (kk : ∀ R', Kept k (mul3 v 1) R R' → Rn B ins l R' Q) : Rn B ins (kpL s m k ++ l) R Q := by
  refine rn_work 1 N hR hs2 (by omega) val_con (by unfold Sm; simpa using h1) hB ?_
  intro R1 l1 v1
  have hv1 : Tv s N R1 m v := hv.lo l1 s N (Nat.le_refl _) (Nat.le_refl _)
  refine rn_kp3 l1.1 hk hs hm hv1 v1.2.1 (by decide) hB ?_
  intro R2 k2
  exact kk R2 (Kept.lo l1 hs k2)
/-- The homes hold what has been made; it weighs no more than it may. -/
structure Inv (M : Nat) (C : List Cmd) (W : List Nat) (D : List T3) (R : List Int) : Prop where
  len : R.length = 128
  dl : D.length = C.length
  wl : W.length = C.length
  w64 : ∀ j, wt W j ≤ 64
  at_ : ∀ j (h : j < C.length), srt C[j] ≠ 63 → reg R (3 * j) = (th D j).x ∧ reg R (3 * j + 1) = (th D j).y ∧ reg R (3 * j + 2) = (th D j).w ∧ Bw (wt W j) (th D j)
theorem th_snoc {D : List T3} {v : T3} {j : Nat} (h : j < D.length) : th (D ++ [v]) j = th D j := by simp [th, List.getElem?_append_left h]
theorem th_last (D : List T3) (v : T3) : th (D ++ [v]) D.length = v := by simp [th]
theorem wt_snoc {W : List Nat} {v j : Nat} (h : j < W.length) : wt (W ++ [v]) j = wt W j := by simp [wt, List.getElem?_append_left h]
theorem wt_last (W : List Nat) (v : Nat) : wt (W ++ [v]) W.length = v := by simp [wt]
theorem wt_out {W : List Nat} {j : Nat} (h : W.length ≤ j) : wt W j = 0 := by simp [wt, List.getElem?_eq_none h]
theorem w64_snoc {W : List Nat} {v : Nat} (h : ∀ j, wt W j ≤ 64) (hv : v ≤ 64) : ∀ j, wt (W ++ [v]) j ≤ 64 := by
  intro j
  by_cases h1 : j < W.length
  · rw [wt_snoc h1]; exact h j
  · by_cases h2 : j = W.length
    · subst h2; rw [wt_last]; exact hv
    · rw [wt_out (by simp; omega)]; omega
variable {C : List Cmd} {W : List Nat} {D : List T3}
theorem Inv.tv (h : Inv M C W D R) (hM : 297 ^ 64 ≤ M) (hk : C.length ≤ 16) {j : Nat} (hj : j < C.length) (hs : srt C[j] ≠ 63) : Tv 48 M R (hm j) (th D j) := by
  obtain ⟨a1, a2, a3, a4⟩ := h.at_ j hj hs
  obtain ⟨b1, b2, b3⟩ := a4.sm (h.w64 j) hM
  have hx : (hm j).x = 3 * j := rfl
  have hy : (hm j).y = 3 * j + 1 := rfl
  have hw : (hm j).w = 3 * j + 2 := rfl
  exact ⟨⟨by omega, a1, b1⟩, ⟨by omega, a2, b2⟩, ⟨by omega, a3, b3⟩⟩
theorem Inv.P (h : Inv M C W D R) (hM : 297 ^ 64 ≤ M) (hk : C.length ≤ 16) {j : Nat} (hj : isP C j) : Tv 48 M R (hm j) (th D j) := h.tv hM hk hj.1 (by rw [hj.2]; omega)
theorem Inv.L (h : Inv M C W D R) (hM : 297 ^ 64 ≤ M) (hk : C.length ≤ 16) {j : Nat} (hj : isLn C j) : Tv 48 M R (hm j) (th D j) := h.tv hM hk hj.1 (by rw [hj.2]; omega)
theorem Inv.bP (h : Inv M C W D R) {j : Nat} (hj : isP C j) : Bw (wt W j) (th D j) := (h.at_ j hj.1 (by rw [hj.2]; omega)).2.2.2
theorem Inv.bL (h : Inv M C W D R) {j : Nat} (hj : isLn C j) : Bw (wt W j) (th D j) := (h.at_ j hj.1 (by rw [hj.2]; omega)).2.2.2
theorem Inv.ask (h : Inv M C W D R) (hk : C.length < 16) {c : Cmd} (hc : srt c = 63) {s : Nat} (hs : 48 ≤ s) (l : Lo s R R') : Inv M (C ++ [c]) (W ++ [wtC W c]) (D ++ [t0]) R' := by
  have h0 : wtC W c = 0 := by cases c using Cmd.el <;> simp [srt] at hc <;> rfl
  refine ⟨l.1, by simp [h.dl], by simp [h.wl], w64_snoc h.w64 (by omega), fun j hj hn => ?_⟩
  by_cases hl : j < C.length
  · rw [List.getElem_append_left hl] at hn
    obtain ⟨a1, a2, a3, a4⟩ := h.at_ j hl hn
    rw [th_snoc (by rw [h.dl]; exact hl), wt_snoc (by rw [h.wl]; exact hl), l.2 _ (by omega), l.2 _ (by omega), l.2 _ (by omega)]
    exact ⟨a1, a2, a3, a4⟩
  · have : j = C.length := by simp at hj; omega
    subst this
    simp at hn; exact absurd hc hn
theorem Inv.made (h : Inv M C W D R) (hk : C.length < 16) {c : Cmd} {v : T3} (kk : Kept C.length v R R') (hw : wtC W c ≤ 64) (hb : Bw (wtC W c) v) : Inv M (C ++ [c]) (W ++ [wtC W c]) (D ++ [v]) R' := by
  refine ⟨kk.1, by simp [h.dl], by simp [h.wl], w64_snoc h.w64 hw, fun j hj hn => ?_⟩
  by_cases hl : j < C.length
  · rw [List.getElem_append_left hl] at hn
    obtain ⟨a1, a2, a3, a4⟩ := h.at_ j hl hn
    rw [th_snoc (by rw [h.dl]; exact hl), wt_snoc (by rw [h.wl]; exact hl), kk.2.1 _ (by omega) (by omega) (by omega) (by omega), kk.2.1 _ (by omega) (by omega) (by omega) (by omega), kk.2.1 _ (by omega) (by omega) (by omega) (by omega)]
    exact ⟨a1, a2, a3, a4⟩
  · have : j = C.length := by simp at hj; omega
    subst this
    rw [← h.dl, th_last, h.dl, ← h.wl, wt_last, h.wl]
    exact ⟨kk.2.2.1, kk.2.2.2.1, kk.2.2.2.2, hb⟩
end
end Go.Proofs.YtmnfndpbblpjiaaGreatDoor.Pu

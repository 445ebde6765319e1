/- Codes: plain functions: execution. B is the bound of a number's size. -/
import Derived.Test.YtmnfndpbblpjiaaGreatDoorPv
import Derived.Test.YtmnfndpbblpjiaaGreatDoorPx
namespace Go.Proofs.YtmnfndpbblpjiaaGreatDoor.Pu

def sgn (x : Int) : Int := if x < 0 then -1 else if x = 0 then 0 else 1
def reg (regs : List Int) (r : Nat) : Int := regs[r]?.getD 0
/-- To which a step sets its register. -/
def valOf (t : Stp) (regs ins : List Int) : Int :=
  if t.op = 0 then ins[t.y]?.getD 0
  else if t.op = 1 then (t.y : Int)
  else if t.op = 2 then reg regs t.y + reg regs t.z
  else if t.op = 3 then reg regs t.y - reg regs t.z
  else if t.op = 4 then reg regs t.y * reg regs t.z
  else sgn (reg regs t.y)
def spc (y : Nat) : UInt8 := if y = 0 then 115 else if y = 1 then 112 else 99
/-- The report of right steps, and the error. -/
def play (B : Nat) (ins : List Int) : List Stp → List Int → ByteArray → ByteArray × Nat
  | [], _, s => (s, 0)
  | t :: l, regs, s =>
    if t.op < 6 then (if B ≤ (valOf t regs ins).natAbs then (⟨#[]⟩, 10) else play B ins l (regs.set t.x (valOf t regs ins)) s)
    else if t.op = 6 then play B ins l regs (s ++ ⟨#[if 0 < reg regs t.x then 49 else 48]⟩)
    else if reg regs t.x = 0 then (s ++ ⟨#[spc t.y]⟩ ++ dec (t.z : Int), 0)
    else play B ins l regs s
theorem play_big {B : Nat} {ins : List Int} {t : Stp} {l : List Stp} {regs : List Int} {s : ByteArray} (h : t.op < 6) (hb : B ≤ (valOf t regs ins).natAbs) : play B ins (t :: l) regs s = (⟨#[]⟩, 10) := by simp [play, h, hb]
theorem play_set {B : Nat} {ins : List Int} {t : Stp} {l : List Stp} {regs : List Int} {s : ByteArray} (h : t.op < 6) (hb : ¬ B ≤ (valOf t regs ins).natAbs) : play B ins (t :: l) regs s = play B ins l (regs.set t.x (valOf t regs ins)) s := by simp [play, h, hb]
theorem play_out {B : Nat} {ins : List Int} {t : Stp} {l : List Stp} {regs : List Int} {s : ByteArray} (h : t.op = 6) : play B ins (t :: l) regs s = play B ins l regs (s ++ ⟨#[if 0 < reg regs t.x then 49 else 48]⟩) := by simp [play, h]
theorem play_end {B : Nat} {ins : List Int} {t : Stp} {l : List Stp} {regs : List Int} {s : ByteArray} (h : 6 < t.op) (h0 : reg regs t.x = 0) : play B ins (t :: l) regs s = (s ++ ⟨#[spc t.y]⟩ ++ dec (t.z : Int), 0) := by
  rw [play, if_neg (by omega), if_neg (by omega), if_pos h0]
theorem play_on {B : Nat} {ins : List Int} {t : Stp} {l : List Stp} {regs : List Int} {s : ByteArray} (h : 6 < t.op) (h0 : reg regs t.x ≠ 0) : play B ins (t :: l) regs s = play B ins l regs s := by
  rw [play, if_neg (by omega), if_neg (by omega), if_neg h0]
/-- What Exec answers of texts that are not too long. -/
def exe (B : Nat) (s inp : ByteArray) : ByteArray × Nat :=
  if (vfy s).1 ≠ 0 then (⟨#[]⟩, (vfy s).1)
  else match inps inp with
    | none => (⟨#[]⟩, 9)
    | some ins => if ins.length ≠ g s 3 then (⟨#[]⟩, 9) else play B ins (steps s) (List.replicate 128 0) ⟨#[]⟩
end Go.Proofs.YtmnfndpbblpjiaaGreatDoor.Pu

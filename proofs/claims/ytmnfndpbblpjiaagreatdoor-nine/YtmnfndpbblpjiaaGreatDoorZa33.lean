/- What running a code and running a source have in common: start. -/
import Derived.Test.YtmnfndpbblpjiaaGreatDoorZa32
import Derived.Test.YtmnfndpbblpjiaaGreatDoorZa20
namespace Go.Proofs.YtmnfndpbblpjiaaGreatDoor
open Go.RowKit Pu
/-- What start tells of right steps that want n inputs. -/
def stt (B n : Nat) (l : List Stp) (inp : ByteArray) : ByteArray × Nat :=
  match inps inp with
  | none => (⟨#[]⟩, 9)
  | some ins => if ins.length ≠ n then (⟨#[]⟩, 9) else play B ins l (List.replicate 128 0) ⟨#[]⟩
theorem stt_none {B n : Nat} {l : List Stp} {inp : ByteArray} (h : inps inp = none) : stt B n l inp = (⟨#[]⟩, 9) := by unfold stt; rw [h]
theorem stt_count {B n : Nat} {l : List Stp} {inp : ByteArray} {ins : List Int} (h : inps inp = some ins) (k : ¬ ins.length = n) : stt B n l inp = (⟨#[]⟩, 9) := by unfold stt; rw [h]; simp [k]
theorem stt_play {B n : Nat} {l : List Stp} {inp : ByteArray} {ins : List Int} (h : inps inp = some ins) (k : ins.length = n) : stt B n l inp = play B ins l (List.replicate 128 0) ⟨#[]⟩ := by unfold stt; rw [h]; simp [k]
theorem exe_stt {B : Nat} {s inp : ByteArray} (h : vfy s = (0, 0)) : exe B s inp = stt B (g s 3) (steps s) inp := by unfold exe; rw [h]; rfl
set_option maxHeartbeats 800000 in
set_option maxRecDepth 4000 in
theorem start_any (B nn : Nat) (hB : B = 10 ^ nn) (hnn : nn = 8000) (r i : Nat) (v : Value) (l : List Stp) (base : Nat) (inp : ByteArray) (w : World) (hl : l.length ≤ 3000) (hL : PLst w base v l) (hi : inp.size ≤ 140) (h256 : i < 256) (hg : ∀ t ∈ l, Good i t) :
    Calls Tryz.prog 34 #[.agg #[.int .u8 r, .int .u8 i, v], .string inp] w fun e w' => e = .returned (.tuple #[.string (stt B i l inp).1, .int .i64 (stt B i l inp).2]) ∧ Mod (fun _ => False) w w' := by
  obtain ⟨ao, cap, rfl, -⟩ := owns_form hL
  have HB : Hid (B = 10 ^ nn) := hB
  have HNN : Hid (nn = 8000) := hnn
  have HG : Hid (∀ t ∈ l, Good i t) := hg
  have HLen : Hid (l.length ≤ 3000) := hl
  clear hB hnn hg
  have w3 : IntKind.i64.wrap (i : Int) = (i : Int) := by simp [IntKind.wrap, IntKind.signed, IntKind.bits]; omega
  have hpa := heap_alloc_new w (.cells #[.int .u8 r, .int .u8 i, .slice ao l.length cap] 52)
  have hma := (Mod.refl (fun _ => False) w).alloc (.cells #[.int .u8 r, .int .u8 i, .slice ao l.length cap] 52)
  have hLa := PLst.mod hL ((Mod.refl (fun _ => False) w).alloc (.cells #[.int .u8 r, .int .u8 i, .slice ao l.length cap] 52))
  have HH : Hid _ := And.intro hpa (And.intro hma hLa)
  clear hpa hma hLa hL hl
  go_enter Tryz.func34, Tryz.ntmps34
  go_wp2_with fail
  generalize w.alloc (.cells #[.int .u8 r, .int .u8 i, .slice ao l.length cap] 52) = w2 at *
  obtain ⟨hpa, hma, hLa⟩ := HH.out
  clear HH
  refine (pinputs_any inp w2 hi).mono ?_
  rintro e w3 ⟨hm3, he⟩
  have hp3 := hm3.keep hpa (fun f => f)
  have hm3w := hma.trans hm3
  have hL3 := hLa.mod hm3
  obtain ⟨c0, c1, c2⟩ := cells3 hp3
  clear hpa hma hLa hp3
  cases hin : inps inp with
  | none =>
    rw [hin] at he
    simp only at he
    subst he
    have HE : Hid (stt B i l inp = (⟨#[]⟩, 9)) := stt_none hin
    clear hm3 hL3 hin
    go_wp2_with fail
    go_ret2
    exact ⟨by rw [HE.out]; rfl, hm3w⟩
  | some ins =>
    rw [hin] at he
    simp only at he
    obtain ⟨v, rfl, hown⟩ := he
    obtain ⟨vo, vcap, rfl, -⟩ := owns_form hown
    have HR : Hid (∀ x ∈ ins, -100 < x ∧ x < 100) := inps_range hin
    by_cases hl : ins.length = i
    · have HE : Hid (stt B i l inp = play B ins l (List.replicate 128 0) ⟨#[]⟩) := stt_play hin hl
      have hbq : ((ins.length : Int) != (i : Int)) = false := bne_f hl
      have hx := execute_any B nn HB.out HNN.out r i (.slice ao l.length cap) (.slice vo ins.length vcap) l ins _ _ w3 HLen.out hL3 hown (by omega) HR.out (fun t ht => by rw [hl]; exact HG.out t ht)
      clear hl hin hm3 hL3 hown
      go_wp2_with fail
      refine hx.mono ?_
      rintro e w4 ⟨rfl, hm4⟩
      have hmE := hm3w.trans hm4
      clear hx hm4 hm3w
      go_wp2_with fail
      go_ret2
      exact ⟨by rw [HE.out]; rfl, hmE⟩
    · have HE : Hid (stt B i l inp = (⟨#[]⟩, 9)) := stt_count hin hl
      have hbq : ((ins.length : Int) != (i : Int)) = true := bne_t hl
      clear hl hin hm3 hL3 hown
      go_wp2_with fail
      go_ret2
      exact ⟨by rw [HE.out]; rfl, hm3w⟩
end Go.Proofs.YtmnfndpbblpjiaaGreatDoor

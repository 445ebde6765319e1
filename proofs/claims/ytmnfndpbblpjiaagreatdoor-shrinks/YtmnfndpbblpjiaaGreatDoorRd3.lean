/- readWord: up to six letters. -/
import Derived.Test.YtmnfndpbblpjiaaGreatDoorRd2
namespace Go.Proofs.YtmnfndpbblpjiaaGreatDoor
open Go.RowKit Pu

theorem Tryz.info5 : (Tryz.prog.info? 5).map (fun i => (i.zero, i.size, i.bytes)) = some (some (.int .u8 0), 1, 1) := by kernel_rfl

def WAt (s : ByteArray) (k n le ar : Nat) (l : List St) (nm : Nat) (wd : List UInt8) : Prop :=
  (wd = [] ∧ At s k 2 n le ar l ⟨nm, [], []⟩ false) ∨ (wd ≠ [] ∧ At s k 3 n wd.length ar l ⟨nm, wd, []⟩ false)
theorem WAt.step {s : ByteArray} {k n le ar : Nat} {l : List St} {nm : Nat} {wd : List UInt8} (h : WAt s k n le ar l nm wd) (hl : wd.length < 6) (hc : isL (g s k) = true) : WAt s (k + 1) n le ar l nm (wd ++ [bt s k]) := by
  rcases h with ⟨rfl, h⟩ | ⟨hn, h⟩
  · exact .inr ⟨by simp, by simpa using at_first h hc⟩
  · exact .inr ⟨by simp, by simpa using at_more h hl hc⟩

theorem word_end {s : ByteArray} {k n le ar : Nat} {l : List St} {nm sb : Nat} {wd : List UInt8} {w : World} {b : Bool} (h : WAt s k n le ar l nm wd) (hk : k ≤ s.size) (hS : Se w sb nm wd NoArgs 0) (h6 : wd.length = 6 ∨ isL (g s k) = false)
    (hb : b = decide (0 < wd.length) := by rfl) :
    (Ending.returned (.bool b) = .returned (.bool true) ∧ ∃ wd le', At s k 3 n le' ar l ⟨nm, wd, []⟩ false ∧ Se w sb nm wd NoArgs 0 ∧ (le' = 6 ∨ isL (g s k) = false)) ∨ (Ending.returned (.bool b) = .returned (.bool false) ∧ Stuck s k) := by
  subst hb
  rcases h with ⟨rfl, h⟩ | ⟨hn, h⟩
  · refine .inr ⟨by simp, stuck_of h hk (.inl (by omega)) ?_⟩
    rcases h6 with h6 | h6
    · simp at h6
    · simp [nx, h6]
  · refine .inl ⟨?_, wd, wd.length, h, hS, h6⟩
    have : 0 < wd.length := List.length_pos_iff.2 hn
    simp [this]

set_option maxHeartbeats 800000 in
set_option maxRecDepth 100000 in
theorem word_any (rb sb : Nat) (s : ByteArray) (k n le ar : Nat) (l : List St) (nm : Nat) (w : World) (hs : s.size ≤ 300) (hk : k ≤ s.size) (hr : Rd w rb s k) (hS : Se w sb nm [] NoArgs 0)
    (hA : At s k 2 n le ar l ⟨nm, [], []⟩ false) :
    Calls Tryz.prog 141 #[.pointer (some ⟨rb, 0, none⟩), .pointer (some ⟨sb, 0, none⟩)] w fun e w' => Mod (fun i => i = rb ∨ i = sb) w w' ∧ ∃ k', k' ≤ s.size ∧ Rd w' rb s k' ∧
      ((e = .returned (.bool true) ∧ ∃ wd le', At s k' 3 n le' ar l ⟨nm, wd, []⟩ false ∧ Se w' sb nm wd NoArgs 0 ∧ (le' = 6 ∨ isL (g s k') = false)) ∨ (e = .returned (.bool false) ∧ Stuck s k')) := by
  have hne := hS.ne hr
  have hrl := hr.lt
  have hsl := hS.lt
  obtain ⟨i0, hi, hz0, hz1, hz2⟩ := info_parts Tryz.info5
  go_enter Tryz.func141, Tryz.ntmps141
  go_wp2
  go_loopw [5] (fun v wr => ∃ (k' : Nat) (wd : List UInt8), wd.length ≤ 6 ∧ wr.ownsRow w.heap.size 5 1 v wd.length (bvs wd) ∧ Rd wr rb s k' ∧ WAt s k' n le ar l nm wd ∧ Se wr sb nm [] NoArgs 0 ∧ Mod (fun i => i = rb ∨ i = sb) w wr ∧ k' ≤ s.size)
    (fun v _ => 6 - sliceLen v)
  case atStart => exact ⟨k, [], by simp, World.ownsRow_nil _ _ _ _, hr, .inl ⟨rfl, hA⟩, hS, Mod.refl _ _, hk⟩
  case round =>
    obtain ⟨k', wd, hlen, hown, hr', hW, hS', hm, hk'⟩ := hrel
    obtain ⟨ao, cap, rfl, -⟩ := owns_form hown
    have hsz := hm.size
    by_cases hl6 : wd.length < 6
    · by_cases hL : isL (g s k') = true
      · have hc := (isL_iff _).1 hL
        have HL : Hid (isL (g s k') = true) := hL
        clear hL hS hr
        go_wp2_with fail
        refine (letter_yes rb s k' _ hs hk' hr' HL.out).mono ?_
        rintro e w2 ⟨rfl, hr2, hk2, hm2⟩
        have hown2 := owns_mod hown hm2 (fun q hq he => by omega)
        have hS2 := hS'.keep hm2 (fun h => hne h.symm)
        have hm3 := hm.trans (hm2.mono (q := fun i => i = rb ∨ i = sb) (fun _ _ h => .inl h))
        have hsz3 := hm3.size
        clear hown hr' hS' hm hm2
        go_wp2_with (at_builtin; refine wpList_append_own _ rfl _ _ 75 rfl w.heap.size 5 i0 (.int .u8 0) 1 1 Tryz.underlying75 hi hz0 hz1 hz2 rfl (by decide) _ _ _ rfl (hown2.alloc _) ⟨w2.heap.size, 0, none⟩ 1 1 [.int .u8 (g s k')] rfl rfl ?c1 ?c2 ?c3 ?c4 ?c5 ?_)
        case c1 => exact cell_one_new _ _ _
        case c2 => intro u hu; simp at hu; subst hu; rfl
        case c3 => unfold maxLen; omega
        case c4 => omega
        case c5 => simp; omega
        intro v' w4 hown4 hgrow _
        have hW' := hW.step hl6 HL.out
        have hm5 := (hm3.alloc _).grown hgrow (fun q hq hlt => by have := (hown2.lt q hq).1; omega)
        have hg2 : Mod (fun q => w.heap.size ≤ q) w2 w4 := ((Mod.refl _ w2).alloc _).grown hgrow (fun q hq _ => (hown2.lt q hq).1)
        have hr4 := hr2.keep hg2 (by omega)
        have hS4 := hS2.keep hg2 (by omega)
        have hown5 : w4.ownsRow w.heap.size 5 1 v' (wd ++ [bt s k']).length (bvs (wd ++ [bt s k'])) := by rw [← bvs_snoc, List.length_append]; exact hown4
        obtain ⟨ao', cap', rfl, -⟩ := owns_form hown4
        clear hown4 hgrow hown2 hr2 hS2 hm3 hg2 hW
        go_wp2
        go_roundw
        case rel => exact ⟨k' + 1, wd ++ [bt s k'], by simp; omega, hown5, hr4, hW', hS4, hm5, hk2⟩
        case measure => simp [sliceLen]; omega
      · have HL : Hid (isL (g s k') = false) := show isL (g s k') = false by simpa using hL
        clear hL hS hr
        go_wp2_with fail
        refine (letter_no rb s k' _ hs hk' hr' HL.out).mono ?_
        rintro e w2 ⟨rfl, hr2, hm2⟩
        have hown2 := owns_mod hown hm2 (fun q hq he => by omega)
        have hS2 := hS'.keep hm2 (fun h => hne h.symm)
        have hm3 := hm.trans (hm2.mono (q := fun i => i = rb ∨ i = sb) (fun _ _ h => .inl h))
        have hconv := convert_owned (P := Tryz.prog) (src := 75) (dst := 9) hown2 rfl Tryz.underlying75 Tryz.underlying5 Tryz.underlying9
        have cc := hS2.c1
        have cf := hS2.fz 1
        clear hown hr' hS' hm hm2 hown2
        go_wp2
        go_ret
        refine ⟨hm3.setCell _ _ (fun _ => .inr rfl), k', hk', hr2.keep ((Mod.refl (fun i => i = sb) w2).setCell _ _ (fun _ => rfl)) hne, ?_⟩
        exact word_end hW hk' (hS2.set1 wd) (.inr HL.out)
    · clear hS hr
      have hconv := convert_owned (P := Tryz.prog) (src := 75) (dst := 9) hown rfl Tryz.underlying75 Tryz.underlying5 Tryz.underlying9
      have cc := hS'.c1
      have cf := hS'.fz 1
      go_wp2
      go_ret
      refine ⟨hm.setCell _ _ (fun _ => .inr rfl), k', hk', hr'.keep ((Mod.refl (fun i => i = sb) wr).setCell _ _ (fun _ => rfl)) hne, ?_⟩
      exact word_end hW hk' (hS'.set1 wd) (.inl (by omega))
end Go.Proofs.YtmnfndpbblpjiaaGreatDoor

/- readArgs: the bracket, up to four names, the bracket. -/
import Derived.Test.YtmnfndpbblpjiabGreatDoorZb17
import Derived.Test.YtmnfndpbblpjiabGreatDoorZb01
namespace Go.Proofs.YtmnfndpbblpjiabGreatDoor
open Go.RowKit Pu

def AAt (s : ByteArray) (k n le : Nat) (l : List St) (nm : Nat) (wd ag : List UInt8) : Prop :=
  (ag = [] ∧ At s k 4 n le 0 l ⟨nm, wd, []⟩ true ∧ g s k ≠ 41) ∨ (ag ≠ [] ∧ At s k 6 n le ag.length l ⟨nm, wd, ag⟩ true)
theorem AAt.step {s : ByteArray} {k n le : Nat} {l : List St} {nm : Nat} {wd ag : List UInt8} (h : AAt s k n le l nm wd ag) (hc : isL (g s k) = true) : At s (k + 1) 5 n le (ag ++ [bt s k]).length l ⟨nm, wd, ag ++ [bt s k]⟩ true := by
  rcases h with ⟨rfl, h, _⟩ | ⟨hn, h⟩
  · simpa using at_arg (.inl h) hc
  · simpa using at_arg (.inr h) hc
theorem AAt.stuck {s : ByteArray} {k n le : Nat} {l : List St} {nm : Nat} {wd ag : List UInt8} (h : AAt s k n le l nm wd ag) (hk : k ≤ s.size) (hc : isL (g s k) = false) : Stuck s k := by
  rcases h with ⟨rfl, h, h41⟩ | ⟨hn, h⟩
  · exact stuck_of h hk (.inl (by omega)) (by simp [nx, hc, h41])
  · exact stuck_of h hk (.inl (by omega)) (by simp [nx, hc])
def lenAt (w : World) (sb : Nat) : Nat := sliceLen ((w.cell? ⟨sb, 2, none⟩).getD undef)
theorem Se.lenAt {w : World} {sb n : Nat} {wd : List UInt8} {av : Value} {wt : Int} (h : Se w sb n wd av wt) : lenAt w sb = sliceLen av := by unfold Go.Proofs.YtmnfndpbblpjiabGreatDoor.lenAt; rw [h.c2]; rfl
/-- What readArgs leaves. -/
def ArgsEnd (rb sb B : Nat) (s : ByteArray) (n : Nat) (l : List St) (nm : Nat) (wd : List UInt8) (e : Ending) (w' : World) : Prop := ∃ k', k' ≤ s.size ∧ Rd w' rb s k' ∧
      ((e = .returned (.bool true) ∧ ∃ ag av le' ar', At s k' 7 n le' ar' l ⟨nm, wd, ag⟩ false ∧ Se w' sb nm wd av 0 ∧ w'.ownsRow B 5 1 av ag.length (bvs ag)) ∨ (e = .returned (.bool false) ∧ Stuck s k'))

set_option maxHeartbeats 1600000 in
set_option maxRecDepth 100000 in
theorem args_any (rb sb : Nat) (s : ByteArray) (k n le ar : Nat) (l : List St) (nm : Nat) (wd : List UInt8) (w : World) (hs : s.size ≤ 300) (hk : k ≤ s.size) (hr : Rd w rb s k) (hS : Se w sb nm wd NoArgs 0)
    (hA : At s k 3 n le ar l ⟨nm, wd, []⟩ false) (h6 : le = 6 ∨ isL (g s k) = false) :
    Calls Tryz.prog 119 #[.pointer (some ⟨rb, 0, none⟩), .pointer (some ⟨sb, 0, none⟩)] w fun e w' => Mod (fun i => i = rb ∨ i = sb) w w' ∧ ArgsEnd rb sb w.heap.size s n l nm wd e w' := by
  have hne := hS.ne hr
  have hrl := hr.lt
  have hsl := hS.lt
  obtain ⟨i0, hi, hz0, hz1, hz2⟩ := info_parts Tryz.info5
  have H6 : Hid (le = 6 ∨ isL (g s k) = false) := h6
  clear h6
  by_cases h40 : g s k = 40
  · have hA4 := at_open hA h40
    have H40 : Hid (g s k = 40) := h40
    clear h40
    by_cases h41 : g s (k + 1) = 41
    · have H41 : Hid (g s (k + 1) = 41) := h41
      clear h41
      go_enter Tryz.func119, Tryz.ntmps119
      go_wp2_with fail
      refine (take_yes rb s k 40 _ hs hk hr (by omega) H40.out).mono ?_
      rintro e w1 ⟨rfl, hr1, hk1, hm1⟩
      go_wp2_with fail
      refine (take_yes rb s (k + 1) 41 _ hs hk1 hr1 (by omega) H41.out).mono ?_
      rintro e w2 ⟨rfl, hr2, hk2, hm2⟩
      go_wp2
      go_ret
      exact ⟨(hm1.trans hm2).mono (fun _ _ h => .inl h), k + 2, hk2, hr2, .inl ⟨rfl, [], NoArgs, _, _, at_none hA4 H41.out, (hS.keep hm1 (fun h => hne h.symm)).keep hm2 (fun h => hne h.symm), World.ownsRow_nil _ _ _ _⟩⟩
    · go_enter Tryz.func119, Tryz.ntmps119
      go_wp2_with fail
      refine (take_yes rb s k 40 _ hs hk hr (by omega) H40.out).mono ?_
      rintro e w1 ⟨rfl, hr1, hk1, hm1⟩
      go_wp2_with fail
      refine (take_no rb s (k + 1) 41 _ hs hk1 hr1 h41).mono ?_
      rintro e w2 ⟨rfl, hr2, hm2⟩
      have hS2 := (hS.keep hm1 (fun h => hne h.symm)).keep hm2 (fun h => hne h.symm)
      have hm2' : Mod (fun i => i = rb ∨ i = sb) w w2 := (hm1.trans hm2).mono (fun _ _ h => .inl h)
      have hAA : AAt s (k + 1) n le l nm wd [] := .inl ⟨rfl, hA4, h41⟩
      clear hm1 hm2 hS hr hr1 h41 hA4 hA
      go_wp2
      go_loopw [5] (fun _ wr => ∃ (k' : Nat) (ag : List UInt8) (av : Value), ag.length < 4 ∧ wr.ownsRow w.heap.size 5 1 av ag.length (bvs ag) ∧ Rd wr rb s k' ∧ AAt s k' n le l nm wd ag ∧ Se wr sb nm wd av 0 ∧ Mod (fun i => i = rb ∨ i = sb) w wr ∧ k' ≤ s.size)
        (fun _ wr => 4 - lenAt wr sb)
      case atStart => exact ⟨k + 1, [], NoArgs, by simp, World.ownsRow_nil _ _ _ _, hr2, hAA, hS2, hm2', hk1⟩
      case round =>
        clear hr2 hAA hS2 hm2' hk1
        obtain ⟨k', ag, av, hlen, hown, hr', hW, hS', hm, hk'⟩ := hrel
        obtain ⟨ao, cap, rfl, -⟩ := owns_form hown
        have hsz := hm.size
        have HLen : Hid (lenAt wr sb = ag.length) := hS'.lenAt
        have cc := hS'.c2
        by_cases hL : isL (g s k') = true
        · have hc := (isL_iff _).1 hL
          have hA5 := hW.step hL
          have HL : Hid (isL (g s k') = true) := hL
          have hnz : ((g s k' : Int) == 0) = false := by simp; omega
          clear hL hW
          go_wp2_with fail
          refine (letter_yes rb s k' _ hs hk' hr' HL.out).mono ?_
          rintro e w3 ⟨rfl, hr3, hk3, hm3⟩
          have hown3 := owns_mod hown hm3 (fun q hq he => by omega)
          have hS3 := hS'.keep hm3 (fun h => hne h.symm)
          have hm4 := hm.trans (hm3.mono (q := fun i => i = rb ∨ i = sb) (fun _ _ h => .inl h))
          have hsz3 := hm4.size
          clear cc hown hr' hS' hm hm3 hsz
          have cc := hS3.c2
          go_wp2_with (at_builtin; refine wpList_append_own _ rfl _ _ 70 rfl w.heap.size 5 i0 (.int .u8 0) 1 1 Tryz.underlying70 hi hz0 hz1 hz2 rfl (by decide) _ _ _ rfl (hown3.alloc _) ⟨w3.heap.size, 0, none⟩ 1 1 [.int .u8 (g s k')] rfl rfl ?c1 ?c2 ?c3 ?c4 ?c5 ?_)
          case c1 => exact cell_one_new _ _ _
          case c2 => intro u hu; simp at hu; subst hu; rfl
          case c3 => unfold maxLen; omega
          case c4 => omega
          case c5 => simp; omega
          intro v' w4 hown4 hgrow _
          have hm5 := (hm4.alloc _).grown hgrow (fun q hq hlt => by have := (hown3.lt q hq).1; omega)
          have hg2 : Mod (fun q => w.heap.size ≤ q) w3 w4 := ((Mod.refl _ w3).alloc _).grown hgrow (fun q hq _ => (hown3.lt q hq).1)
          have hr4 := hr3.keep hg2 (by omega)
          have hS4 := hS3.keep hg2 (by omega)
          have hown5 : w4.ownsRow w.heap.size 5 1 v' (ag ++ [bt s k']).length (bvs (ag ++ [bt s k'])) := by rw [← bvs_snoc, List.length_append]; exact hown4
          obtain ⟨ao', cap', rfl, -⟩ := owns_form hown4
          clear cc hown4 hgrow hown3 hr3 hS3 hm4 hg2 hsz3
          have cc := hS4.c2
          have cf := hS4.fz 2
          generalize hv' : Value.slice ao' (ag.length + 1) cap' = v' at *
          have hS6 := hS4.set2 v'
          have hmS : Mod (fun i => i = sb) w4 (w4.setCell ⟨sb, 2, none⟩ v') := (Mod.refl (fun i => i = sb) w4).setCell _ _ (fun _ => rfl)
          have hr6 := hr4.keep hmS hne
          have hown6 := owns_mod hown5 hmS (fun q hq he => by omega)
          have hm6 := hm5.trans (hmS.mono (q := fun i => i = rb ∨ i = sb) (fun _ _ h => .inr h))
          subst hv'
          clear hmS hS4 hr4 hown5 hm5
          have hl3 : ag.length ≤ 3 := by omega
          by_cases h4 : ag.length = 3
          · have H4 : Hid (ag.length = 3) := h4
            clear h4
            have h4 : ((ag.length : Int) + 1 == 4) = true := by have := H4.out; simp; omega
            go_wp2_with fail
            by_cases h41 : g s (k' + 1) = 41
            · have H41 : Hid (g s (k' + 1) = 41) := h41
              clear h41
              refine (take_yes rb s (k' + 1) 41 _ hs hk3 hr6 (by omega) H41.out).mono ?_
              rintro e w7 ⟨rfl, hr7, hk7, hm7⟩
              go_wp2
              go_ret
              exact ⟨hm6.trans (hm7.mono (fun _ _ h => .inl h)), k' + 2, hk7, hr7, .inl ⟨rfl, ag ++ [bt s k'], _, _, _, at_shut hA5 H41.out, hS6.keep hm7 (fun h => hne h.symm), owns_mod hown6 hm7 (fun q hq he => by omega)⟩⟩
            · refine (take_no rb s (k' + 1) 41 _ hs hk3 hr6 h41).mono ?_
              rintro e w7 ⟨rfl, hr7, hm7⟩
              go_wp2
              go_ret
              exact ⟨hm6.trans (hm7.mono (fun _ _ h => .inl h)), k' + 1, hk3, hr7, .inr ⟨rfl, stuck_of hA5 hk3 (.inl (by omega)) (by have := H4.out; simp [nx, h41]; omega)⟩⟩
          · have h4' : ((ag.length : Int) + 1 == 4) = false := by simp; omega
            go_wp2_with fail
            refine (peek_any rb s (k' + 1) _ hs hk3 hr6).mono ?_
            rintro e w7 ⟨rfl, nq, rfl⟩
            generalize w4.setCell ⟨sb, 2, none⟩ (Value.slice ao' (ag.length + 1) cap') = w6 at *
            clear cc cf
            by_cases hcm : g s (k' + 1) = 44
            · have hq : ((g s (k' + 1) : Int) != 44) = false := by simp; omega
              have HC : Hid (g s (k' + 1) = 44) := hcm
              have hA6 := at_comma hA5 (by simp; omega) hcm
              clear hcm hA5
              have hlt : k' + 1 < s.size := lt_of_g (by have := HC.out; omega)
              have h1 := hr6.c1
              have hf := hr6.f1
              have hr8 := (hr6.drewN nq).set (k' + 2)
              have hmR : Mod (fun i => i = rb) w6 ((w6.drewN nq).setCell ⟨rb, 1, none⟩ (.int .i64 (k' + 2 : Nat))) := (Mod.same nq _ w6).setCell _ _ (fun _ => rfl)
              have hS8 := hS6.keep hmR (fun h => hne h.symm)
              have hown8 := owns_mod hown6 hmR (fun q hq he => by omega)
              have hm8 := hm6.trans (hmR.mono (q := fun i => i = rb ∨ i = sb) (fun _ _ h => .inl h))
              have hle8 := hS8.lenAt
              clear hmR hS6 hown6 hm6 hr6
              have e2 : ((k' : Int) + 1 + 1) = ((k' + 2 : Nat) : Int) := by omega
              go_wp2
              go_roundw
              case rel => exact ⟨k' + 2, ag ++ [bt s k'], _, by simp; omega, hown8, hr8, .inr ⟨by simp, hA6⟩, hS8, hm8, hlt⟩
              case measure => refine Nat.lt_of_le_of_lt (Nat.le_of_eq (congrArg (4 - ·) hle8)) ?_; rw [HLen.out]; simp [sliceLen]; omega
            · have hq : ((g s (k' + 1) : Int) != 44) = true := by simp; omega
              go_wp2_with fail
              by_cases h41 : g s (k' + 1) = 41
              · have H41 : Hid (g s (k' + 1) = 41) := h41
                clear h41
                refine (take_yes rb s (k' + 1) 41 _ hs hk3 (hr6.drewN nq) (by omega) H41.out).mono ?_
                rintro e w7 ⟨rfl, hr7, hk7, hm7⟩
                go_wp2
                go_ret
                exact ⟨(hm6.drewN nq).trans (hm7.mono (fun _ _ h => .inl h)), k' + 2, hk7, hr7, .inl ⟨rfl, ag ++ [bt s k'], _, _, _, at_shut hA5 H41.out, (hS6.drewN nq).keep hm7 (fun h => hne h.symm), owns_mod (owns_drewN hown6 nq) hm7 (fun q hq he => by omega)⟩⟩
              · refine (take_no rb s (k' + 1) 41 _ hs hk3 (hr6.drewN nq) h41).mono ?_
                rintro e w7 ⟨rfl, hr7, hm7⟩
                go_wp2
                go_ret
                exact ⟨(hm6.drewN nq).trans (hm7.mono (fun _ _ h => .inl h)), k' + 1, hk3, hr7, .inr ⟨rfl, stuck_of hA5 hk3 (.inl (by omega)) (by simp [nx, h41, hcm])⟩⟩
        · have HL : Hid (isL (g s k') = false) := show isL (g s k') = false by simpa using hL
          clear hL
          go_wp2_with fail
          refine (letter_no rb s k' _ hs hk' hr' HL.out).mono ?_
          rintro e w3 ⟨rfl, hr3, hm3⟩
          go_wp2
          go_ret
          exact ⟨hm.trans (hm3.mono (fun _ _ h => .inl h)), k', hk', hr3, .inr ⟨rfl, hW.stuck hk' HL.out⟩⟩
  · go_enter Tryz.func119, Tryz.ntmps119
    go_wp2_with fail
    refine (take_no rb s k 40 _ hs hk hr h40).mono ?_
    rintro e w1 ⟨rfl, hr1, hm1⟩
    go_wp2
    go_ret
    exact ⟨hm1.mono (fun _ _ h => .inl h), k, hk, hr1, .inr ⟨rfl, stuck_of hA hk (.inl (by omega)) (by rcases H6.out with h | h <;> simp [nx, h, h40])⟩⟩
end Go.Proofs.YtmnfndpbblpjiabGreatDoor

/- readStatement and parse: the statements of a text, or the place where the scanner stands. -/
namespace Go.Proofs.YtmnfndpbblpjiabGreatDoor
open Go.RowKit Pu

set_option maxHeartbeats 800000 in
set_option maxRecDepth 100000 in
theorem statement_any (rb sb : Nat) (s : ByteArray) (k n le ar : Nat) (l : List St) (w : World) (hs : s.size ≤ 300) (hk : k < s.size) (hr : Rd w rb s k) (hS : Se w sb 0 [] NoArgs 0)
    (hA : At s k 0 n le ar l ⟨0, [], []⟩ false) (hn : n ≠ 16) :
    Calls Tryz.prog 72 #[.pointer (some ⟨rb, 0, none⟩), .pointer (some ⟨sb, 0, none⟩)] w fun e w' => Mod (fun i => i = rb ∨ i = sb) w w' ∧ ∃ k', k' ≤ s.size ∧ Rd w' rb s k' ∧
      ((e = .returned (.bool true) ∧ ∃ x av le' ar', At s k' 0 (n + 1) le' ar' (l ++ [x]) ⟨0, [], []⟩ false ∧ Se w' sb x.name x.word av 0 ∧ w'.ownsRow w.heap.size 5 1 av x.args.length (bvs x.args)) ∨ (e = .returned (.bool false) ∧ Stuck s k')) := by
  have hne := hS.ne hr
  have hrl := hr.lt
  have hsl := hS.lt
  go_enter Tryz.func72, Tryz.ntmps72
  go_wp2_with fail
  refine (head_any rb sb s k n le ar l _ hs hk hr hS hA hn).mono ?_
  rintro e w1 ⟨hm1, k1, hk1, hr1, ⟨rfl, nm, hA1, hS1⟩ | ⟨rfl, hst⟩⟩
  · clear hr hS
    have hz1 := hm1.size
    go_wp2_with fail
    refine (word_any rb sb s k1 n le ar l nm _ hs hk1 hr1 hS1 hA1).mono ?_
    rintro e w2 ⟨hm2, k2, hk2, hr2, ⟨rfl, wd, le2, hA2, hS2, h6⟩ | ⟨rfl, hst⟩⟩
    · clear hr1 hS1
      have hm12 := hm1.trans hm2
      have hz2 := hm12.size
      have H6 : Hid (le2 = 6 ∨ isL (g s k2) = false) := h6
      clear h6 hm1 hm2
      go_wp2_with fail
      refine (args_any rb sb s k2 n le2 ar l nm wd _ hs hk2 hr2 hS2 hA2 H6.out).mono ?_
      rintro e w3 ⟨hm3, k3, hk3, hr3, ⟨rfl, ag, av, le3, ar3, hA3, hS3, hown3⟩ | ⟨rfl, hst⟩⟩
      · have hm123 := hm12.trans hm3
        clear hm12 hm3 hr2 hS2
        by_cases h59 : g s k3 = 59
        · have H59 : Hid (g s k3 = 59) := h59
          clear h59
          go_wp2_with fail
          refine (take_yes rb s k3 59 _ hs hk3 hr3 (by omega) H59.out).mono ?_
          rintro e w4 ⟨rfl, hr4, hk4, hm4⟩
          go_wp2
          go_ret
          have hA4 := at_end hA3 H59.out
          exact ⟨hm123.trans (hm4.mono (fun _ _ h => .inl h)), k3 + 1, hk4, hr4, .inl ⟨rfl, ⟨nm, wd, ag⟩, av, _, _, hA4, hS3.keep hm4 (fun h => hne h.symm), owns_mod (owns_base hown3 hz2) hm4 (fun q hq he => by omega)⟩⟩
        · go_wp2_with fail
          refine (take_no rb s k3 59 _ hs hk3 hr3 h59).mono ?_
          rintro e w4 ⟨rfl, hr4, hm4⟩
          go_wp2
          go_ret
          exact ⟨hm123.trans (hm4.mono (fun _ _ h => .inl h)), k3, hk3, hr4, .inr ⟨rfl, stuck_of hA3 hk3 (.inl (by omega)) (by simp [nx, h59])⟩⟩
      · go_wp2
        go_ret
        exact ⟨hm12.trans hm3, k3, hk3, hr3, .inr ⟨rfl, hst⟩⟩
    · go_wp2
      go_ret
      exact ⟨hm1.trans hm2, k2, hk2, hr2, .inr ⟨rfl, hst⟩⟩
  · go_wp2
    go_ret
    exact ⟨hm1, k1, hk1, hr1, .inr ⟨rfl, hst⟩⟩
end Go.Proofs.YtmnfndpbblpjiabGreatDoor

/- A list of sentences in memory. -/
namespace Go.Proofs.YtmnfndpbblpjiabGreatDoor
open Go.RowKit Pu

theorem Tryz.info66 : (Tryz.prog.info? 72).map (fun i => (i.zero, i.size, i.bytes)) = some (some (.agg #[.int .u8 0, .string .empty, .slice none 0 0, .int .i64 0]), 4, 56) := by kernel_rfl

structure It where
  x : St
  av : Value
  wt : Nat
def secells (t : It) : List Value := [.int .u8 t.x.name, S t.x.word, t.av, .int .i64 (t.wt : Int)]
def cellsOf (q : List It) : List Value := q.flatMap secells
theorem cellsOf_len (q : List It) : (cellsOf q).length = q.length * 4 := by
  induction q with
  | nil => rfl
  | cons t q ih => simp only [cellsOf, List.flatMap_cons, List.length_append, List.length_cons] at *; rw [ih]; simp [secells]; omega
theorem cellsOf_snoc (q : List It) (t : It) : cellsOf q ++ secells t = cellsOf (q ++ [t]) := by simp [cellsOf]
theorem cellsOf_at (q : List It) (j i : Nat) (hj : j < q.length) (hi : i < 4) : (cellsOf q)[j * 4 + i]? = (secells q[j])[i]? := by
  induction q generalizing j with
  | nil => simp at hj
  | cons t q ih =>
    cases j with
    | zero =>
      simp only [cellsOf, List.flatMap_cons, Nat.zero_mul, Nat.zero_add, List.getElem_cons_zero]
      rw [List.getElem?_append_left (by simpa [secells] using hi)]
    | succ j =>
      have := ih j (by simpa using hj)
      simp only [cellsOf, List.flatMap_cons, List.getElem_cons_succ] at *
      rw [List.getElem?_append_right (by simp [secells]; omega), ← this]
      congr 1
      simp [secells]; omega

def ArgsOk (w : World) (base : Nat) (q : List It) : Prop := ∀ t ∈ q, w.ownsRow base 5 1 t.av t.x.args.length (bvs t.x.args)
def Lst (w : World) (base : Nat) (v : Value) (q : List It) : Prop := w.ownsRow base 72 4 v q.length (cellsOf q) ∧ ArgsOk w base q

theorem cell_new4 (w : World) (a b c d : Value) (t : TypeId) : ∀ j u, [a, b, c, d][j]? = some u → (w.alloc (.cells #[a, b, c, d] t)).cell? ((⟨w.heap.size, 0, none⟩ : Addr).add j) = some u := by
  intro j u hj
  match j, hj with
  | 0, hj => simp at hj; subst hj; simp [Addr.add]
  | 1, hj => simp at hj; subst hj; simp [Addr.add]
  | 2, hj => simp at hj; subst hj; simp [Addr.add]
  | 3, hj => simp at hj; subst hj; simp [Addr.add]

section
variable {w w' : World} {base : Nat} {v : Value} {q : List It}
theorem Lst.nil (w : World) (base : Nat) : Lst w base (.slice none 0 0) [] := ⟨World.ownsRow_nil _ _ _ _, fun _ h => by simp at h⟩
theorem ArgsOk.mod {p : Nat → Prop} (h : ArgsOk w base q) (hm : Mod p w w') (hp : ∀ g, base ≤ g → g < w.heap.size → p g → False) : ArgsOk w' base q :=
  fun t ht => owns_mod' (h t ht) hm (fun g hg hpg => by have := (h t ht).lt g hg; exact hp g this.1 this.2 hpg)
theorem Lst.mod {p : Nat → Prop} (h : Lst w base v q) (hm : Mod p w w') (hp : ∀ g, base ≤ g → g < w.heap.size → p g → False) : Lst w' base v q :=
  ⟨owns_mod' h.1 hm (fun g hg hpg => by have := h.1.lt g hg; exact hp g this.1 this.2 hpg), h.2.mod hm hp⟩
/-- The list's own row grows: no argument's row has turned. -/
theorem ArgsOk.grown {n : Nat} {xs : List Value} (h : ArgsOk w base q) {w2 : World} {g0 : Nat} (hv : w.ownsRow g0 72 4 v n xs) (hg : w.grownBy w2 v.ownBlock) : ArgsOk w2 base q := by
  intro t ht
  refine owns_mod' (p := fun i => v.ownBlock = some i) (h t ht) ⟨hg.os, hg.tape, hg.output, hg.size, fun k hk hn => hg.block k hk (fun e => hn e.symm)⟩ ?_
  intro g hgt hgv
  obtain ⟨_, ⟨he, _⟩ | ⟨g1, c1, cur1, he1, _, hb1, _⟩⟩ := h t ht
  · rw [he] at hgt; simp [Value.ownBlock] at hgt
  · obtain ⟨_, ⟨he, _⟩ | ⟨g2, c2, cur2, he2, _, hb2, _⟩⟩ := hv
    · rw [he] at hgv; simp [Value.ownBlock] at hgv
    · rw [he1] at hgt; rw [he2] at hgv
      simp [Value.ownBlock] at hgt hgv
      subst hgt; subst hgv
      rw [hb1] at hb2; simp at hb2
theorem Lst.low {base' : Nat} (h : Lst w base v q) (hb : base' ≤ base) : Lst w base' v q := ⟨owns_base h.1 hb, fun t ht => owns_base (h.2 t ht) hb⟩
theorem Lst.form (h : Lst w base v q) : ∃ ao cap, v = .slice ao q.length cap ∧ (ao = none → q.length = 0 ∧ cap = 0) := owns_form h.1
theorem Lst.cell {ao : Option Addr} {cap : Nat} (h : Lst w base (.slice ao q.length cap) q) {j : Nat} (hj : j < q.length) :
    ∃ gb, ao = some ⟨gb, 0, none⟩ ∧ w.cell? ⟨gb, j * 4, none⟩ = some (.int .u8 q[j].x.name) ∧ w.cell? ⟨gb, j * 4 + 1, none⟩ = some (S q[j].x.word) ∧ w.cell? ⟨gb, j * 4 + 2, none⟩ = some q[j].av ∧ w.cell? ⟨gb, j * 4 + 3, none⟩ = some (.int .i64 (q[j].wt : Int)) := by
  obtain ⟨gb, rfl, h0⟩ := owns_cell h.1 (j := j * 4 + 0) (by omega)
  have h1 := h.1.cellAt (j * 4 + 1) (by omega)
  have h2 := h.1.cellAt (j * 4 + 2) (by omega)
  have h3 := h.1.cellAt (j * 4 + 3) (by omega)
  rw [cellsOf_at q j _ hj (by omega)] at h0 h1 h2 h3
  exact ⟨gb, rfl, by simpa [secells] using h0, by simpa [secells] using h1, by simpa [secells] using h2, by simpa [secells] using h3⟩
end

set_option maxHeartbeats 1600000 in
set_option maxRecDepth 100000 in
theorem parse_any (s : ByteArray) (w : World) (hs : s.size ≤ 300) :
    Calls Tryz.prog 44 #[.string s] w fun e w' => Mod (fun _ => False) w w' ∧
      ((∃ v q, e = .returned (.tuple #[v, .int .i64 0, .bool true]) ∧ Lst w' w.heap.size v q ∧ Whole s ∧ (gaA s s.size).l = q.map It.x ∧ q.length ≤ 16) ∨ (∃ k : Nat, e = .returned (.tuple #[.slice none 0 0, .int .i64 k, .bool false]) ∧ Stuck s k)) := by
  obtain ⟨i0, hi, hz0, hz1, hz2⟩ := info_parts Tryz.info66
  go_enter Tryz.func44, Tryz.ntmps44
  go_wp2
  have hR0 : Rd (w.alloc (.cells #[.string s, .int .i64 0] 118)) w.heap.size s 0 := by unfold Rd; show (w.heap.push _)[w.heap.size]? = _; simp
  go_loopw [6] (fun v wr => ∃ (k : Nat) (q : List It) (le ar : Nat), q.length ≤ 16 ∧ Lst wr (w.heap.size + 1) v q ∧ Rd wr w.heap.size s k ∧ At s k 0 q.length le ar (q.map It.x) ⟨0, [], []⟩ false ∧ Mod (fun _ => False) w wr ∧ k ≤ s.size)
    (fun v _ => 16 - sliceLen v)
  case atStart => exact ⟨0, [], 0, 0, by simp, Lst.nil _ _, hR0, at_start s, (Mod.refl _ w).alloc _, by omega⟩
  case round =>
    clear hR0
    obtain ⟨k, q, le, ar, hq, hL, hr, hA, hm, hk⟩ := hrel
    obtain ⟨ao, cap, rfl, -⟩ := hL.form
    have h1 := hr.c1
    have hrl := hr.lt
    have hsz := hm.size
    by_cases hlt : k < s.size
    · by_cases h16 : q.length = 16
      · have H16 : Hid (q.length = 16) := h16
        clear h16
        have h16 : ((q.length : Int) == 16) = true := by have := H16.out; simp; omega
        go_wp2
        go_quiet (fail)
        go_wp2
        go_ret3
        exact ⟨hm.drewN _, .inr ⟨k, rfl, stuck_of hA hk (.inr hlt) (by simp [nx, H16.out])⟩⟩
      · have h16' : ((q.length : Int) == 16) = false := by simp; omega
        go_wp2_with fail
        have hS1 : Se (wr.alloc (.cells #[.int .u8 0, .string .empty, .slice none 0 0, .int .i64 0] 72)) wr.heap.size 0 [] NoArgs 0 := by unfold Se; show (wr.heap.push _)[wr.heap.size]? = _; simp; exact ⟨rfl, rfl⟩
        have hm1 : Mod (fun _ => False) wr (wr.alloc (.cells #[.int .u8 0, .string .empty, .slice none 0 0, .int .i64 0] 72)) := (Mod.refl _ wr).alloc _
        have hr1 := hr.keep hm1 (fun f => f)
        refine (statement_any w.heap.size wr.heap.size s k q.length le ar (q.map It.x) _ hs hlt hr1 hS1 hA h16).mono ?_
        rintro e w2 ⟨hm2, k2, hk2, hr2, ⟨rfl, x, av, le2, ar2, hA2, hS2, hown2⟩ | ⟨rfl, hst⟩⟩
        · obtain ⟨ao2, cap2, rfl, -⟩ := owns_form hown2
          have hmW : Mod (fun i => i = w.heap.size) wr w2 := ((hm1.mono (fun _ _ f => f.elim)).trans hm2).mono (fun i hi h => h.resolve_right (by omega))
          have hL2 := hL.mod hmW (fun q1 h1 _ h2 => by omega)
          have hA2' : ArgsOk w2 (w.heap.size + 1) [⟨x, .slice ao2 x.args.length cap2, 0⟩] := fun t ht => by
            simp at ht; subst ht; exact owns_base hown2 (by simp; omega)
          have hmF : Mod (fun _ => False) w w2 := ⟨hmW.os.trans hm.os, hmW.tape.trans hm.tape, hmW.output.trans hm.output, Nat.le_trans hm.size hmW.size, fun i hi _ => (hmW.block i (by omega) (by omega)).trans (hm.block i hi (fun f => f))⟩
          have hsz2 := hmF.size
          have c0 := hS2.c0
          have c1 := hS2.c1
          have c2 := hS2.c2
          have c3 := hS2.c3
          clear hL hm hm1 hm2 hS1 hr1 hr hA hown2 h1
          go_wp2_with (at_builtin; refine wpList_append_own _ rfl _ _ 58 rfl (w.heap.size + 1) 72 i0 _ 4 56 Tryz.underlying58 hi hz0 hz1 hz2 rfl (by decide) _ _ _ rfl (hL2.1.alloc _) ⟨w2.heap.size, 0, none⟩ 1 1 (secells ⟨x, .slice ao2 x.args.length cap2, 0⟩) rfl rfl ?c1 ?c2 ?c3 ?c4 ?c5 ?_)
          case c1 => exact cell_new4 _ _ _ _ _ _
          case c2 => intro u hu; simp [secells] at hu; rcases hu with rfl | rfl | rfl | rfl <;> rfl
          case c3 => unfold maxLen; omega
          case c4 => omega
          case c5 => have := hr2.lt; simp; omega
          intro v' w4 hown4 hgrow _
          have hgm : Mod (fun i => w.heap.size + 1 ≤ i) w2 w4 := ((Mod.refl _ w2).alloc _).grown hgrow (fun i hi _ => (hL2.1.lt i hi).1)
          have hr4 := hr2.keep hgm (by omega)
          have hm4 : Mod (fun _ => False) w w4 := ⟨hgm.os.trans hmF.os, hgm.tape.trans hmF.tape, hgm.output.trans hmF.output, Nat.le_trans hmF.size hgm.size, fun i hi _ => (hgm.block i (by omega) (by omega)).trans (hmF.block i hi (fun f => f))⟩
          have hal : Mod (fun _ => False) w2 (w2.alloc (.cells #[.int .u8 x.name, S x.word, .slice ao2 x.args.length cap2, .int .i64 0] 72)) := (Mod.refl _ w2).alloc _
          have hAr : ArgsOk w4 (w.heap.size + 1) (q ++ [⟨x, .slice ao2 x.args.length cap2, 0⟩]) := by
            intro t ht
            rcases List.mem_append.1 ht with ht | ht
            · exact (hL2.2.mod hal (fun _ _ _ f => f)).grown (hL2.1.alloc _) hgrow t ht
            · exact (hA2'.mod hal (fun _ _ _ f => f)).grown (hL2.1.alloc _) hgrow t ht
          have hL4 : Lst w4 (w.heap.size + 1) v' (q ++ [⟨x, .slice ao2 x.args.length cap2, 0⟩]) := ⟨by rw [← cellsOf_snoc, List.length_append]; exact hown4, hAr⟩
          obtain ⟨ao4, cap4, rfl, -⟩ := owns_form hown4
          clear hown4 hgrow hgm hL2 hA2' hmF hr2 hmW hS2 c0 c1 c2 c3 hal hAr
          go_wp2
          go_roundw
          case rel => exact ⟨k2, q ++ [⟨x, .slice ao2 x.args.length cap2, 0⟩], le2, ar2, by simp; omega, hL4, hr4, by simpa using hA2, hm4, hk2⟩
          case measure => simp [sliceLen]; omega
        · have h2 := hr2.c1
          have hmW : Mod (fun i => i = w.heap.size) wr w2 := ((hm1.mono (fun _ _ f => f.elim)).trans hm2).mono (fun i hi h => h.resolve_right (by omega))
          have hmF : Mod (fun _ => False) w w2 := ⟨hmW.os.trans hm.os, hmW.tape.trans hm.tape, hmW.output.trans hm.output, Nat.le_trans hm.size hmW.size, fun i hi _ => (hmW.block i (by omega) (by omega)).trans (hm.block i hi (fun f => f))⟩
          go_wp2
          go_quiet (fail)
          go_wp2
          go_ret3
          exact ⟨hmF.drewN _, .inr ⟨k2, rfl, hst⟩⟩
    · have hks : k = s.size := by omega
      subst hks
      go_wp2
      go_ret3
      exact ⟨hm, .inl ⟨_, q, rfl, hL.low (by omega), ⟨_, hA.1, rfl⟩, by rw [hA.2], hq⟩⟩
end Go.Proofs.YtmnfndpbblpjiabGreatDoor

/- The document's scanner: letter, next, place. -/
namespace Go.Proofs.YtmnfndpbblpjiabGreatDoor
open Go.RowKit Pu

def Scn (w : World) (xb : Nat) (x : Sc) : Prop := w.heap[xb]? = some (.cells #[.int .i64 x.st, .int .i64 x.n, .int .i64 x.le, .int .i64 x.ar] 195 (0, 0))
section
variable {w : World} {xb st n le ar : Nat}
theorem Scn.c0 (h : Scn w xb ⟨st, n, le, ar⟩) : w.cell? ⟨xb, 0, none⟩ = some (.int .i64 st) := by unfold Scn at h; simp [World.cell?, h]
theorem Scn.c1 (h : Scn w xb ⟨st, n, le, ar⟩) : w.cell? ⟨xb, 1, none⟩ = some (.int .i64 n) := by unfold Scn at h; simp [World.cell?, h]
theorem Scn.c2 (h : Scn w xb ⟨st, n, le, ar⟩) : w.cell? ⟨xb, 2, none⟩ = some (.int .i64 le) := by unfold Scn at h; simp [World.cell?, h]
theorem Scn.c3 (h : Scn w xb ⟨st, n, le, ar⟩) : w.cell? ⟨xb, 3, none⟩ = some (.int .i64 ar) := by unfold Scn at h; simp [World.cell?, h]
theorem Scn.fz (h : Scn w xb ⟨st, n, le, ar⟩) (i : Nat) : w.frozen? ⟨xb, i, none⟩ = false := by unfold Scn at h; simp [World.frozen?, h]
theorem Scn.set0 (h : Scn w xb ⟨st, n, le, ar⟩) (j : Nat) : Scn (w.setCell ⟨xb, 0, none⟩ (.int .i64 j)) xb ⟨j, n, le, ar⟩ := by unfold Scn at *; simp [World.setCell, Array.getElem?_modify, h]
theorem Scn.set1 (h : Scn w xb ⟨st, n, le, ar⟩) (j : Nat) : Scn (w.setCell ⟨xb, 1, none⟩ (.int .i64 j)) xb ⟨st, j, le, ar⟩ := by unfold Scn at *; simp [World.setCell, Array.getElem?_modify, h]
theorem Scn.set2 (h : Scn w xb ⟨st, n, le, ar⟩) (j : Nat) : Scn (w.setCell ⟨xb, 2, none⟩ (.int .i64 j)) xb ⟨st, n, j, ar⟩ := by unfold Scn at *; simp [World.setCell, Array.getElem?_modify, h]
theorem Scn.set3 (h : Scn w xb ⟨st, n, le, ar⟩) (j : Nat) : Scn (w.setCell ⟨xb, 3, none⟩ (.int .i64 j)) xb ⟨st, n, le, j⟩ := by unfold Scn at *; simp [World.setCell, Array.getElem?_modify, h]
end

set_option maxHeartbeats 400000 in
theorem lettr (c : Nat) (w : World) : Calls Tryz.prog 112 #[.int .u8 c] w fun e w' => e = .returned (.bool (isL c)) ∧ w = w' := by
  go_enter Tryz.func112, Tryz.ntmps112
  go_wp2
  all_goals go_ret
  · exact ⟨by have : isL c = decide ((c : Int) ≤ 122) := (by rw [isL, Bool.eq_iff_iff]; simp; omega); rw [this]; rfl, rfl⟩
  · exact ⟨by have : isL c = false := (by rw [isL, Bool.eq_false_iff]; simp; omega); rw [this]; rfl, rfl⟩

/-- What next leaves. -/
def NextEnd (xb : Nat) (x : Sc) (c : Nat) (w : World) (e : Ending) (w' : World) : Prop :=
  (nx x c = none ∧ e = .returned (.bool false) ∧ w' = w) ∨ (∃ y, nx x c = some y ∧ e = .returned (.bool true) ∧ Scn w' xb y ∧ Mod (fun i => i = xb) w w')

theorem ne_no {xb : Nat} {x : Sc} {c : Nat} {w : World} (h : nx x c = none) : NextEnd xb x c w (.returned (.bool false)) w := .inl ⟨h, rfl, rfl⟩
theorem ne_yes {xb : Nat} {x y : Sc} {c : Nat} {w w' : World} (h : nx x c = some y) (hS : Scn w' xb y) (hm : Mod (fun i => i = xb) w w') : NextEnd xb x c w (.returned (.bool true)) w' := .inr ⟨y, h, rfl, hS, hm⟩
theorem mod1 (xb i : Nat) (w : World) (v : Value) : Mod (fun i => i = xb) w (w.setCell ⟨xb, i, none⟩ v) := (Mod.refl _ w).setCell _ _ (fun _ => rfl)
theorem mod2 (xb i j : Nat) (w : World) (v u : Value) : Mod (fun i => i = xb) w ((w.setCell ⟨xb, i, none⟩ v).setCell ⟨xb, j, none⟩ u) := (mod1 xb i w v).setCell _ _ (fun _ => rfl)

end Go.Proofs.YtmnfndpbblpjiabGreatDoor

/- The document's gathering of statements. -/
namespace Go.Proofs.YtmnfndpbblpjiabGreatDoor
open Go.RowKit Pu

theorem Tryz.info81 : (Tryz.prog.info? 162).map (fun i => (i.zero, i.size, i.bytes)) = some (some (.agg #[.int .u8 0, .string .empty, .string .empty]), 3, 40) := by kernel_rfl
def rcells (x : St) : List Value := [.int .u8 x.name, S x.word, S x.args]
def rcellsOf (l : List St) : List Value := l.flatMap rcells
theorem rcellsOf_snoc (q : List St) (t : St) : rcellsOf q ++ rcells t = rcellsOf (q ++ [t]) := by simp [rcellsOf]
theorem rcellsOf_at (q : List St) (j i : Nat) (hj : j < q.length) (hi : i < 3) : (rcellsOf q)[j * 3 + i]? = (rcells q[j])[i]? := by
  induction q generalizing j with
  | nil => simp at hj
  | cons t q ih =>
    cases j with
    | zero =>
      simp only [rcellsOf, List.flatMap_cons, Nat.zero_mul, Nat.zero_add, List.getElem_cons_zero]
      rw [List.getElem?_append_left (by simpa [rcells] using hi)]
    | succ j =>
      have := ih j (by simpa using hj)
      simp only [rcellsOf, List.flatMap_cons, List.getElem_cons_succ] at *
      rw [List.getElem?_append_right (by simp [rcells]; omega), ← this]
      congr 1
      simp [rcells]; omega
def RLst (w : World) (base : Nat) (v : Value) (l : List St) : Prop := w.ownsRow base 162 3 v l.length (rcellsOf l)
def Sx (w : World) (xb : Nat) (x : St) : Prop := w.heap[xb]? = some (.cells #[.int .u8 x.name, S x.word, S x.args] 162 (0, 0))
section
variable {w : World} {xb nm : Nat} {wd ag : List UInt8}
theorem Sx.c0 (h : Sx w xb ⟨nm, wd, ag⟩) : w.cell? ⟨xb, 0, none⟩ = some (.int .u8 nm) := by unfold Sx at h; simp [World.cell?, h]
theorem Sx.c1 (h : Sx w xb ⟨nm, wd, ag⟩) : w.cell? ⟨xb, 1, none⟩ = some (S wd) := by unfold Sx at h; simp [World.cell?, h]
theorem Sx.c2 (h : Sx w xb ⟨nm, wd, ag⟩) : w.cell? ⟨xb, 2, none⟩ = some (S ag) := by unfold Sx at h; simp [World.cell?, h]
theorem Sx.fz (h : Sx w xb ⟨nm, wd, ag⟩) (i : Nat) : w.frozen? ⟨xb, i, none⟩ = false := by unfold Sx at h; simp [World.frozen?, h]
theorem Sx.set0 (h : Sx w xb ⟨nm, wd, ag⟩) (j : Nat) : Sx (w.setCell ⟨xb, 0, none⟩ (.int .u8 j)) xb ⟨j, wd, ag⟩ := by unfold Sx at *; simp [World.setCell, Array.getElem?_modify, h]
theorem Sx.set1 (h : Sx w xb ⟨nm, wd, ag⟩) (j : List UInt8) : Sx (w.setCell ⟨xb, 1, none⟩ (S j)) xb ⟨nm, j, ag⟩ := by unfold Sx at *; simp [World.setCell, Array.getElem?_modify, h]
theorem Sx.set2 (h : Sx w xb ⟨nm, wd, ag⟩) (j : List UInt8) : Sx (w.setCell ⟨xb, 2, none⟩ (S j)) xb ⟨nm, wd, j⟩ := by unfold Sx at *; simp [World.setCell, Array.getElem?_modify, h]
end
theorem cell_new3 (w : World) (a b c : Value) (t : TypeId) : ∀ j u, [a, b, c][j]? = some u → (w.alloc (.cells #[a, b, c] t)).cell? ((⟨w.heap.size, 0, none⟩ : Addr).add j) = some u := by
  intro j u hj
  match j, hj with
  | 0, hj => simp at hj; subst hj; simp [Addr.add]
  | 1, hj => simp at hj; subst hj; simp [Addr.add]
  | 2, hj => simp at hj; subst hj; simp [Addr.add]
theorem Pu.ga_len (s : ByteArray) (k : Nat) : (gaA s k).l.length ≤ k ∧ (gaA s k).x.word.length ≤ k ∧ (gaA s k).x.args.length ≤ k := by
  induction k with
  | zero => simp [gaA]
  | succ k ih =>
    obtain ⟨h1, h2, h3⟩ := ih
    show (gaStep s k (gaA s k)).l.length ≤ _ ∧ (gaStep s k (gaA s k)).x.word.length ≤ _ ∧ (gaStep s k (gaA s k)).x.args.length ≤ _
    unfold gaStep
    repeat' split
    all_goals (try simp)
    all_goals omega
theorem Pu.append_byte (l : List UInt8) (s : ByteArray) (k : Nat) (h : k < s.size) : (⟨l.toArray⟩ : ByteArray) ++ s.extract k (k + 1) = ⟨(l ++ [bt s k]).toArray⟩ := by
  apply ByteArray.ext
  rw [ByteArray.data_append, ByteArray.data_extract]
  rw [bt_in h]
  apply Array.ext'
  simp
  have h' : k < s.data.size := h
  rw [List.drop_eq_getElem_cons (by simpa using h')]
  simp
  rfl

/-- The loop's relation. -/
def GaRel (s : ByteArray) (w : World) (v ins i : Value) (wr : World) : Prop := ∃ k : Nat, k ≤ s.size ∧ i = .int .i64 k ∧ ins = .bool (gaA s k).ins ∧ RLst wr (w.heap.size + 1) v (gaA s k).l ∧ Sx wr w.heap.size (gaA s k).x ∧ Mod (fun _ => False) w wr

theorem gaRel {s : ByteArray} {w wr w2 : World} {k : Nat} {v : Value} {l : List St} {x : St} {ins : Bool} (hlt : k < s.size) (hn : gaA s (k + 1) = ⟨l, x, ins⟩) (hL : RLst wr (w.heap.size + 1) v l) (hX : Sx w2 w.heap.size x)
    (hm : Mod (fun _ => False) w wr) (hm2 : Mod (fun i => i = w.heap.size) wr w2) : GaRel s w v (.bool ins) (.int .i64 ((k : Int) + 1)) w2 := by
  have hsz := hm.size
  refine ⟨k + 1, by omega, by go_num, by rw [hn], ?_, by rw [hn]; exact hX, ?_⟩
  · rw [hn]; exact owns_mod hL hm2 (fun q hq he => by omega)
  · exact ⟨hm2.os.trans hm.os, hm2.tape.trans hm.tape, hm2.output.trans hm.output, Nat.le_trans hm.size hm2.size, fun i hi _ => (hm2.block i (by omega) (by omega)).trans (hm.block i hi (fun f => f))⟩

set_option maxHeartbeats 2000000 in
set_option maxRecDepth 100000 in
theorem stmts_any (s : ByteArray) (w : World) (hs : s.size ≤ 300) (h0 : g s 0 ≠ 61) :
    Calls Tryz.prog 69 #[.string s] w fun e w' => Mod (fun _ => False) w w' ∧ ∃ v, e = .returned v ∧ RLst w' w.heap.size v (gaA s s.size).l := by
  obtain ⟨i0, hi, hz0, hz1, hz2⟩ := info_parts Tryz.info81
  go_enter Tryz.func69, Tryz.ntmps69
  go_wp2
  have hX0 : Sx (w.alloc (.cells #[.int .u8 0, .string .empty, .string .empty] 162)) w.heap.size ⟨0, [], []⟩ := by unfold Sx; show (w.heap.push _)[w.heap.size]? = _; simp; rfl
  go_loopw [3, 5, 6] (GaRel s w) (fun _ _ i _ => s.size - (intOf i).toNat)
  case atStart => exact ⟨0, by omega, rfl, rfl, World.ownsRow_nil _ _ _ _, hX0, (Mod.refl _ w).alloc _⟩
  case round =>
    clear hX0
    obtain ⟨k, hk, rfl, rfl, hL, hX, hm⟩ := hrel
    have hsz := hm.size
    have hlen := ga_len s k
    have HG1 : Hid (gaA s (k + 1) = gaStep s k (gaA s k)) := rfl
    generalize hga : gaA s k = ga at *
    obtain ⟨l, ⟨nm, wd, ag⟩, ins⟩ := ga
    simp only at hL hX hlen
    have HGA : Hid (gaA s k = ⟨l, ⟨nm, wd, ag⟩, ins⟩) := hga
    clear hga
    have c0 := hX.c0
    have c1 := hX.c1
    have c2 := hX.c2
    have f0 := hX.fz 0
    have f1 := hX.fz 1
    have f2 := hX.fz 2
    obtain ⟨ao, cap, rfl, -⟩ := owns_form hL
    by_cases hlt : k < s.size
    · have HG : Hid (g s k = s[k].toNat) := g_in hlt
      by_cases e61 : g s k = 61
      · have hk1 : 1 ≤ k := by rcases Nat.eq_zero_or_pos k with h | h; (· subst h; exact absurd e61 h0); exact h
        have hq : ((s[k].toNat : Int) == 61) = true := by rw [← HG.out]; exact beq_t (m := 61) e61
        obtain ⟨j, rfl⟩ : ∃ j, k = j + 1 := ⟨k - 1, by omega⟩
        have hj : j < s.size := by omega
        have HN : Hid (gaA s (j + 1 + 1) = ⟨l, ⟨s[j].toNat, [], ag⟩, ins⟩) := show gaA s (j + 1 + 1) = ⟨l, ⟨s[j].toNat, [], ag⟩, ins⟩ by rw [HG1.out]; simp [gaStep, e61, g_in hj]
        have hX' := (hX.set0 s[j].toNat).set1 []
        have hm' : Mod (fun i => i = w.heap.size) wr ((wr.setCell ⟨w.heap.size, 0, none⟩ (.int .u8 s[j].toNat)).setCell ⟨w.heap.size, 1, none⟩ (S [])) := ((Mod.refl (fun i => i = w.heap.size) wr).setCell _ _ (fun _ => rfl)).setCell _ _ (fun _ => rfl)
        clear e61
        go_wp2
        go_roundw
        case rel => exact gaRel hlt HN.out hL hX' hm hm'
        case measure => simp [intOf]; omega
      · by_cases e63 : g s k = 63
        · have hq1 : ((s[k].toNat : Int) == 61) = false := by rw [← HG.out]; exact beq_f (m := 61) e61
          have hq : ((s[k].toNat : Int) == 63) = true := by rw [← HG.out]; exact beq_t (m := 63) e63
          have HN : Hid (gaA s (k + 1) = ⟨l, ⟨nm, [], ag⟩, ins⟩) := show gaA s (k + 1) = ⟨l, ⟨nm, [], ag⟩, ins⟩ by rw [HG1.out]; simp [gaStep, e63]
          have hX' := hX.set1 []
          have hm' : Mod (fun i => i = w.heap.size) wr (wr.setCell ⟨w.heap.size, 1, none⟩ (S [])) := (Mod.refl _ wr).setCell _ _ (fun _ => rfl)
          go_wp2
          go_roundw
          case rel => exact gaRel hlt HN.out hL hX' hm hm'
          case measure => simp [intOf]; omega
        · have q61 : ((s[k].toNat : Int) == 61) = false := by rw [← HG.out]; exact beq_f (m := 61) e61
          have q63 : ((s[k].toNat : Int) == 63) = false := by rw [← HG.out]; exact beq_f (m := 63) e63
          by_cases e40 : g s k = 40
          · have q40 : ((s[k].toNat : Int) == 40) = true := by rw [← HG.out]; exact beq_t (m := 40) e40
            have HN : Hid (gaA s (k + 1) = ⟨l, ⟨nm, wd, ag⟩, true⟩) := show gaA s (k + 1) = ⟨l, ⟨nm, wd, ag⟩, true⟩ by rw [HG1.out]; simp [gaStep, e40]
            go_wp2
            go_roundw
            case rel => exact gaRel hlt HN.out hL hX hm (Mod.refl _ _)
            case measure => simp [intOf]; omega
          · have q40 : ((s[k].toNat : Int) == 40) = false := by rw [← HG.out]; exact beq_f (m := 40) e40
            by_cases e41 : g s k = 41
            · have q41 : ((s[k].toNat : Int) == 41) = true := by rw [← HG.out]; exact beq_t (m := 41) e41
              have HN : Hid (gaA s (k + 1) = ⟨l, ⟨nm, wd, ag⟩, false⟩) := show gaA s (k + 1) = ⟨l, ⟨nm, wd, ag⟩, false⟩ by rw [HG1.out]; simp [gaStep, e41]
              go_wp2
              go_roundw
              case rel => exact gaRel hlt HN.out hL hX hm (Mod.refl _ _)
              case measure => simp [intOf]; omega
            · have q41 : ((s[k].toNat : Int) == 41) = false := by rw [← HG.out]; exact beq_f (m := 41) e41
              by_cases e59 : g s k = 59
              · have q59 : ((s[k].toNat : Int) == 59) = true := by rw [← HG.out]; exact beq_t (m := 59) e59
                have HN : Hid (gaA s (k + 1) = ⟨l ++ [⟨nm, wd, ag⟩], ⟨0, [], []⟩, ins⟩) := show gaA s (k + 1) = ⟨l ++ [⟨nm, wd, ag⟩], ⟨0, [], []⟩, ins⟩ by rw [HG1.out]; simp [gaStep, e59]
                have hxl : w.heap.size < wr.heap.size := lt_of_block hX
                unfold RLst at hL
                go_wp2_with (at_builtin; refine wpList_append_own _ rfl _ _ 113 rfl (w.heap.size + 1) 162 i0 _ 3 40 Tryz.underlying113 hi hz0 hz1 hz2 rfl (by decide) _ _ _ rfl (hL.alloc _) ⟨wr.heap.size, 0, none⟩ 1 1 (rcells ⟨nm, wd, ag⟩) rfl rfl ?c1 ?c2 ?c3 ?c4 ?c5 ?_)
                case c1 => exact cell_new3 _ _ _ _ _
                case c2 => intro u hu; simp [rcells] at hu; rcases hu with rfl | rfl | rfl <;> rfl
                case c3 => unfold maxLen; omega
                case c4 => omega
                case c5 => simp; omega
                intro v' w4 hown4 hgrow _
                have hgm : Mod (fun i => w.heap.size + 1 ≤ i) wr w4 := ((Mod.refl _ wr).alloc _).grown hgrow (fun i hi _ => (hL.lt i hi).1)
                have hX4 : Sx w4 w.heap.size ⟨nm, wd, ag⟩ := hgm.keep hX (by omega)
                have hm4 : Mod (fun _ => False) w w4 := ⟨hgm.os.trans hm.os, hgm.tape.trans hm.tape, hgm.output.trans hm.output, Nat.le_trans hm.size hgm.size, fun i hi _ => (hgm.block i (by omega) (by omega)).trans (hm.block i hi (fun f => f))⟩
                have hL4 : RLst w4 (w.heap.size + 1) v' (l ++ [⟨nm, wd, ag⟩]) := by unfold RLst; rw [← rcellsOf_snoc, List.length_append]; exact hown4
                clear c0 c1 c2 f0 f1 f2 hown4 hgrow hgm hL hX hm
                have c0 := hX4.c0
                have c1 := hX4.c1
                have c2 := hX4.c2
                have f0 := hX4.fz 0
                have f1 := hX4.fz 1
                have f2 := hX4.fz 2
                have hX5 := ((hX4.set0 0).set1 []).set2 []
                have hm5 : Mod (fun i => i = w.heap.size) w4 (((w4.setCell ⟨w.heap.size, 0, none⟩ (.int .u8 (0 : Nat))).setCell ⟨w.heap.size, 1, none⟩ (S [])).setCell ⟨w.heap.size, 2, none⟩ (S [])) := (((Mod.refl (fun i => i = w.heap.size) w4).setCell _ _ (fun _ => rfl)).setCell _ _ (fun _ => rfl)).setCell _ _ (fun _ => rfl)
                go_wp2
                go_roundw
                case rel => exact gaRel hlt HN.out hL4 hX5 hm4 hm5
                case measure => simp [intOf]; omega
              · have q59 : ((s[k].toNat : Int) == 59) = false := by rw [← HG.out]; exact beq_f (m := 59) e59
                cases hLg : isL (g s k)
                · have HN : Hid (gaA s (k + 1) = ⟨l, ⟨nm, wd, ag⟩, ins⟩) := show gaA s (k + 1) = ⟨l, ⟨nm, wd, ag⟩, ins⟩ by rw [HG1.out]; simp [gaStep, e61, e63, e40, e41, e59, hLg]
                  have hLt : isL s[k].toNat = false := by rw [← HG.out]; exact hLg
                  go_wp2_with (go_at_call 112; refine (lettr _ _).mono ?_; rintro e w' ⟨rfl, rfl⟩)
                  go_roundw
                  case rel => exact gaRel hlt HN.out hL hX hm (Mod.refl _ _)
                  case measure => simp [intOf]; omega
                · cases ins
                  · have HN : Hid (gaA s (k + 1) = ⟨l, ⟨nm, wd ++ [bt s k], ag⟩, false⟩) := show gaA s (k + 1) = ⟨l, ⟨nm, wd ++ [bt s k], ag⟩, false⟩ by rw [HG1.out]; simp [gaStep, e61, e63, e40, e41, e59, hLg]
                    have hLt : isL s[k].toNat = true := by rw [← HG.out]; exact hLg
                    go_wp2_with (go_at_call 112; refine (lettr _ _).mono ?_; rintro e w' ⟨rfl, rfl⟩)
                    go_region
                    rw [append_byte wd s k hlt]
                    go_wp2
                    go_roundw
                    case rel => exact gaRel hlt HN.out hL (w2 := (wr.setCell ⟨w.heap.size, 1, none⟩ (S (wd ++ [bt s k]))).drew) (hX.set1 _) hm ((Mod.refl (fun i => i = w.heap.size) wr).setCell _ _ (fun _ => rfl)).drew
                    case measure => simp [intOf]; omega
                  · have HN : Hid (gaA s (k + 1) = ⟨l, ⟨nm, wd, ag ++ [bt s k]⟩, true⟩) := show gaA s (k + 1) = ⟨l, ⟨nm, wd, ag ++ [bt s k]⟩, true⟩ by rw [HG1.out]; simp [gaStep, e61, e63, e40, e41, e59, hLg]
                    have hLt : isL s[k].toNat = true := by rw [← HG.out]; exact hLg
                    go_wp2_with (go_at_call 112; refine (lettr _ _).mono ?_; rintro e w' ⟨rfl, rfl⟩)
                    go_region
                    rw [append_byte ag s k hlt]
                    go_wp2
                    go_roundw
                    case rel => exact gaRel hlt HN.out hL (w2 := (wr.setCell ⟨w.heap.size, 2, none⟩ (S (ag ++ [bt s k]))).drew) (hX.set2 _) hm ((Mod.refl (fun i => i = w.heap.size) wr).setCell _ _ (fun _ => rfl)).drew
                    case measure => simp [intOf]; omega
    · have hks : k = s.size := by omega
      subst hks
      go_wp2
      go_ret
      exact ⟨hm, _, rfl, by rw [HGA.out]; exact owns_base hL (by omega)⟩
end Go.Proofs.YtmnfndpbblpjiabGreatDoor

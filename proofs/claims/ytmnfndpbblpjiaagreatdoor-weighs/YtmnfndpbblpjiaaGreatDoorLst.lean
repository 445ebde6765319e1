/- A list of sentences in memory. -/
import Derived.Test.YtmnfndpbblpjiaaGreatDoorRd5
namespace Go.Proofs.YtmnfndpbblpjiaaGreatDoor
open Go.RowKit Pu

theorem Tryz.info66 : (Tryz.prog.info? 83).map (fun i => (i.zero, i.size, i.bytes)) = some (some (.agg #[.int .u8 0, .string .empty, .slice none 0 0, .int .i64 0]), 4, 56) := by kernel_rfl

structure It where
  x : St
  av : Value
  wt : Nat
def secells (t : It) : List Value := [.int .u8 t.x.name, S t.x.word, t.av, .int .i64 (t.wt : Int)]
def cellsOf (q : List It) : List Value := q.flatMap secells
theorem cellsOf_len (q : List It) : (cellsOf q).length = q.length * 4 := by
  induction q with
  | nil => rfl
  | cons t q ih => simp only [cellsOf, List.flatMap_cons, List.length_append, List.length_cons] at *; rw [ih]; simp [secells]; omega
theorem cellsOf_snoc (q : List It) (t : It) : cellsOf q ++ secells t = cellsOf (q ++ [t]) := by simp [cellsOf]
theorem cellsOf_at (q : List It) (j i : Nat) (hj : j < q.length) (hi : i < 4) : (cellsOf q)[j * 4 + i]? = (secells q[j])[i]? := by
  induction q generalizing j with
  | nil => simp at hj
  | cons t q ih =>
    cases j with
    | zero =>
      simp only [cellsOf, List.flatMap_cons, Nat.zero_mul, Nat.zero_add, List.getElem_cons_zero]
      rw [List.getElem?_append_left (by simpa [secells] using hi)]
    | succ j =>
      have := ih j (by simpa using hj)
      simp only [cellsOf, List.flatMap_cons, List.getElem_cons_succ] at *
      rw [List.getElem?_append_right (by simp [secells]; omega), ← this]
      congr 1
      simp [secells]; omega

def ArgsOk (w : World) (base : Nat) (q : List It) : Prop := ∀ t ∈ q, w.ownsRow base 5 1 t.av t.x.args.length (bvs t.x.args)
def Lst (w : World) (base : Nat) (v : Value) (q : List It) : Prop := w.ownsRow base 83 4 v q.length (cellsOf q) ∧ ArgsOk w base q

theorem cell_new4 (w : World) (a b c d : Value) (t : TypeId) : ∀ j u, [a, b, c, d][j]? = some u → (w.alloc (.cells #[a, b, c, d] t)).cell? ((⟨w.heap.size, 0, none⟩ : Addr).add j) = some u := by
  intro j u hj
  match j, hj with
  | 0, hj => simp at hj; subst hj; simp [Addr.add]
  | 1, hj => simp at hj; subst hj; simp [Addr.add]
  | 2, hj => simp at hj; subst hj; simp [Addr.add]
  | 3, hj => simp at hj; subst hj; simp [Addr.add]

section
variable {w w' : World} {base : Nat} {v : Value} {q : List It}
theorem Lst.nil (w : World) (base : Nat) : Lst w base (.slice none 0 0) [] := ⟨World.ownsRow_nil _ _ _ _, fun _ h => by simp at h⟩
theorem ArgsOk.mod {p : Nat → Prop} (h : ArgsOk w base q) (hm : Mod p w w') (hp : ∀ g, base ≤ g → g < w.heap.size → p g → False) : ArgsOk w' base q :=
  fun t ht => owns_mod' (h t ht) hm (fun g hg hpg => by have := (h t ht).lt g hg; exact hp g this.1 this.2 hpg)
theorem Lst.mod {p : Nat → Prop} (h : Lst w base v q) (hm : Mod p w w') (hp : ∀ g, base ≤ g → g < w.heap.size → p g → False) : Lst w' base v q :=
  ⟨owns_mod' h.1 hm (fun g hg hpg => by have := h.1.lt g hg; exact hp g this.1 this.2 hpg), h.2.mod hm hp⟩
/-- The list's own row grows: no argument's row has turned. -/
theorem ArgsOk.grown {n : Nat} {xs : List Value} (h : ArgsOk w base q) {w2 : World} {g0 : Nat} (hv : w.ownsRow g0 83 4 v n xs) (hg : w.grownBy w2 v.ownBlock) : ArgsOk w2 base q := by
  intro t ht
  refine owns_mod' (p := fun i => v.ownBlock = some i) (h t ht) ⟨hg.os, hg.tape, hg.output, hg.size, fun k hk hn => hg.block k hk (fun e => hn e.symm)⟩ ?_
  intro g hgt hgv
  obtain ⟨_, ⟨he, _⟩ | ⟨g1, c1, cur1, he1, _, hb1, _⟩⟩ := h t ht
  · rw [he] at hgt; simp [Value.ownBlock] at hgt
  · obtain ⟨_, ⟨he, _⟩ | ⟨g2, c2, cur2, he2, _, hb2, _⟩⟩ := hv
    · rw [he] at hgv; simp [Value.ownBlock] at hgv
    · rw [he1] at hgt; rw [he2] at hgv
      simp [Value.ownBlock] at hgt hgv
      subst hgt; subst hgv
      rw [hb1] at hb2; simp at hb2
theorem Lst.low {base' : Nat} (h : Lst w base v q) (hb : base' ≤ base) : Lst w base' v q := ⟨owns_base h.1 hb, fun t ht => owns_base (h.2 t ht) hb⟩
theorem Lst.form (h : Lst w base v q) : ∃ ao cap, v = .slice ao q.length cap ∧ (ao = none → q.length = 0 ∧ cap = 0) := owns_form h.1
theorem Lst.cell {ao : Option Addr} {cap : Nat} (h : Lst w base (.slice ao q.length cap) q) {j : Nat} (hj : j < q.length) :
    ∃ gb, ao = some ⟨gb, 0, none⟩ ∧ w.cell? ⟨gb, j * 4, none⟩ = some (.int .u8 q[j].x.name) ∧ w.cell? ⟨gb, j * 4 + 1, none⟩ = some (S q[j].x.word) ∧ w.cell? ⟨gb, j * 4 + 2, none⟩ = some q[j].av ∧ w.cell? ⟨gb, j * 4 + 3, none⟩ = some (.int .i64 (q[j].wt : Int)) := by
  obtain ⟨gb, rfl, h0⟩ := owns_cell h.1 (j := j * 4 + 0) (by omega)
  have h1 := h.1.cellAt (j * 4 + 1) (by omega)
  have h2 := h.1.cellAt (j * 4 + 2) (by omega)
  have h3 := h.1.cellAt (j * 4 + 3) (by omega)
  rw [cellsOf_at q j _ hj (by omega)] at h0 h1 h2 h3
  exact ⟨gb, rfl, by simpa [secells] using h0, by simpa [secells] using h1, by simpa [secells] using h2, by simpa [secells] using h3⟩
end

set_option maxHeartbeats 1600000 in
set_option maxRecDepth 100000 in
theorem parse_any (s : ByteArray) (w : World) (hs : s.size ≤ 300) :
    Calls Tryz.prog 54 #[.string s] w fun e w' => Mod (fun _ => False) w w' ∧
      ((∃ v q, e = .returned (.tuple #[v, .int .i64 0, .bool true]) ∧ Lst w' w.heap.size v q ∧ Whole s ∧ (gaA s s.size).l = q.map It.x ∧ q.length ≤ 16) ∨ (∃ k : Nat, e = .returned (.tuple #[.slice none 0 0, .int .i64 k, .bool false]) ∧ Stuck s k)) := by
  obtain ⟨i0, hi, hz0, hz1, hz2⟩ := info_parts Tryz.info66
  go_enter Tryz.func54, Tryz.ntmps54
  go_wp2
  have hR0 : Rd (w.alloc (.cells #[.string s, .int .i64 0] 138)) w.heap.size s 0 := by unfold Rd; show (w.heap.push _)[w.heap.size]? = _; simp
  go_loopw [6] (fun v wr => ∃ (k : Nat) (q : List It) (le ar : Nat), q.length ≤ 16 ∧ Lst wr (w.heap.size + 1) v q ∧ Rd wr w.heap.size s k ∧ At s k 0 q.length le ar (q.map It.x) ⟨0, [], []⟩ false ∧ Mod (fun _ => False) w wr ∧ k ≤ s.size)
    (fun v _ => 16 - sliceLen v)
  case atStart => exact ⟨0, [], 0, 0, by simp, Lst.nil _ _, hR0, at_start s, (Mod.refl _ w).alloc _, by omega⟩
  case round =>
    clear hR0
    obtain ⟨k, q, le, ar, hq, hL, hr, hA, hm, hk⟩ := hrel
    obtain ⟨ao, cap, rfl, -⟩ := hL.form
    have h1 := hr.c1
    have hrl := hr.lt
    have hsz := hm.size
    by_cases hlt : k < s.size
    · by_cases h16 : q.length = 16
      · have H16 : Hid (q.length = 16) := h16
        clear h16
        have h16 : ((q.length : Int) == 16) = true := by have := H16.out; simp; omega
        go_wp2
        go_quiet (fail)
        go_wp2
        go_ret3
        exact ⟨hm.drewN _, .inr ⟨k, rfl, stuck_of hA hk (.inr hlt) (by simp [nx, H16.out])⟩⟩
      · have h16' : ((q.length : Int) == 16) = false := by simp; omega
        go_wp2_with fail
        have hS1 : Se (wr.alloc (.cells #[.int .u8 0, .string .empty, .slice none 0 0, .int .i64 0] 83)) wr.heap.size 0 [] NoArgs 0 := by unfold Se; show (wr.heap.push _)[wr.heap.size]? = _; simp; exact ⟨rfl, rfl⟩
        have hm1 : Mod (fun _ => False) wr (wr.alloc (.cells #[.int .u8 0, .string .empty, .slice none 0 0, .int .i64 0] 83)) := (Mod.refl _ wr).alloc _
        have hr1 := hr.keep hm1 (fun f => f)
        refine (statement_any w.heap.size wr.heap.size s k q.length le ar (q.map It.x) _ hs hlt hr1 hS1 hA h16).mono ?_
        rintro e w2 ⟨hm2, k2, hk2, hr2, ⟨rfl, x, av, le2, ar2, hA2, hS2, hown2⟩ | ⟨rfl, hst⟩⟩
        · obtain ⟨ao2, cap2, rfl, -⟩ := owns_form hown2
          have hmW : Mod (fun i => i = w.heap.size) wr w2 := ((hm1.mono (fun _ _ f => f.elim)).trans hm2).mono (fun i hi h => h.resolve_right (by omega))
          have hL2 := hL.mod hmW (fun q1 h1 _ h2 => by omega)
          have hA2' : ArgsOk w2 (w.heap.size + 1) [⟨x, .slice ao2 x.args.length cap2, 0⟩] := fun t ht => by
            simp at ht; subst ht; exact owns_base hown2 (by simp; omega)
          have hmF : Mod (fun _ => False) w w2 := ⟨hmW.os.trans hm.os, hmW.tape.trans hm.tape, hmW.output.trans hm.output, Nat.le_trans hm.size hmW.size, fun i hi _ => (hmW.block i (by omega) (by omega)).trans (hm.block i hi (fun f => f))⟩
          have hsz2 := hmF.size
          have c0 := hS2.c0
          have c1 := hS2.c1
          have c2 := hS2.c2
          have c3 := hS2.c3
          clear hL hm hm1 hm2 hS1 hr1 hr hA hown2 h1
          go_wp2_with (at_builtin; refine wpList_append_own _ rfl _ _ 47 rfl (w.heap.size + 1) 83 i0 _ 4 56 Tryz.underlying47 hi hz0 hz1 hz2 rfl (by decide) _ _ _ rfl (hL2.1.alloc _) ⟨w2.heap.size, 0, none⟩ 1 1 (secells ⟨x, .slice ao2 x.args.length cap2, 0⟩) rfl rfl ?c1 ?c2 ?c3 ?c4 ?c5 ?_)
          case c1 => exact cell_new4 _ _ _ _ _ _
          case c2 => intro u hu; simp [secells] at hu; rcases hu with rfl | rfl | rfl | rfl <;> rfl
          case c3 => unfold maxLen; omega
          case c4 => omega
          case c5 => have := hr2.lt; simp; omega
          intro v' w4 hown4 hgrow _
          have hgm : Mod (fun i => w.heap.size + 1 ≤ i) w2 w4 := ((Mod.refl _ w2).alloc _).grown hgrow (fun i hi _ => (hL2.1.lt i hi).1)
          have hr4 := hr2.keep hgm (by omega)
          have hm4 : Mod (fun _ => False) w w4 := ⟨hgm.os.trans hmF.os, hgm.tape.trans hmF.tape, hgm.output.trans hmF.output, Nat.le_trans hmF.size hgm.size, fun i hi _ => (hgm.block i (by omega) (by omega)).trans (hmF.block i hi (fun f => f))⟩
          have hal : Mod (fun _ => False) w2 (w2.alloc (.cells #[.int .u8 x.name, S x.word, .slice ao2 x.args.length cap2, .int .i64 0] 83)) := (Mod.refl _ w2).alloc _
          have hAr : ArgsOk w4 (w.heap.size + 1) (q ++ [⟨x, .slice ao2 x.args.length cap2, 0⟩]) := by
            intro t ht
            rcases List.mem_append.1 ht with ht | ht
            · exact (hL2.2.mod hal (fun _ _ _ f => f)).grown (hL2.1.alloc _) hgrow t ht
            · exact (hA2'.mod hal (fun _ _ _ f => f)).grown (hL2.1.alloc _) hgrow t ht
          have hL4 : Lst w4 (w.heap.size + 1) v' (q ++ [⟨x, .slice ao2 x.args.length cap2, 0⟩]) := ⟨by rw [← cellsOf_snoc, List.length_append]; exact hown4, hAr⟩
          obtain ⟨ao4, cap4, rfl, -⟩ := owns_form hown4
          clear hown4 hgrow hgm hL2 hA2' hmF hr2 hmW hS2 c0 c1 c2 c3 hal hAr
          go_wp2
          go_roundw
          case rel => exact ⟨k2, q ++ [⟨x, .slice ao2 x.args.length cap2, 0⟩], le2, ar2, by simp; omega, hL4, hr4, by simpa using hA2, hm4, hk2⟩
          case measure => simp [sliceLen]; omega
        · have h2 := hr2.c1
          have hmW : Mod (fun i => i = w.heap.size) wr w2 := ((hm1.mono (fun _ _ f => f.elim)).trans hm2).mono (fun i hi h => h.resolve_right (by omega))
          have hmF : Mod (fun _ => False) w w2 := ⟨hmW.os.trans hm.os, hmW.tape.trans hm.tape, hmW.output.trans hm.output, Nat.le_trans hm.size hmW.size, fun i hi _ => (hmW.block i (by omega) (by omega)).trans (hm.block i hi (fun f => f))⟩
          go_wp2
          go_quiet (fail)
          go_wp2
          go_ret3
          exact ⟨hmF.drewN _, .inr ⟨k2, rfl, hst⟩⟩
    · have hks : k = s.size := by omega
      subst hks
      go_wp2
      go_ret3
      exact ⟨hm, .inl ⟨_, q, rfl, hL.low (by omega), ⟨_, hA.1, rfl⟩, by rw [hA.2], hq⟩⟩
end Go.Proofs.YtmnfndpbblpjiaaGreatDoor

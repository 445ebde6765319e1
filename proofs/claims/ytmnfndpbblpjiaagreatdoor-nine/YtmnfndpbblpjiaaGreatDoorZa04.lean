/- A list of sentences in memory. -/
import Derived.Test.YtmnfndpbblpjiaaGreatDoorZa02
import Derived.Test.YtmnfndpbblpjiaaGreatDoorZa01
import Derived.Test.YtmnfndpbblpjiaaGreatDoorZa03
namespace Go.Proofs.YtmnfndpbblpjiaaGreatDoor
open Go.RowKit Pu
theorem Tryz.info66 : (Tryz.prog.info? 83).map (fun i => (i.zero, i.size, i.bytes)) = some (some (.agg #[.int .u8 0, .string .empty, .slice none 0 0, .int .i64 0]), 4, 56) := by kernel_rfl
structure It where
  x : St
  av : Value
  wt : Nat
def secells (t : It) : List Value := [.int .u8 t.x.name, S t.x.word, t.av, .int .i64 (t.wt : Int)]
def cellsOf (q : List It) : List Value := q.flatMap secells
theorem cellsOf_len (q : List It) : (cellsOf q).length = q.length * 4 := by
  induction q with
  | nil => rfl
  | cons t q ih => simp only [cellsOf, List.flatMap_cons, List.length_append, List.length_cons] at *; rw [ih]; simp [secells]; omega
theorem cellsOf_snoc (q : List It) (t : It) : cellsOf q ++ secells t = cellsOf (q ++ [t]) := by simp [cellsOf]
theorem cellsOf_at (q : List It) (j i : Nat) (hj : j < q.length) (hi : i < 4) : (cellsOf q)[j * 4 + i]? = (secells q[j])[i]? := by
  induction q generalizing j with
  | nil => simp at hj
  | cons t q ih =>
    cases j with
    | zero =>
      simp only [cellsOf, List.flatMap_cons, Nat.zero_mul, Nat.zero_add, List.getElem_cons_zero]
      rw [List.getElem?_append_left (by simpa [secells] using hi)]
    | succ j =>
      have := ih j (by simpa using hj)
      simp only [cellsOf, List.flatMap_cons, List.getElem_cons_succ] at *
      rw [List.getElem?_append_right (by simp [secells]; omega), ← this]
      congr 1
      simp [secells]; omega
def ArgsOk (w : World) (base : Nat) (q : List It) : Prop := ∀ t ∈ q, w.ownsRow base 5 1 t.av t.x.args.length (bvs t.x.args)
def Lst (w : World) (base : Nat) (v : Value) (q : List It) : Prop := w.ownsRow base 83 4 v q.length (cellsOf q) ∧ ArgsOk w base q
theorem cell_new4 (w : World) (a b c d : Value) (t : TypeId) : ∀ j u, [a, b, c, d][j]? = some u → (w.alloc (.cells #[a, b, c, d] t)).cell? ((⟨w.heap.size, 0, none⟩ : Addr).add j) = some u := by
  intro j u hj
  match j, hj with
  | 0, hj => simp at hj; subst hj; simp [Addr.add]
  | 1, hj => simp at hj; subst hj; simp [Addr.add]
  | 2, hj => simp at hj; subst hj; simp [Addr.add]
  | 3, hj => simp at hj; subst hj; simp [Addr.add]
section
variable {w w' : World} {base : Nat} {v : Value} {q : List It}
theorem Lst.nil (w : World) (base : Nat) : Lst w base (.slice none 0 0) [] := ⟨World.ownsRow_nil _ _ _ _, fun _ h => by simp at h⟩
theorem ArgsOk.mod {p : Nat → Prop} (h : ArgsOk w base q) (hm : Mod p w w') (hp : ∀ g, base ≤ g → g < w.heap.size → p g → False) : ArgsOk w' base q :=
  fun t ht => owns_mod' (h t ht) hm (fun g hg hpg => by have := (h t ht).lt g hg; exact hp g this.1 this.2 hpg)
theorem Lst.mod {p : Nat → Prop} (h : Lst w base v q) (hm : Mod p w w') (hp : ∀ g, base ≤ g → g < w.heap.size → p g → False) : Lst w' base v q :=
  ⟨owns_mod' h.1 hm (fun g hg hpg => by have := h.1.lt g hg; exact hp g this.1 this.2 hpg), h.2.mod hm hp⟩
/-- The list's own row grows: no argument's row has turned. -/
theorem ArgsOk.grown {n : Nat} {xs : List Value} (h : ArgsOk w base q) {w2 : World} {g0 : Nat} (hv : w.ownsRow g0 83 4 v n xs) (hg : w.grownBy w2 v.ownBlock) : ArgsOk w2 base q := by
  intro t ht
  refine owns_mod' (p := fun i => v.ownBlock = some i) (h t ht) ⟨hg.os, hg.tape, hg.output, hg.size, fun k hk hn => hg.block k hk (fun e => hn e.symm)⟩ ?_
  intro g hgt hgv
  obtain ⟨_, ⟨he, _⟩ | ⟨g1, c1, cur1, he1, _, hb1, _⟩⟩ := h t ht
  · rw [he] at hgt; simp [Value.ownBlock] at hgt
  · obtain ⟨_, ⟨he, _⟩ | ⟨g2, c2, cur2, he2, _, hb2, _⟩⟩ := hv
    · rw [he] at hgv; simp [Value.ownBlock] at hgv
    · rw [he1] at hgt; rw [he2] at hgv
      simp [Value.ownBlock] at hgt hgv
      subst hgt; subst hgv
      rw [hb1] at hb2; simp at hb2
theorem Lst.low {base' : Nat} (h : Lst w base v q) (hb : base' ≤ base) : Lst w base' v q := ⟨owns_base h.1 hb, fun t ht => owns_base (h.2 t ht) hb⟩
theorem Lst.form (h : Lst w base v q) : ∃ ao cap, v = .slice ao q.length cap ∧ (ao = none → q.length = 0 ∧ cap = 0) := owns_form h.1
theorem Lst.cell {ao : Option Addr} {cap : Nat} (h : Lst w base (.slice ao q.length cap) q) {j : Nat} (hj : j < q.length) :
    ∃ gb, ao = some ⟨gb, 0, none⟩ ∧ w.cell? ⟨gb, j * 4, none⟩ = some (.int .u8 q[j].x.name) ∧ w.cell? ⟨gb, j * 4 + 1, none⟩ = some (S q[j].x.word) ∧ w.cell? ⟨gb, j * 4 + 2, none⟩ = some q[j].av ∧ w.cell? ⟨gb, j * 4 + 3, none⟩ = some (.int .i64 (q[j].wt : Int)) := by
  obtain ⟨gb, rfl, h0⟩ := owns_cell h.1 (j := j * 4 + 0) (by omega)
  have h1 := h.1.cellAt (j * 4 + 1) (by omega)
  have h2 := h.1.cellAt (j * 4 + 2) (by omega)
  have h3 := h.1.cellAt (j * 4 + 3) (by omega)
  rw [cellsOf_at q j _ hj (by omega)] at h0 h1 h2 h3
  exact ⟨gb, rfl, by simpa [secells] using h0, by simpa [secells] using h1, by simpa [secells] using h2, by simpa [secells] using h3⟩
end
set_option maxHeartbeats 1600000 in
set_option maxRecDepth 100000 in
theorem parse_any (s : ByteArray) (w : World) (hs : s.size ≤ 300) :
    Calls Tryz.prog 54 #[.string s] w fun e w' => Mod (fun _ => False) w w' ∧
      ((∃ v q, e = .returned (.tuple #[v, .int .i64 0, .bool true]) ∧ Lst w' w.heap.size v q ∧ Whole s ∧ (gaA s s.size).l = q.map It.x ∧ q.length ≤ 16) ∨ (∃ k : Nat, e = .returned (.tuple #[.slice none 0 0, .int .i64 k, .bool false]) ∧ Stuck s k)) := by
  obtain ⟨i0, hi, hz0, hz1, hz2⟩ := info_parts Tryz.info66
  go_enter Tryz.func54, Tryz.ntmps54
  go_wp2
  have hR0 : Rd (w.alloc (.cells #[.string s, .int .i64 0] 138)) w.heap.size s 0 := by unfold Rd; show (w.heap.push _)[w.heap.size]? = _; simp
  go_loopw [6] (fun v wr => ∃ (k : Nat) (q : List It) (le ar : Nat), q.length ≤ 16 ∧ Lst wr (w.heap.size + 1) v q ∧ Rd wr w.heap.size s k ∧ At s k 0 q.length le ar (q.map It.x) ⟨0, [], []⟩ false ∧ Mod (fun _ => False) w wr ∧ k ≤ s.size)
    (fun v _ => 16 - sliceLen v)
  case atStart => exact ⟨0, [], 0, 0, by simp, Lst.nil _ _, hR0, at_start s, (Mod.refl _ w).alloc _, by omega⟩
  case round =>
    clear hR0
    obtain ⟨k, q, le, ar, hq, hL, hr, hA, hm, hk⟩ := hrel
    obtain ⟨ao, cap, rfl, -⟩ := hL.form
    have h1 := hr.c1
    have hrl := hr.lt
    have hsz := hm.size
    by_cases hlt : k < s.size
    · by_cases h16 : q.length = 16
      · have H16 : Hid (q.length = 16) := h16
        clear h16
        have h16 : ((q.length : Int) == 16) = true := by have := H16.out; simp; omega
        go_wp2
        go_quiet (fail)
        go_wp2
        go_ret3
        exact ⟨hm.drewN _, .inr ⟨k, rfl, stuck_of hA hk (.inr hlt) (by simp [nx, H16.out])⟩⟩
      · have h16' : ((q.length : Int) == 16) = false := by simp; omega
        go_wp2_with fail
        have hS1 : Se (wr.alloc (.cells #[.int .u8 0, .string .empty, .slice none 0 0, .int .i64 0] 83)) wr.heap.size 0 [] NoArgs 0 := by unfold Se; show (wr.heap.push _)[wr.heap.size]? = _; simp; exact ⟨rfl, rfl⟩
        have hm1 : Mod (fun _ => False) wr (wr.alloc (.cells #[.int .u8 0, .string .empty, .slice none 0 0, .int .i64 0] 83)) := (Mod.refl _ wr).alloc _
        have hr1 := hr.keep hm1 (fun f => f)
        refine (statement_any w.heap.size wr.heap.size s k q.length le ar (q.map It.x) _ hs hlt hr1 hS1 hA h16).mono ?_
        rintro e w2 ⟨hm2, k2, hk2, hr2, ⟨rfl, x, av, le2, ar2, hA2, hS2, hown2⟩ | ⟨rfl, hst⟩⟩
        · obtain ⟨ao2, cap2, rfl, -⟩ := owns_form hown2
          have hmW : Mod (fun i => i = w.heap.size) wr w2 := ((hm1.mono (fun _ _ f => f.elim)).trans hm2).mono (fun i hi h => h.resolve_right (by omega))
          have hL2 := hL.mod hmW (fun q1 h1 _ h2 => by omega)
          have hA2' : ArgsOk w2 (w.heap.size + 1) [⟨x, .slice ao2 x.args.length cap2, 0⟩] := fun t ht => by
            simp at ht; subst ht; exact owns_base hown2 (by simp; omega)
          have hmF : Mod (fun _ => False) w w2 := ⟨hmW.os.trans hm.os, hmW.tape.trans hm.tape, hmW.output.trans hm.output, Nat.le_trans hm.size hmW.size, fun i hi _ => (hmW.block i (by omega) (by omega)).trans (hm.block i hi (fun f => f))⟩
          have hsz2 := hmF.size
          have c0 := hS2.c0
          have c1 := hS2.c1
          have c2 := hS2.c2
          have c3 := hS2.c3
          clear hL hm hm1 hm2 hS1 hr1 hr hA hown2 h1
          go_wp2_with (at_builtin; refine wpList_append_own _ rfl _ _ 47 rfl (w.heap.size + 1) 83 i0 _ 4 56 Tryz.underlying47 hi hz0 hz1 hz2 rfl (by decide) _ _ _ rfl (hL2.1.alloc _) ⟨w2.heap.size, 0, none⟩ 1 1 (secells ⟨x, .slice ao2 x.args.length cap2, 0⟩) rfl rfl ?c1 ?c2 ?c3 ?c4 ?c5 ?_)
          case c1 => exact cell_new4 _ _ _ _ _ _
          case c2 => intro u hu; simp [secells] at hu; rcases hu with rfl | rfl | rfl | rfl <;> rfl
          case c3 => unfold maxLen; omega
          case c4 => omega
          case c5 => have := hr2.lt; simp; omega
          intro v' w4 hown4 hgrow _
          have hgm : Mod (fun i => w.heap.size + 1 ≤ i) w2 w4 := ((Mod.refl _ w2).alloc _).grown hgrow (fun i hi _ => (hL2.1.lt i hi).1)
          have hr4 := hr2.keep hgm (by omega)
          have hm4 : Mod (fun _ => False) w w4 := ⟨hgm.os.trans hmF.os, hgm.tape.trans hmF.tape, hgm.output.trans hmF.output, Nat.le_trans hmF.size hgm.size, fun i hi _ => (hgm.block i (by omega) (by omega)).trans (hmF.block i hi (fun f => f))⟩
          have hal : Mod (fun _ => False) w2 (w2.alloc (.cells #[.int .u8 x.name, S x.word, .slice ao2 x.args.length cap2, .int .i64 0] 83)) := (Mod.refl _ w2).alloc _
          have hAr : ArgsOk w4 (w.heap.size + 1) (q ++ [⟨x, .slice ao2 x.args.length cap2, 0⟩]) := by
            intro t ht
            rcases List.mem_append.1 ht with ht | ht
            · exact (hL2.2.mod hal (fun _ _ _ f => f)).grown (hL2.1.alloc _) hgrow t ht
            · exact (hA2'.mod hal (fun _ _ _ f => f)).grown (hL2.1.alloc _) hgrow t ht
          have hL4 : Lst w4 (w.heap.size + 1) v' (q ++ [⟨x, .slice ao2 x.args.length cap2, 0⟩]) := ⟨by rw [← cellsOf_snoc, List.length_append]; exact hown4, hAr⟩
          obtain ⟨ao4, cap4, rfl, -⟩ := owns_form hown4
          clear hown4 hgrow hgm hL2 hA2' hmF hr2 hmW hS2 c0 c1 c2 c3 hal hAr
          go_wp2
          go_roundw
          case rel => exact ⟨k2, q ++ [⟨x, .slice ao2 x.args.length cap2, 0⟩], le2, ar2, by simp; omega, hL4, hr4, by simpa using hA2, hm4, hk2⟩
          case measure => simp [sliceLen]; omega
        · have h2 := hr2.c1
          have hmW : Mod (fun i => i = w.heap.size) wr w2 := ((hm1.mono (fun _ _ f => f.elim)).trans hm2).mono (fun i hi h => h.resolve_right (by omega))
          have hmF : Mod (fun _ => False) w w2 := ⟨hmW.os.trans hm.os, hmW.tape.trans hm.tape, hmW.output.trans hm.output, Nat.le_trans hm.size hmW.size, fun i hi _ => (hmW.block i (by omega) (by omega)).trans (hm.block i hi (fun f => f))⟩
          go_wp2
          go_quiet (fail)
          go_wp2
          go_ret3
          exact ⟨hmF.drewN _, .inr ⟨k2, rfl, hst⟩⟩
    · have hks : k = s.size := by omega
      subst hks
      go_wp2
      go_ret3
      exact ⟨hm, .inl ⟨_, q, rfl, hL.low (by omega), ⟨_, hA.1, rfl⟩, by rw [hA.2], hq⟩⟩
end Go.Proofs.YtmnfndpbblpjiaaGreatDoor

/- The tables of words, on both sides. -/
namespace Go.Proofs.YtmnfndpbblpjiaaGreatDoor
open Go.RowKit Pu
set_option maxHeartbeats 1000000 in
theorem sortGiven_any (s : ByteArray) (w : World) : Calls Tryz.prog 145 #[.string s] w fun e w' => e = .returned (.int .u8 (sG s.toList)) ∧ w = w' := by
  go_enter Tryz.func145, Tryz.ntmps145
  go_wp2
  all_goals go_ret
  all_goals refine ⟨?_, rfl⟩
  all_goals simp_all [sG]
set_option maxHeartbeats 1000000 in
theorem weightGiven_any (s : ByteArray) (sum last : Nat) (w : World) (h1 : sum ≤ 1000) (h2 : last ≤ 1000) : Calls Tryz.prog 146 #[.string s, .int .i64 sum, .int .i64 last] w fun e w' => e = .returned (.int .i64 (wG s.toList sum last)) ∧ w = w' := by
  go_enter Tryz.func146, Tryz.ntmps146
  go_wp2
  all_goals go_ret
  all_goals refine ⟨?_, rfl⟩
  all_goals simp_all [wG]
set_option maxHeartbeats 2000000 in
theorem questionTakes_any (s : ByteArray) (w : World) : Calls Tryz.prog 143 #[.string s] w fun e w' => e = .returned (.tuple #[S (qT s.toList).1, .bool (qT s.toList).2]) ∧ w = w' := by
  go_enter Tryz.func143, Tryz.ntmps143
  go_wp2
  all_goals go_ret2
  all_goals refine ⟨?_, rfl⟩
  all_goals simp_all [qT]
set_option maxHeartbeats 2000000 in
theorem constructionTakes_any (s : ByteArray) (w : World) : Calls Tryz.prog 144 #[.string s] w fun e w' => e = .returned (.tuple #[S (cT s.toList).1, .bool (cT s.toList).2]) ∧ w = w' := by
  go_enter Tryz.func144, Tryz.ntmps144
  go_wp2
  all_goals go_ret2
  all_goals refine ⟨?_, rfl⟩
  all_goals simp_all [cT]
set_option maxHeartbeats 4000000 in
set_option maxRecDepth 100000 in
theorem form_any (s : ByteArray) (w : World) : Calls Tryz.prog 113 #[.string s] w fun e w' => e = .returned (.tuple #[S (fm s.toList).1, .int .u8 (fm s.toList).2]) ∧ w = w' := by
  go_enter Tryz.func113, Tryz.ntmps113
  go_wp2
  all_goals go_ret2
  all_goals refine ⟨?_, rfl⟩
  all_goals simp_all [fm]
end Go.Proofs.YtmnfndpbblpjiaaGreatDoor

/- Who gave a name, on both sides. -/
namespace Go.Proofs.YtmnfndpbblpjiaaGreatDoor
open Go.RowKit Pu
set_option maxHeartbeats 800000 in
set_option maxRecDepth 100000 in
theorem giver_any (v : Value) (q : List It) (nm base : Nat) (w : World) (hq : q.length ≤ 1000) (hL : Lst w base v q) :
    Calls Tryz.prog 92 #[v, .int .u8 nm] w fun e w' => e = .returned (.int .i64 (gvI (q.map It.x) nm)) ∧ w = w' := by
  obtain ⟨ao, cap, rfl, -⟩ := hL.form
  go_enter Tryz.func92, Tryz.ntmps92
  go_wp2
  go_loop [8] (fun i => ∃ k : Nat, k ≤ q.length ∧ i = .int .i64 k ∧ ∀ j (hj : j < q.length), j < k → q[j].x.name ≠ nm) (fun i => q.length - (intOf i).toNat)
  case atStart => exact ⟨0, by omega, rfl, fun j hj h => by omega⟩
  case round =>
    obtain ⟨k, hk, rfl, hn⟩ := hrel
    by_cases hlt : k < q.length
    · obtain ⟨gb, rfl, c0, -⟩ := hL.cell hlt
      have HN : Hid (∀ j (hj : j < q.length), j < k → q[j].x.name ≠ nm) := hn
      clear hn
      by_cases he : q[k].x.name = nm
      · have HE : Hid (q[k].x.name = nm) := he
        have hb : ((q[k].x.name : Int) == (nm : Int)) = true := beq_t he
        clear he
        go_wp2
        go_ret
        exact ⟨by rw [gvI_some (k := k) (by simpa using hlt) (by simpa using HE.out) (fun j hj => by simpa using HN.out j (by omega) hj)]; rfl, rfl⟩
      · have hb : ((q[k].x.name : Int) == (nm : Int)) = false := beq_f he
        go_wp2
        go_round
        case rel => exact ⟨k + 1, by omega, by go_num, fun j hj h => by by_cases e : j = k; (· subst e; exact he); exact HN.out j hj (by omega)⟩
        case measure => simp [intOf]; omega
    · have hks : k = q.length := by omega
      subst hks
      go_wp2
      go_ret
      exact ⟨by rw [gvI_none (fun j hj => by simpa using hn j (by simpa using hj) (by simpa using hj))]; rfl, rfl⟩
theorem RLst.cell {w : World} {base : Nat} {ao : Option Addr} {cap : Nat} {l : List St} (h : RLst w base (.slice ao l.length cap) l) {j : Nat} (hj : j < l.length) :
    ∃ gb, ao = some ⟨gb, 0, none⟩ ∧ w.cell? ⟨gb, j * 3, none⟩ = some (.int .u8 l[j].name) ∧ w.cell? ⟨gb, j * 3 + 1, none⟩ = some (S l[j].word) ∧ w.cell? ⟨gb, j * 3 + 2, none⟩ = some (S l[j].args) := by
  unfold RLst at h
  obtain ⟨gb, rfl, h0⟩ := owns_cell h (j := j * 3 + 0) (by omega)
  have h1 := h.cellAt (j * 3 + 1) (by omega)
  have h2 := h.cellAt (j * 3 + 2) (by omega)
  rw [rcellsOf_at l j _ hj (by omega)] at h0 h1 h2
  exact ⟨gb, rfl, by simpa [rcells] using h0, by simpa [rcells] using h1, by simpa [rcells] using h2⟩
set_option maxHeartbeats 800000 in
set_option maxRecDepth 100000 in
theorem given_any (v : Value) (l : List St) (n nm base : Nat) (w : World) (hq : l.length ≤ 1000) (hn : n ≤ l.length) (hL : RLst w base v l) :
    Calls Tryz.prog 114 #[v, .int .i64 n, .int .u8 nm] w fun e w' => e = .returned (.int .i64 (gvI (l.take n) nm)) ∧ w = w' := by
  obtain ⟨ao, cap, rfl, -⟩ := owns_form hL
  go_enter Tryz.func114, Tryz.ntmps114
  go_wp2
  go_loop [7] (fun i => ∃ k : Nat, k ≤ n ∧ i = .int .i64 k ∧ ∀ j (hj : j < l.length), j < k → l[j].name ≠ nm) (fun i => n - (intOf i).toNat)
  case atStart => exact ⟨0, by omega, rfl, fun j hj h => by omega⟩
  case round =>
    obtain ⟨k, hk, rfl, hN⟩ := hrel
    have HN : Hid (∀ j (hj : j < l.length), j < k → l[j].name ≠ nm) := hN
    clear hN
    by_cases hlt : k < n
    · have hkl : k < l.length := by omega
      obtain ⟨gb, rfl, c0, -⟩ := hL.cell hkl
      by_cases he : l[k].name = nm
      · have HE : Hid (l[k].name = nm) := he
        have hb : ((l[k].name : Int) == (nm : Int)) = true := beq_t he
        clear he
        go_wp2
        go_ret
        exact ⟨by rw [gvI_some (k := k) (by simp; omega) (by simpa using HE.out) (fun j hj => by simpa using HN.out j (by omega) hj)]; rfl, rfl⟩
      · have hb : ((l[k].name : Int) == (nm : Int)) = false := beq_f he
        go_wp2
        go_round
        case rel => exact ⟨k + 1, by omega, by go_num, fun j hj h => by by_cases e : j = k; (· subst e; exact he); exact HN.out j hj (by omega)⟩
        case measure => simp [intOf]; omega
    · have hks : k = n := by omega
      subst hks
      go_wp2
      go_ret
      exact ⟨by rw [gvI_none (fun j hj => by simpa using HN.out j (by simp at hj; omega) (by simp at hj; omega))]; rfl, rfl⟩
end Go.Proofs.YtmnfndpbblpjiaaGreatDoor

/- The program's judging of a statement: names, sorts, weight. -/
namespace Go.Proofs.YtmnfndpbblpjiaaGreatDoor
set_option linter.unusedVariables false
open Go.RowKit Pu
abbrev ag4 (nm : Nat) (wd : List UInt8) (av : Value) (wt : Int) : Value := .agg #[.int .u8 nm, S wd, av, .int .i64 wt]
def pq (q : List It) : List (St × Nat) := q.map fun t => (t.x, t.wt)
theorem sts_pq (q : List It) : sts (pq q) = q.map It.x := by simp [sts, pq]
set_option maxHeartbeats 400000 in
theorem isQuestion_any (nm : Nat) (wd : List UInt8) (av : Value) (wt : Int) (w : World) (hav : av.oneCell' = true) :
    Calls Tryz.prog 57 #[ag4 nm wd av wt] w fun e w' => e = .returned (.bool (nm == 0)) ∧ Mod (fun _ => False) w w' := by
  go_enter Tryz.func57, Tryz.ntmps57
  go_wp2
  go_ret
  exact ⟨by have : (nm == 0) = ((nm : Int) == 0) := (by rw [Bool.eq_iff_iff]; simp); rw [this]; rfl, (Mod.refl _ w).alloc _⟩
theorem se_new (w : World) (nm : Nat) (wd : List UInt8) (av : Value) (wt : Int) : Se (w.alloc (.cells #[.int .u8 nm, S wd, av, .int .i64 wt] 83)) w.heap.size nm wd av wt := by
  unfold Se; show (w.heap.push _)[w.heap.size]? = _; simp
def tk (nm : Nat) (wd : List UInt8) : List UInt8 × Bool := if nm = 0 then qT wd else cT wd
set_option maxHeartbeats 800000 in
theorem argumentSorts_any (nm : Nat) (wd : List UInt8) (av : Value) (wt : Int) (w : World) (hav : av.oneCell' = true) :
    Calls Tryz.prog 88 #[ag4 nm wd av wt] w fun e w' => e = .returned (.tuple #[S (tk nm wd).1, .bool (tk nm wd).2]) ∧ Mod (fun _ => False) w w' := by
  have hS := se_new w nm wd av wt
  have hm0 : Mod (fun _ => False) w (w.alloc (.cells #[.int .u8 nm, S wd, av, .int .i64 wt] 83)) := (Mod.refl _ w).alloc _
  by_cases h0 : nm = 0
  · have HT : Hid (tk nm wd = qT wd) := show tk nm wd = qT wd by simp [tk, h0]
    have hb : (nm == 0) = true := by simpa using h0
    clear h0
    go_enter Tryz.func88, Tryz.ntmps88
    go_wp2_with fail
    refine (isQuestion_any nm wd av wt _ hav).mono ?_
    rintro e w1 ⟨rfl, hm1⟩
    have c1 := (hS.keep hm1 (fun f => f)).c1
    go_wp2_with fail
    refine (questionTakes_any _ _).mono ?_
    rintro e w2 ⟨rfl, rfl⟩
    go_wp2
    go_ret2
    exact ⟨by rw [HT.out]; rfl, hm0.trans hm1⟩
  · have HT : Hid (tk nm wd = cT wd) := show tk nm wd = cT wd by simp [tk, h0]
    have hb : (nm == 0) = false := by simpa using h0
    go_enter Tryz.func88, Tryz.ntmps88
    go_wp2_with fail
    refine (isQuestion_any nm wd av wt _ hav).mono ?_
    rintro e w1 ⟨rfl, hm1⟩
    have c1 := (hS.keep hm1 (fun f => f)).c1
    go_wp2_with fail
    refine (constructionTakes_any _ _).mono ?_
    rintro e w2 ⟨rfl, rfl⟩
    go_wp2
    go_ret2
    exact ⟨by rw [HT.out]; rfl, hm0.trans hm1⟩
theorem owns_one {w : World} {base : Nat} {e : TypeId} {size : Nat} {v : Value} {n : Nat} {xs : List Value} (h : w.ownsRow base e size v n xs) : v.oneCell' = true := by
  obtain ⟨ao, cap, rfl, -⟩ := owns_form h; rfl
theorem args_cell {w : World} {base n : Nat} {ao : Option Addr} {cap : Nat} {ag : List UInt8} (h : w.ownsRow base 5 1 (.slice ao n cap) n (bvs ag)) (hn : n = ag.length) {k : Nat} (hk : k < ag.length) :
    ∃ gb, ao = some ⟨gb, 0, none⟩ ∧ w.cell? ⟨gb, k, none⟩ = some (.int .u8 ag[k].toNat) := by
  subst hn
  obtain ⟨gb, rfl, hc⟩ := owns_cell h (j := k) (by omega)
  exact ⟨gb, rfl, by rw [hc]; simp [bvs, hk]⟩
theorem names_no {l : List St} {x : St} {k : Nat} (hk : k < x.args.length) (h : gvI l x.args[k].toNat = -1) : namesOk l x = false := by
  have : x.args.all (fun a => gvI l a.toNat != -1) = false := by
    rw [Bool.eq_false_iff, ne_eq, List.all_eq_true]
    intro H
    have := H x.args[k] (List.getElem_mem hk)
    simp [h] at this
  simp [namesOk, this]
set_option maxHeartbeats 1600000 in
set_option maxRecDepth 100000 in
theorem namesFit_any (v : Value) (q : List It) (base : Nat) (x : St) (av : Value) (wt : Int) (w : World) (hq : q.length ≤ 1000) (hal : x.args.length ≤ 1000) (hL : Lst w base v q) (hA : w.ownsRow base 5 1 av x.args.length (bvs x.args)) :
    Calls Tryz.prog 89 #[v, ag4 x.name x.word av wt] w fun e w' => e = .returned (.bool (namesOk (q.map It.x) x)) ∧ Mod (fun _ => False) w w' := by
  have hS := se_new w x.name x.word av wt
  have hm0 : Mod (fun _ => False) w (w.alloc (.cells #[.int .u8 x.name, S x.word, av, .int .i64 wt] 83)) := (Mod.refl _ w).alloc _
  have hL1 := hL.mod hm0 (fun _ _ _ f => f)
  have hA1 := owns_mod hA hm0 (fun _ _ f => f)
  have hav := owns_one hA
  obtain ⟨aa, acap, rfl, -⟩ := owns_form hA
  clear hL hA
  go_enter Tryz.func89, Tryz.ntmps89
  go_wp2
  generalize hW : w.alloc (.cells #[.int .u8 x.name, S x.word, .slice aa x.args.length acap, .int .i64 wt] 83) = W at *
  clear hW
  go_loop [10] (fun i => ∃ k : Nat, k ≤ x.args.length ∧ i = .int .i64 k ∧ ∀ j (hj : j < x.args.length), j < k → gvI (q.map It.x) x.args[j].toNat ≠ -1) (fun i => x.args.length - (intOf i).toNat)
  case atStart => exact ⟨0, by omega, rfl, fun j hj h => by omega⟩
  case round =>
    obtain ⟨k, hk, rfl, hN⟩ := hrel
    have HN : Hid (∀ j (hj : j < x.args.length), j < k → gvI (q.map It.x) x.args[j].toNat ≠ -1) := hN
    clear hN
    by_cases hlt : k < x.args.length
    · obtain ⟨gb, rfl, ck⟩ := args_cell hA1 rfl hlt
      by_cases hg : gvI (q.map It.x) x.args[k].toNat = -1
      · have HG : Hid (gvI (q.map It.x) x.args[k].toNat = -1) := hg
        have hb : (gvI (q.map It.x) x.args[k].toNat == -1) = true := by rw [hg]; rfl
        clear hg
        go_wp2_with fail
        refine (giver_any v q x.args[k].toNat base W hq hL1).mono ?_
        rintro e w2 ⟨rfl, rfl⟩
        go_wp2
        go_ret
        exact ⟨by rw [names_no hlt HG.out]; rfl, hm0⟩
      · have hb : (gvI (q.map It.x) x.args[k].toNat == -1) = false := by rw [beq_eq_false_iff_ne]; exact hg
        go_wp2_with fail
        refine (giver_any v q x.args[k].toNat base W hq hL1).mono ?_
        rintro e w2 ⟨rfl, rfl⟩
        go_wp2
        go_round
        case rel => exact ⟨k + 1, by omega, by go_num, fun j hj h => by by_cases e : j = k; (· subst e; exact hg); exact HN.out j hj (by omega)⟩
        case measure => simp [intOf]; omega
    · have hall : x.args.all (fun a => gvI (q.map It.x) a.toNat != -1) = true := by
        rw [List.all_eq_true]; intro a ha; obtain ⟨j, hj, rfl⟩ := List.getElem_of_mem ha
        rw [bne_iff_ne]; exact HN.out j hj (by omega)
      have HA : Hid (x.args.all (fun a => gvI (q.map It.x) a.toNat != -1) = true) := hall
      clear hall
      have s0 := hS.c0
      have s1 := hS.c1
      have s2 := hS.c2
      have s3 := hS.c3
      by_cases h0 : x.name = 0
      · have hb : (x.name == 0) = true := by simpa using h0
        have HB : Hid (namesOk (q.map It.x) x = true) := show namesOk (q.map It.x) x = true by unfold namesOk; rw [HA.out]; simp [h0]
        clear h0
        go_wp2_with fail
        refine (isQuestion_any x.name x.word _ wt _ hav).mono ?_
        rintro e w2 ⟨rfl, hm2⟩
        go_wp2
        go_ret
        exact ⟨by rw [HB.out]; rfl, hm0.trans hm2⟩
      · have hb : (x.name == 0) = false := by simpa using h0
        have HB : Hid (namesOk (q.map It.x) x = (gvI (q.map It.x) x.name == -1)) := show namesOk (q.map It.x) x = (gvI (q.map It.x) x.name == -1) by unfold namesOk; rw [HA.out, hb]; simp
        clear h0
        go_wp2_with fail
        refine (isQuestion_any x.name x.word _ wt _ hav).mono ?_
        rintro e w2 ⟨rfl, hm2⟩
        have c0 := (hS.keep hm2 (fun f => f)).c0
        have hL2 := hL1.mod hm2 (fun _ _ _ f => f)
        go_wp2_with fail
        refine (giver_any v q x.name base _ hq hL2).mono ?_
        rintro e w3 ⟨rfl, rfl⟩
        go_wp2
        go_ret
        exact ⟨by rw [HB.out]; rfl, hm0.trans hm2⟩
end Go.Proofs.YtmnfndpbblpjiaaGreatDoor

/- The program's look at sorts, and its weighing. -/
namespace Go.Proofs.YtmnfndpbblpjiaaGreatDoor
open Go.RowKit Pu
theorem Lst.drewN {w : World} {base : Nat} {v : Value} {q : List It} (h : Lst w base v q) (n : Nat) : Lst (w.drewN n) base v q := h.mod (Mod.same n (fun _ => False) w) (fun _ _ _ f => f)
theorem who_q {q : List It} {nm j : Nat} (hj : j < q.length) (h : gvI (q.map It.x) nm = (j : Int)) : who (pq q) nm = some (q[j].x, q[j].wt) := by
  have := who_of (p := pq q) (nm := nm) (k := j) (by simpa [pq] using hj) (by rw [sts_pq]; exact h)
  simpa [pq] using this
theorem given_q {q : List It} {nm : Nat} (h : gvI (q.map It.x) nm ≠ -1) : ∃ j, ∃ hj : j < q.length, gvI (q.map It.x) nm = (j : Int) ∧ q[j].x.name = nm := by
  obtain ⟨k, hk, h1, h2⟩ := given_lt (p := pq q) (nm := nm) (by rw [sts_pq]; exact h)
  exact ⟨k, by simpa [pq] using hk, by rw [← sts_pq]; exact h1, by simpa [pq] using h2⟩
theorem sorts_no {p : List (St × Nat)} {ag so : List UInt8} {k : Nat} (hk : k < ag.length) (hs : k < so.length) (h : ¬ sG (argWord p ag[k].toNat) = so[k].toNat) : sortsOkG p ag so = false := by
  unfold sortsOkG
  rw [Bool.eq_false_iff, ne_eq, List.all_eq_true]
  intro H
  have := H (ag[k], so[k]) (by rw [← List.getElem_zip (h := by simp; omega)]; exact List.getElem_mem _)
  exact h (by simpa using this)
theorem sorts_yes {p : List (St × Nat)} {ag so : List UInt8} (h : ∀ j (hj : j < ag.length) (hs : j < so.length), sG (argWord p ag[j].toNat) = so[j].toNat) : sortsOkG p ag so = true := by
  unfold sortsOkG
  rw [List.all_eq_true]
  intro y hy
  obtain ⟨j, hj, rfl⟩ := List.getElem_of_mem hy
  have hj' : j < min ag.length so.length := by simpa using hj
  simpa using h j (by omega) (by omega)
set_option maxHeartbeats 1600000 in
set_option maxRecDepth 100000 in
theorem sortsFit_any (v : Value) (q : List It) (base : Nat) (x : St) (av : Value) (wt : Int) (so : List UInt8) (w : World) (hq : q.length ≤ 1000) (hal : x.args.length ≤ 1000) (hL : Lst w base v q) (hA : w.ownsRow base 5 1 av x.args.length (bvs x.args))
    (hg : ∀ j (hj : j < x.args.length), gvI (q.map It.x) x.args[j].toNat ≠ -1) (hlen : x.args.length = so.length) :
    Calls Tryz.prog 90 #[v, ag4 x.name x.word av wt, S so] w fun e w' => e = .returned (.bool (sortsOkG (pq q) x.args so)) ∧ Mod (fun _ => False) w w' := by
  have hS := se_new w x.name x.word av wt
  have hm0 : Mod (fun _ => False) w (w.alloc (.cells #[.int .u8 x.name, S x.word, av, .int .i64 wt] 83)) := (Mod.refl _ w).alloc _
  have hL1 := hL.mod hm0 (fun _ _ _ f => f)
  have hA1 := owns_mod hA hm0 (fun _ _ f => f)
  have hav := owns_one hA
  obtain ⟨aa, acap, rfl, -⟩ := owns_form hA
  obtain ⟨va, vcap, rfl, -⟩ := hL.form
  have HG : Hid (∀ j (hj : j < x.args.length), gvI (q.map It.x) x.args[j].toNat ≠ -1) := hg
  have HLen : Hid (x.args.length = so.length) := hlen
  clear hL hA hg hlen
  go_enter Tryz.func90, Tryz.ntmps90
  go_wp2
  go_loopw [13] (fun i wr => ∃ k : Nat, k ≤ x.args.length ∧ i = .int .i64 k ∧ Mod (fun _ => False) w wr ∧ Lst wr base (.slice va q.length vcap) q ∧ wr.ownsRow base 5 1 (.slice aa x.args.length acap) x.args.length (bvs x.args) ∧ ∀ j (hj : j < x.args.length) (hs : j < so.length), j < k → sG (argWord (pq q) x.args[j].toNat) = so[j].toNat) (fun i _ => x.args.length - (intOf i).toNat)
  case atStart => exact ⟨0, by omega, rfl, hm0, hL1, hA1, fun j hj hs h => by omega⟩
  case round =>
    clear hm0 hL1 hA1 hS
    obtain ⟨k, hk, rfl, hm0, hL1, hA1, hN⟩ := hrel
    have HN : Hid (∀ j (hj : j < x.args.length) (hs : j < so.length), j < k → sG (argWord (pq q) x.args[j].toNat) = so[j].toNat) := hN
    clear hN
    by_cases hlt : k < x.args.length
    · have hks : k < so.length := by have := HLen.out; omega
      obtain ⟨gb, rfl, ck⟩ := args_cell hA1 rfl hlt
      obtain ⟨j, hj, hgj, -⟩ := given_q (HG.out k hlt)
      obtain ⟨vb, rfl, -, cw, -⟩ := hL1.cell hj
      have hw : argWord (pq q) x.args[k].toNat = q[j].x.word := by simp [argWord, who_q hj hgj]
      have HW : Hid (argWord (pq q) x.args[k].toNat = q[j].x.word) := hw
      have HJ : Hid (gvI (q.map It.x) x.args[k].toNat = (j : Int)) := hgj
      clear hw hgj
      have hj1 : ((j : Int) == -1) = false := by rw [beq_eq_false_iff_ne]; omega
      have hso : ∀ h, (⟨so.toArray⟩ : ByteArray)[k]'h = so[k] := fun _ => rfl
      by_cases he : sG q[j].x.word = so[k].toNat
      · have HE : Hid (sG q[j].x.word = so[k].toNat) := he
        have hb : ((sG q[j].x.word : Int) != (so[k].toNat : Int)) = false := by rw [he]; simp
        clear he
        go_wp2_with fail
        have hgv := giver_any (.slice (some ⟨vb, 0, none⟩) q.length vcap) q x.args[k].toNat base wr hq hL1
        rw [HJ.out] at hgv
        refine hgv.mono ?_
        rintro e w2 ⟨rfl, rfl⟩
        clear hgv
        go_wp2
        go_quiet ((go_at_call 145; exact Calls.quiet_of_same ((sortGiven_any _ _).mono fun _ _ h => ⟨h.1, h.2.symm⟩)))
        go_wp2
        go_roundw
        case rel => exact ⟨k + 1, by omega, by go_num, hm0.drewN _, hL1.drewN _, owns_drewN hA1 _, fun j hj hs h => by by_cases e : j = k; (· subst e; rw [HW.out]; exact HE.out); exact HN.out j hj hs (by omega)⟩
        case measure => simp [intOf]; omega
      · have hb : ((sG q[j].x.word : Int) != (so[k].toNat : Int)) = true := by rw [bne_iff_ne]; omega
        go_wp2_with fail
        have hgv := giver_any (.slice (some ⟨vb, 0, none⟩) q.length vcap) q x.args[k].toNat base wr hq hL1
        rw [HJ.out] at hgv
        refine hgv.mono ?_
        rintro e w2 ⟨rfl, rfl⟩
        clear hgv
        go_wp2
        go_quiet ((go_at_call 145; exact Calls.quiet_of_same ((sortGiven_any _ _).mono fun _ _ h => ⟨h.1, h.2.symm⟩)))
        go_wp2
        go_ret
        exact ⟨by rw [sorts_no hlt hks (by rw [HW.out]; exact he)]; rfl, hm0.drewN _⟩
    · go_wp2
      go_ret
      exact ⟨by rw [sorts_yes (fun j hj hs => HN.out j hj hs (by omega))]; rfl, hm0⟩
end Go.Proofs.YtmnfndpbblpjiaaGreatDoor

/- The program's weighing, and its judging of a statement. -/
namespace Go.Proofs.YtmnfndpbblpjiaaGreatDoor
open Go.RowKit Pu
theorem take_snoc' {α : Type} (l : List α) (k : Nat) (h : k < l.length) : l.take (k + 1) = l.take k ++ [l[k]] := by
  rw [List.take_succ_eq_append_getElem h]
set_option maxHeartbeats 1600000 in
set_option maxRecDepth 100000 in
theorem weigh_any (v : Value) (q : List It) (base : Nat) (x : St) (av : Value) (wt : Int) (w : World) (hq : q.length ≤ 1000) (hal : x.args.length ≤ 4) (hL : Lst w base v q) (hA : w.ownsRow base 5 1 av x.args.length (bvs x.args))
    (hg : ∀ j (hj : j < x.args.length), gvI (q.map It.x) x.args[j].toNat ≠ -1) (hok : Ok (pq q)) :
    Calls Tryz.prog 91 #[v, ag4 x.name x.word av wt] w fun e w' => e = .returned (.int .i64 (wgh (pq q) x)) ∧ Mod (fun _ => False) w w' := by
  have hS := se_new w x.name x.word av wt
  have hm0 : Mod (fun _ => False) w (w.alloc (.cells #[.int .u8 x.name, S x.word, av, .int .i64 wt] 83)) := (Mod.refl _ w).alloc _
  have hL1 := hL.mod hm0 (fun _ _ _ f => f)
  have hA1 := owns_mod hA hm0 (fun _ _ f => f)
  have hav := owns_one hA
  obtain ⟨aa, acap, rfl, -⟩ := owns_form hA
  obtain ⟨va, vcap, rfl, -⟩ := hL.form
  have HG : Hid (∀ j (hj : j < x.args.length), gvI (q.map It.x) x.args[j].toNat ≠ -1) := hg
  have HO : Hid (Ok (pq q)) := hok
  clear hL hA hg hok
  by_cases h0 : x.name = 0
  · have hb : (x.name == 0) = true := by simpa using h0
    have HB : Hid (wgh (pq q) x = 0) := show wgh (pq q) x = 0 by simp [wgh, h0]
    clear h0
    go_enter Tryz.func91, Tryz.ntmps91
    go_wp2_with fail
    refine (isQuestion_any x.name x.word _ wt _ hav).mono ?_
    rintro e w2 ⟨rfl, hm2⟩
    go_wp2
    go_ret
    exact ⟨by rw [HB.out]; rfl, hm0.trans hm2⟩
  · have hb : (x.name == 0) = false := by simpa using h0
    have HB : Hid (wgh (pq q) x = wG x.word (sumW (pq q) x.args) (lastW (pq q) x.args)) := show wgh (pq q) x = wG x.word (sumW (pq q) x.args) (lastW (pq q) x.args) by simp [wgh, h0]
    clear h0
    go_enter Tryz.func91, Tryz.ntmps91
    go_wp2_with fail
    refine (isQuestion_any x.name x.word _ wt _ hav).mono ?_
    rintro e W ⟨rfl, hm2⟩
    have hS2 := hS.keep hm2 (fun f => f)
    have hL2 := hL1.mod hm2 (fun _ _ _ f => f)
    have hA2 := owns_mod hA1 hm2 (fun _ _ f => f)
    have hm3 := hm0.trans hm2
    clear hm0 hm2 hS hL1 hA1
    have s1 := hS2.c1
    have s2 := hS2.c2
    go_wp2
    go_loop [5, 6, 15] (fun a b i => ∃ k : Nat, k ≤ x.args.length ∧ i = .int .i64 k ∧ a = .int .i64 (sumW (pq q) (x.args.take k)) ∧ b = .int .i64 (lastW (pq q) (x.args.take k))) (fun _ _ i => x.args.length - (intOf i).toNat)
    case atStart => exact ⟨0, by omega, rfl, rfl, rfl⟩
    case round =>
      obtain ⟨k, hk, rfl, rfl, rfl⟩ := hrel
      have b1 := HO.out.sumW (x.args.take k)
      have b2 := HO.out.lastW (x.args.take k)
      have b3 : (x.args.take k).length ≤ k := List.length_take_le _ _
      by_cases hlt : k < x.args.length
      · have HT : Hid (x.args.take (k + 1) = x.args.take k ++ [x.args[k]]) := take_snoc' _ _ hlt
        obtain ⟨gb, rfl, ck⟩ := args_cell hA2 rfl hlt
        obtain ⟨j, hj, hgj, -⟩ := given_q (HG.out k hlt)
        obtain ⟨vb, rfl, -, -, -, cw⟩ := hL2.cell hj
        have HW : Hid (argW (pq q) x.args[k].toNat = q[j].wt) := show argW (pq q) x.args[k].toNat = q[j].wt by simp [argW, who_q hj hgj]
        have hwb : q[j].wt ≤ 64 := by have := HO.out.argW x.args[k].toNat; rw [HW.out] at this; exact this
        have HJ : Hid (gvI (q.map It.x) x.args[k].toNat = (j : Int)) := hgj
        clear hgj
        have hj1 : ((j : Int) != -1) = true := by rw [bne_iff_ne]; omega
        go_wp2_with fail
        have hgv := giver_any (.slice (some ⟨vb, 0, none⟩) q.length vcap) q x.args[k].toNat base W hq hL2
        rw [HJ.out] at hgv
        refine hgv.mono ?_
        rintro e w2 ⟨rfl, rfl⟩
        clear hgv
        go_wp2
        go_round
        case rel => exact ⟨k + 1, by omega, by go_num, by rw [HT.out, sumW_snoc, HW.out]; go_num, by rw [HT.out, lastW_snoc, HW.out]⟩
        case measure => simp [intOf]; omega
      · have hkl : k = x.args.length := by omega
        subst hkl
        rw [List.take_length] at b1 b2 ⊢
        clear b3
        go_wp2_with fail
        refine (weightGiven_any _ _ _ _ (by omega) (by omega)).mono ?_
        rintro e w2 ⟨rfl, rfl⟩
        go_wp2
        go_ret
        exact ⟨by rw [HB.out]; rfl, hm3⟩
def jw (p : List (St × Nat)) (x : St) : Nat := if err p x = 0 then wgh p x else 0
theorem jw_no {p : List (St × Nat)} {x : St} {n : Nat} (h : err p x = n + 1) : jw p x = 0 := by simp [jw, h]
theorem jw_yes {p : List (St × Nat)} {x : St} (h : err p x = 0) : jw p x = wgh p x := by simp [jw, h]
theorem tk_known (x : St) : (tk x.name x.word).2 = known x ∧ (known x = true → (tk x.name x.word).1 = (fm x.word).1) := by
  unfold tk known
  have h1 := qT_fm x.word
  have h2 := cT_fm x.word
  by_cases h0 : x.name = 0
  · rw [if_pos h0]
    refine ⟨?_, fun h => h1.2 ?_⟩
    · rw [Bool.eq_iff_iff, h1.1]; simp [h0]; intro h; omega
    · rw [h1.1]; simp [h0] at h; exact h.2
  · rw [if_neg h0]
    refine ⟨?_, fun h => h2.2 ?_⟩
    · rw [Bool.eq_iff_iff, h2.1]; simp [h0]; exact ⟨fun h => ⟨h.2, h.1⟩, fun h => ⟨h.2, h.1⟩⟩
    · rw [h2.1]; simp [h0] at h; exact ⟨h.2, h.1⟩
theorem names_each {l : List St} {x : St} (h : namesOk l x = true) : ∀ a ∈ x.args, gvI l a.toNat ≠ -1 := by
  unfold namesOk at h
  rw [Bool.and_eq_true, List.all_eq_true] at h
  intro a ha
  simpa using h.1 a ha
set_option maxHeartbeats 1600000 in
set_option maxRecDepth 100000 in
theorem judge_any (v : Value) (q : List It) (base : Nat) (x : St) (av : Value) (wt : Int) (w : World) (hq : q.length ≤ 1000) (hal : x.args.length ≤ 1000) (hL : Lst w base v q) (hA : w.ownsRow base 5 1 av x.args.length (bvs x.args))
    (hok : Ok (pq q)) (hz : ∀ a ∈ x.args, a.toNat ≠ 0) :
    Calls Tryz.prog 55 #[v, ag4 x.name x.word av wt] w fun e w' => e = .returned (.tuple #[.int .i64 (jw (pq q) x : Int), .int .i64 (err (pq q) x)]) ∧ Mod (fun _ => False) w w' := by
  have hS := se_new w x.name x.word av wt
  have hm0 : Mod (fun _ => False) w (w.alloc (.cells #[.int .u8 x.name, S x.word, av, .int .i64 wt] 83)) := (Mod.refl _ w).alloc _
  have hL1 := hL.mod hm0 (fun _ _ _ f => f)
  have hA1 := owns_mod hA hm0 (fun _ _ f => f)
  have hav := owns_one hA
  obtain ⟨aa, acap, rfl, -⟩ := owns_form hA
  have HO : Hid (Ok (pq q)) := hok
  have HZ : Hid (∀ a ∈ x.args, a.toNat ≠ 0) := hz
  have hk := tk_known x
  have HK : Hid ((tk x.name x.word).2 = known x) := hk.1
  have HK2 : Hid (known x = true → (tk x.name x.word).1 = (fm x.word).1) := hk.2
  clear hL hA hok hz hk
  cases hkn : known x with
  | false =>
    have HE : Hid (err (pq q) x = 3) := show err (pq q) x = 3 by simp [err, hkn]
    have hb : (tk x.name x.word).2 = false := by rw [HK.out, hkn]
    go_enter Tryz.func55, Tryz.ntmps55
    go_wp2_with fail
    refine (argumentSorts_any x.name x.word _ wt _ hav).mono ?_
    rintro e w2 ⟨rfl, hm2⟩
    go_wp2
    go_ret2
    exact ⟨by rw [jw_no HE.out, HE.out]; rfl, hm0.trans hm2⟩
  | true =>
    have hb : (tk x.name x.word).2 = true := by rw [HK.out, hkn]
    have HTK : Hid (tk x.name x.word = ((fm x.word).1, true)) := show tk x.name x.word = ((fm x.word).1, true) by rw [← HK2.out hkn, ← hb]
    have HKN : Hid (known x = true) := hkn
    clear hb HK HK2 hkn
    have hfl := fm_len x.word
    have hAS := argumentSorts_any x.name x.word (.slice aa x.args.length acap) wt (w.alloc (.cells #[.int .u8 x.name, S x.word, .slice aa x.args.length acap, .int .i64 wt] 83)) hav
    rw [HTK.out] at hAS
    clear HTK
    generalize hso : (fm x.word).1 = so at *
    have HSO : Hid ((fm x.word).1 = so) := hso
    clear hso
    simp only at hAS
    go_enter Tryz.func55, Tryz.ntmps55
    go_wp2_with fail
    refine hAS.mono ?_
    clear hAS
    rintro e w2 ⟨rfl, hm2⟩
    have hS2 := hS.keep hm2 (fun f => f)
    have hL2 := hL1.mod hm2 (fun _ _ _ f => f)
    have hA2 := owns_mod hA1 hm2 (fun _ _ f => f)
    have hm := hm0.trans hm2
    clear hm0 hm2 hS hL1 hA1
    have s0 := hS2.c0
    have s1 := hS2.c1
    have s2 := hS2.c2
    have s3 := hS2.c3
    by_cases hc : x.args.length = so.length
    · have HC : Hid (x.args.length = so.length) := hc
      have hb : ((x.args.length : Int) != (so.length : Int)) = false := by rw [hc]; simp
      have hal4 : x.args.length ≤ 4 := by omega
      clear hc
      go_wp2_with fail
      refine (namesFit_any v q base x _ wt _ hq hal hL2 hA2).mono ?_
      rintro e w3 ⟨rfl, hm3⟩
      cases hn : namesOk (q.map It.x) x with
      | false =>
        have HE : Hid (err (pq q) x = 5) := show err (pq q) x = 5 by simp [err, HKN.out, HC.out, HSO.out, sts_pq, hn]
        go_wp2
        go_ret2
        exact ⟨by rw [jw_no HE.out, HE.out]; rfl, hm.trans hm3⟩
      | true =>
        have HN : Hid (namesOk (q.map It.x) x = true) := hn
        clear hn
        have hS3 := hS2.keep hm3 (fun f => f)
        have hL3 := hL2.mod hm3 (fun _ _ _ f => f)
        have hA3 := owns_mod hA2 hm3 (fun _ _ f => f)
        have hmm := hm.trans hm3
        clear s0 s1 s2 s3 hm hm3 hS2 hL2 hA2
        have s0 := hS3.c0
        have s1 := hS3.c1
        have s2 := hS3.c2
        have s3 := hS3.c3
        go_wp2_with fail
        refine (sortsFit_any v q base x _ wt so _ hq hal hL3 hA3 (fun j hj => names_each HN.out _ (List.getElem_mem hj)) HC.out).mono ?_
        rintro e w4 ⟨rfl, hm4⟩
        have HSS : Hid (sortsOkG (pq q) x.args so = sortsOk (pq q) x.args so) := sorts_same HO.out (fun a ha => by rw [sts_pq]; exact names_each HN.out a ha) HZ.out
        cases hs : sortsOkG (pq q) x.args so with
        | false =>
          have HE : Hid (err (pq q) x = 6) := show err (pq q) x = 6 by
            have h6 : sortsOk (pq q) x.args so = false := by rw [← HSS.out, hs]
            simp [err, HKN.out, HC.out, HSO.out, sts_pq, HN.out, h6]
          go_wp2
          go_ret2
          exact ⟨by rw [jw_no HE.out, HE.out]; rfl, hmm.trans hm4⟩
        | true =>
          have h6 : sortsOk (pq q) x.args so = true := by rw [← HSS.out, hs]
          have H6 : Hid (sortsOk (pq q) x.args so = true) := h6
          clear h6 hs HSS
          have hS4 := hS3.keep hm4 (fun f => f)
          have hL4 := hL3.mod hm4 (fun _ _ _ f => f)
          have hA4 := owns_mod hA3 hm4 (fun _ _ f => f)
          have hm5 := hmm.trans hm4
          clear s0 s1 s2 s3 hmm hm4 hS3 hL3 hA3
          have s0 := hS4.c0
          have s1 := hS4.c1
          have s2 := hS4.c2
          have s3 := hS4.c3
          go_wp2_with fail
          refine (weigh_any v q base x _ wt _ hq hal4 hL4 hA4 (fun j hj => names_each HN.out _ (List.getElem_mem hj)) HO.out).mono ?_
          rintro e w6 ⟨rfl, hm6⟩
          by_cases h64 : 64 < wgh (pq q) x
          · have HE : Hid (err (pq q) x = 7) := show err (pq q) x = 7 by simp [err, HKN.out, HC.out, HSO.out, sts_pq, HN.out, H6.out, h64]
            go_wp2
            go_ret2
            exact ⟨by rw [jw_no HE.out, HE.out]; rfl, hm5.trans hm6⟩
          · have HE : Hid (err (pq q) x = 0) := show err (pq q) x = 0 by simp [err, HKN.out, HC.out, HSO.out, sts_pq, HN.out, H6.out, h64]
            go_wp2
            go_ret2
            exact ⟨by rw [jw_yes HE.out, HE.out]; rfl, hm5.trans hm6⟩
    · have hb : ((x.args.length : Int) != (so.length : Int)) = true := by rw [bne_iff_ne]; omega
      have HE : Hid (err (pq q) x = 4) := show err (pq q) x = 4 by simp [err, HKN.out, HSO.out, hc]
      go_wp2
      go_ret2
      exact ⟨by rw [jw_no HE.out, HE.out]; rfl, hm⟩
end Go.Proofs.YtmnfndpbblpjiaaGreatDoor

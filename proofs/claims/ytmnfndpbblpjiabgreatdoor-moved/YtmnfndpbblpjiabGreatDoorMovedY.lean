/- Proved here: of any source and any numbers: a right source tells the same if all points are moved, and taken k times, as long as the inputs stay from -99 to 99; a source that Needs refuses is refused by Check, Run, Compile with one error; and so the example; no condition (the three listed tables of Go's library are tied to the program's text). -/
import Derived.Test.YtmnfndpbblpjiabGreatDoorMovX
import Derived.Test.YtmnfndpbblpjiabGreatDoorKiX
import Derived.Test.YtmnfndpbblpjiabGreatDoorZb32
import Derived.ChangeMaps5
namespace Go.Proofs.YtmnfndpbblpjiabGreatDoor
open Go.ChangeShapes Go.WideShapes Go.ChangeAt Go.RowKit Go.Deep Go.Joins

theorem moved_laid (os : Os) : laidMet Tryz.prog Rows.movedRow.laid ((laidOn (World.holding Tryz.prog os ⟨#[], #[], []⟩)).forCall (fun _ _ => 0) ⟨#[], #[.string ⟨#[]⟩, .slice none 0 0, .int .i64 0, .int .i64 0, .int .i64 0], []⟩).memory :=
  laidMet_of_run' 8 (by kernel_rfl) (by kernel_rfl)
/-- No parameter wants a stand-in; the program's own looks are off. -/
theorem moved_plain {name : String} {k : FuncId} {fk : Func} (hk : Tryz.prog.funcNamed name = some k) (hfk : Tryz.prog.funcs[k]? = some fk) (hp : fk.params = #[9, 29, 3, 3, 3]) (f : FuncId) (fn : Func) (hf : Tryz.pinned.checked.prog.funcNamed name = some f) (hfn : Tryz.pinned.checked.prog.funcs[f]? = some fn) :
    false = Tryz.pinned.checked.prog.looks [] ∧ ∀ (j : Nat) t, fn.params[j]? = some t → Tryz.pinned.checked.prog.wantsStandIn t = false := by
  obtain rfl : f = k := Option.some.inj (hk.symm.trans hf) |>.symm
  obtain rfl : fn = fk := (Option.some.inj (hfk.symm.trans hfn)).symm
  refine ⟨by kernel_rfl, fun j t ht => ?_⟩
  rw [hp] at ht
  have hmem : t = 9 ∨ t = 29 ∨ t = 3 := by
    have h := Array.mem_of_getElem? ht
    simp at h
    omega
  rcases hmem with rfl | rfl | rfl
  · exact (show Tryz.prog.wantsStandIn 9 = false by kernel_rfl)
  · exact (show Tryz.prog.wantsStandIn 29 = false by kernel_rfl)
  · exact (show Tryz.prog.wantsStandIn 3 = false by kernel_rfl)
set_option maxRecDepth 100000 in
theorem moved_reads (os : Os) {H : Type} (enc : TypeId × Value → H) : ∃ places, DataW.whole enc Tryz.prog ((laidOn (World.holding Tryz.prog os ⟨#[], #[], []⟩)).forCall (fun _ _ => 0) ⟨#[], #[.string ⟨#[]⟩, .slice none 0 0, .int .i64 0, .int .i64 0, .int .i64 0], []⟩).memory Tryz.f5.params.toList Rows.movedSpec.vars false #[.string ⟨#[]⟩, .slice none 0 0, .int .i64 0, .int .i64 0, .int .i64 0].toList 8 = some ([.lit (.string []), .nil, .lit (.int .i64 0), .lit (.int .i64 0), .lit (.int .i64 0)], [], places) :=
  ⟨[], by kernel_rfl⟩

set_option maxRecDepth 100000 in
theorem moved_lifted (os : Os) (started : os.Started) (H : Type) (enc : TypeId × Value → H) (F : Stop.Interp) :
    ReturnsInHanded {} Tryz.checked os 5 .any ((OpenSpec.ofChange Rows.movedSpec).preRow enc Tryz.prog Tryz.f5 Rows.movedRow.domain false Rows.movedRow.laid) (((OpenSpec.ofChange Rows.movedSpec).at F).post enc Tryz.prog Tryz.f5 false true false false) := by
  obtain ⟨places, hx⟩ := moved_reads os enc
  refine returnsInHanded_of_row (C := Tryz.checked) (s := OpenSpec.ofChange Rows.movedSpec) Tryz.own started (by kernel_rfl) Tryz.func5
    (witness_row_at (enc := enc) (C := Tryz.checked) false (laidOn (World.holding Tryz.prog os ⟨#[], #[], []⟩)) #[.string ⟨#[]⟩, .slice none 0 0, .int .i64 0, .int .i64 0, .int .i64 0] rfl (by kernel_rfl) (by kernel_rfl) (by kernel_rfl)
      (OpenSpec.preRow_of_cond 8 hx (by kernel_rfl) (fun k hk => by cases hk) (by kernel_rfl) (moved_laid os))) ?_
  intro W base args ds gs before hval0 hW _ _ _ hLH _ _
  have hTab : Tab W := tab_of hLH
  have hval : ∀ (j : Nat) t v, Tryz.f5.params[j]? = some t → args[j]? = some v → Value.okWide Tryz.prog W .any base t v := hval0
  have hW' := hW
  obtain ⟨p, q, hA0, hV, rfl, _, _⟩ := hW
  have hA : DataW.TrodAll enc Tryz.prog W 0 (fun _ => true) true Tryz.f5.params.toList args.toList ds p := hA0
  rw [Tryz.params5] at hA hval
  obtain ⟨v0, v1, v2, v3, v4, d0, d1, d2, d3, d4, p0, p1, p2, p3, p4, rfl, rfl, rfl, h0, h1, h2, h3, h4⟩ := trodAll_five hA
  obtain ⟨rfl, rfl⟩ := trodVars_none hV
  clear hA0 hval0
  simp only [List.append_nil] at hW'
  have hlt : ∀ x ∈ p0 ++ (p1 ++ (p2 ++ (p3 ++ p4))), x.block < W.heap.size := fun x hx => by simpa using hW'.lt x (by simpa using hx)
  have h0k := h0
  obtain ⟨s0, rfl, -, -, z0⟩ := ChangeMaps.open_string Tryz.underlying9 (hval 0 9 v0 rfl rfl) h0
  have h1k := h1
  have S1 : Ins W v1 := ins_of (okWide_slice Tryz.underlying29 (hval 1 29 v1 rfl rfl)) h1
  have h2k := h2
  obtain ⟨n2, rfl, -, -, z2⟩ := open_int Tryz.underlying3 (hval 2 3 v2 rfl rfl) h2
  have h3k := h3
  obtain ⟨n3, rfl, -, -, z3⟩ := open_int Tryz.underlying3 (hval 3 3 v3 rfl rfl) h3
  have h4k := h4
  obtain ⟨n4, rfl, -, -, z4⟩ := open_int Tryz.underlying3 (hval 4 3 v4 rfl rfl) h4
  refine (moved_walk s0 v1 n2 n3 n4 W z0 S1 (isI_of z2) (isI_of z3) (isI_of z4) hTab).mono fun e W' ⟨he, hm⟩ => ?_
  subst he
  exact ⟨_, rfl, ⟨_, _, _, [], _, [], hW', trodAll_mk1 (shut_bool Tryz.underlying4 true), trodAll_mk5 (Below.trod Tryz.laidOut (by kernel_rfl) (of_decide_eq_true (by kernel_rfl)) h0k hm.below (fun x hx => hlt x (by simp [hx]))) (Below.trod Tryz.laidOut (by kernel_rfl) (of_decide_eq_true (by kernel_rfl)) h1k hm.below (fun x hx => hlt x (by simp [hx]))) (Below.trod Tryz.laidOut (by kernel_rfl) (of_decide_eq_true (by kernel_rfl)) h2k hm.below (fun x hx => hlt x (by simp [hx]))) (Below.trod Tryz.laidOut (by kernel_rfl) (of_decide_eq_true (by kernel_rfl)) h3k hm.below (fun x hx => hlt x (by simp [hx]))) (Below.trod Tryz.laidOut (by kernel_rfl) (of_decide_eq_true (by kernel_rfl)) h4k hm.below (fun x hx => hlt x (by simp [hx]))), rfl, hm.below.frame _, fun h => by cases h⟩⟩

theorem moved_said : Rows.MovedSaid :=
  OpenClaim.holds_of_cond 5 Tryz.f5 rfl rfl rfl rfl rfl rfl rfl ⟨rfl, rfl, rfl, rfl, rfl⟩ rfl rfl rfl rfl rfl (by kernel_rfl) Tryz.func5 (by kernel_rfl)
    (of_decide_eq_true (by kernel_rfl)) (by unfold Func.isWrapper; first | (rw [if_pos (by decide +kernel)]; kernel_rfl) | (rw [if_neg (by decide +kernel)]; exact ⟨rfl, rfl⟩))
    (fun os started H enc _ F => by rw [OpenClaim.pre_eq_preRow]; exact moved_lifted os started H enc F)

theorem moved_holds : Rows.MovedCardSaid :=
  Claim7.holds_tied_plain_at .later [] _ _ _ _ moved_said (fun _ h => by cases h) (by kernel_rfl) (fun _ h => by cases h) moved_row_tie rfl ⟨rfl, rfl⟩ (by kernel_rfl) rfl (moved_plain (by kernel_rfl) Tryz.func5 Tryz.params5) (by kernel_rfl)
end Go.Proofs.YtmnfndpbblpjiabGreatDoor

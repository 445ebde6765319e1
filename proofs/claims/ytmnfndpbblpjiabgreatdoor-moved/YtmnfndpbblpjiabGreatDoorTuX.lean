/- rulerkeep's Turned and Moved: the parts. -/
import Derived.Test.YtmnfndpbblpjiabGreatDoorKnX
import Derived.Maps.AppendAt
namespace Go.Proofs.YtmnfndpbblpjiabGreatDoor
open Go.RowKit Pu

/-- A list of raw numbers that can be read. -/
def Ins (w : World) (v : Value) : Prop := ∃ ao len cap, v = .slice ao len cap ∧ len ≤ maxLen ∧ ∀ i, i < len → ∃ b off n, ao = some ⟨b, off, none⟩ ∧ b < w.heap.size ∧ w.cell? ⟨b, off + i, none⟩ = some (.int .i64 n) ∧ isI n
theorem Ins.keep {w w' : World} {v : Value} (h : Ins w v) (hm : Mod (fun _ => False) w w') : Ins w' v := by
  obtain ⟨ao, len, cap, hv, hl, h⟩ := h
  refine ⟨ao, len, cap, hv, hl, fun i hi => ?_⟩
  obtain ⟨b, off, n, e, hb, hc, hn⟩ := h i hi
  have hbe : w'.heap[b]? = w.heap[b]? := hm.block b hb (fun f => f)
  exact ⟨b, off, n, e, Nat.lt_of_lt_of_le hb hm.size, (World.cell?_of_block (a := ⟨b, off + i, none⟩) hbe).trans hc, hn⟩
theorem mod_own {w wr w4 : World} {e : TypeId} {sz n : Nat} {v : Value} {xs : List Value} (hm : Mod (fun _ => False) w wr) (hO : wr.ownsRow w.heap.size e sz v n xs) (hg : Mod (fun q => v.ownBlock = some q) wr w4) : Mod (fun _ => False) w w4 :=
  ⟨hg.os.trans hm.os, hg.tape.trans hm.tape, hg.output.trans hm.output, Nat.le_trans hm.size hg.size, fun i hi _ => (hg.block i (by have := hm.size; omega) (fun e => by have := (hO.lt i e).1; omega)).trans (hm.block i hi (fun f => f))⟩
/-- A number laid behind a list of numbers. -/
theorem wpList_push {ops : Array Oper} {rest : List Oper} {o : Oper} {a : Act} {w : World} {Q : Exit → Act → World → Prop} (hgd : o.guard = none) (s x : Operand)
    (ho : o.op = .call { callee := .builtin .append, args := #[s, x], argTypes := #[29, 29] })
    (base : Nat) (v : Value) (n : Nat) (l : List Int) (hs : a.eval s = v) (hO : w.ownsRow base 3 1 v n (zvs l)) (z : Int) (hx : a.eval x = .slice (some ⟨w.heap.size, 0, none⟩) 1 1) (hn : n ≤ 1000) (hb : base ≤ w.heap.size)
    (h : ∀ v' w', w'.ownsRow base 3 1 v' (n + 1) (zvs (l ++ [z])) → Mod (fun q => v.ownBlock = some q) w w' → (∀ g, v'.ownBlock = some g → v.ownBlock = some g ∨ w.heap.size ≤ g) → wpList Tryz.prog ops Q rest (a.put o.dst v') w') :
    wpList Tryz.prog ops Q (o :: rest) a (w.alloc (.cells #[.int .i64 z] 3)) := by
  obtain ⟨i0, hii, hz0, hz1, hz2⟩ := info_parts Tryz.info3
  refine wpList_append_own_at _ hgd s x 29 ho base 3 i0 _ 1 8 Tryz.underlying29 hii hz0 hz1 hz2 rfl (by decide) v n (zvs l) hs (hO.alloc _) ⟨w.heap.size, 0, none⟩ 1 1 [.int .i64 z] hx rfl ?c1 ?c2 ?c3 ?c4 ?c5 ?_
  case c1 => exact World.news_of_block (cs := #[.int .i64 z]) (t := 3) (fr := (0, 0)) (heap_alloc_new w _)
  case c2 => simp [Value.oneCell']
  case c3 => unfold maxLen; omega
  case c4 => omega
  case c5 => simp; omega
  intro v' w' hown hgrow _ hat
  refine h v' w' (by rw [← zvs_snoc]; exact hown) (((Mod.refl _ w).alloc _).grown hgrow (fun i hi _ => hi)) (fun g hg => ?_)
  rcases hat with e | e
  · exact .inl (e ▸ hg)
  · rw [e] at hg
    have h2 := Option.some.inj hg
    have h3 : (w.alloc (.cells #[.int .i64 z] 3)).heap.size = w.heap.size + 1 := by show (w.heap.push _).size = _; rw [Array.size_push]
    exact .inr (by omega)

def InR (l : List Int) : Prop := ∀ x ∈ l, -99 ≤ x ∧ x ≤ 99
theorem InR.snoc {l : List Int} {x : Int} (h : InR l) (hx : -99 ≤ x ∧ x ≤ 99) : InR (l ++ [x]) := fun y hy => by
  rcases List.mem_append.1 hy with hy | hy
  · exact h y hy
  · simp at hy; subst hy; exact hx
set_option maxHeartbeats 1000000 in
set_option maxRecDepth 4000 in
theorem sized_any (v : Value) (n : Nat) (w : World) (hS : Ins w v) (hn : n ≤ 32) : Calls Tryz.prog 16 #[v, .int .i64 n] w fun e w' => Mod (fun _ => False) w w' ∧ ∃ v' l, e = .returned v' ∧ l.length = n ∧ InR l ∧ w'.ownsRow w.heap.size 3 1 v' n (zvs l) := by
  obtain ⟨ao, len, cap, rfl, hlen, hc⟩ := hS
  unfold maxLen at hlen
  have HC : Hid _ := hc
  clear hc
  go_enter Tryz.func16, Tryz.ntmps16
  go_wp2_with fail
  go_loopw [5, 6] (fun ov iv wr => ∃ (k : Nat) (l : List Int), k ≤ n ∧ iv = .int .i64 k ∧ Hid (l.length = k ∧ InR l) ∧ wr.ownsRow w.heap.size 3 1 ov k (zvs l) ∧ Mod (fun _ => False) w wr) (fun _ iv _ => n - (intOf iv).toNat)
  case atStart => exact ⟨0, [], by omega, rfl, ⟨rfl, fun x hx => by simp at hx⟩, World.ownsRow_nil _ _ _ _, Mod.refl _ _⟩
  case round =>
    obtain ⟨k, l, hk, rfl, HL, hO, hm⟩ := hrel
    obtain ⟨lo, lcap, rfl, -⟩ := owns_form hO
    have hws := hm.size
    by_cases hlt : k < n
    · by_cases hlt2 : k < len
      · obtain ⟨bk, off, z, rfl, hbk, c0, hz⟩ := HC.out k hlt2
        have hbe : wr.heap[bk]? = w.heap[bk]? := hm.block bk hbk (fun f => f)
        have d0 := (World.cell?_of_block (a := ⟨bk, off + k, none⟩) hbe).trans c0
        have hpl := kplace_any z wr hz
        have hpr := plc_range z
        generalize plc z = y at *
        have HZ : Hid _ := hpr
        clear c0 hbe HC hz hpr
        go_wp2_with fail
        refine hpl.mono ?_
        rintro e w2 ⟨rfl, rfl⟩
        clear hpl
        go_wp2_with (at_builtin; refine wpList_push rfl _ _ rfl w.heap.size _ _ l rfl hO y rfl (by omega) hws ?_)
        intro v' w4 hO4 hg4 _
        have hm4 := mod_own hm hO hg4
        obtain ⟨lo4, lcap4, rfl, -⟩ := owns_form hO4
        clear hg4 hO hm d0
        go_wp2_with fail
        go_roundw
        case rel => exact ⟨k + 1, l ++ [y], by omega, by go_num, ⟨by simp [HL.out.1], HL.out.2.snoc HZ.out⟩, hO4, hm4⟩
        case measure => simp [intOf]; omega
      · clear HC
        go_wp2_with (at_builtin; refine wpList_push rfl _ _ rfl w.heap.size _ _ l rfl hO 0 rfl (by omega) hws ?_)
        intro v' w4 hO4 hg4 _
        have hm4 := mod_own hm hO hg4
        obtain ⟨lo4, lcap4, rfl, -⟩ := owns_form hO4
        clear hg4 hO hm
        go_wp2_with fail
        go_roundw
        case rel => exact ⟨k + 1, l ++ [0], by omega, by go_num, ⟨by simp [HL.out.1], HL.out.2.snoc (by omega)⟩, hO4, hm4⟩
        case measure => simp [intOf]; omega
    · have hkn : k = n := by omega
      subst hkn
      clear HC
      go_wp2_with fail
      go_ret
      exact ⟨hm, _, l, rfl, HL.out.1, HL.out.2, hO⟩
set_option maxHeartbeats 800000 in
theorem alike_any (s : ByteArray) (l m : List Int) (lv mv : Value) (bl bm : Nat) (w : World) (rr : ByteArray) (hs : s.size ≤ 300) (h1 : RunA s (jnL l) (rr, 0)) (h2 : RunA s (jnL m) (rr, 0)) (hl : l.length ≤ 32) (hm : m.length ≤ 32) (rl : InR l) (rm : InR m)
    (hO1 : w.ownsRow bl 3 1 lv l.length (zvs l)) (hO2 : w.ownsRow bm 3 1 mv m.length (zvs m)) (hT : Tab w) :
    Calls Tryz.prog 17 #[.string s, lv, mv] w fun e w' => e = .returned (.bool true) ∧ Mod (fun _ => False) w w' := by
  have j1 := joined_any lv l bl w (by omega) hO1 rl hT
  have j2 : ∀ w2, Mod (fun _ => False) w w2 → _ := fun w2 k => joined_any mv m bm w2 (by omega) (owns_mod hO2 k (fun _ _ f => f)) rm (hT.mod k)
  have r1 := fun w => run_any s (jnL l) w hs (jn_size l (by omega))
  have r2 := fun w => run_any s (jnL m) w hs (jn_size m (by omega))
  obtain ⟨ao, cap, rfl, -⟩ := owns_form hO1
  obtain ⟨ao2, cap2, rfl, -⟩ := owns_form hO2
  have H1 : Hid _ := h1
  have H2 : Hid _ := h2
  have J2 : Hid _ := j2
  generalize jnL l = jl at *
  generalize jnL m = jm at *
  clear h1 h2 hO1 hO2 hT rl rm hs j2
  go_enter Tryz.func17, Tryz.ntmps17
  go_wp2_with fail
  refine j1.mono ?_
  rintro e w1 ⟨rfl, k1⟩
  clear j1
  go_wp2_with fail
  refine (r1 _).mono ?_
  rintro e w2 ⟨k2, r, hr, rfl⟩
  obtain rfl := hr.unique H1.out
  clear hr r1
  have k3 := k1.trans k2
  go_wp2_with fail
  refine (J2.out _ k3).mono ?_
  rintro e w3 ⟨rfl, k4⟩
  go_wp2_with fail
  refine (r2 _).mono ?_
  rintro e w4 ⟨k5, r, hr, rfl⟩
  obtain rfl := hr.unique H2.out
  clear hr r2 J2
  have kE := k3.trans (k4.trans k5)
  clear k1 k2 k3 k4 k5
  go_wp2_with fail
  go_ret
  exact ⟨rfl, kE⟩
theorem ins_ext {s : ByteArray} {i : Nat} {wd : List UInt8} (h : InS s i wd) : s.extract i (i + wd.length) = ⟨wd.toArray⟩ := by
  obtain ⟨h1, h2⟩ := h
  apply ba_ext
  rw [ByteArray.data_extract, Array.toList_extract]
  apply List.ext_getElem
  · simp; omega
  · intro j q1 q2
    have hj : j < wd.length := by simpa using q2
    have := h2 j hj
    unfold bt at this
    rw [dif_pos (by omega)] at this
    simp
    exact this
theorem of_toList {b : ByteArray} {l : List UInt8} (e : b.toList = l) : b = ⟨l.toArray⟩ := by
  obtain ⟨⟨d⟩⟩ := b
  rw [show (⟨⟨d⟩⟩ : ByteArray) = ⟨d.toArray⟩ from rfl, ByteArray.toList_mk] at e
  rw [← e]
set_option maxHeartbeats 800000 in
theorem has_any (s : ByteArray) (w : World) (hs : s.size ≤ 300) : Calls Tryz.prog 18 #[.string s, .string ⟨#[99, 99, 119]⟩] w fun e w' => ∃ b : Bool, e = .returned (.bool b) ∧ (b = false → ∀ i, ¬ InS s i [99, 99, 119]) ∧ Mod (fun _ => False) w w' := by
  go_enter Tryz.func18, Tryz.ntmps18
  go_wp2_with fail
  go_loopw [5] (fun iv wr => ∃ (k : Nat), k ≤ s.size ∧ iv = .int .i64 k ∧ Hid (∀ i, i < k → ¬ InS s i [99, 99, 119]) ∧ Mod (fun _ => False) w wr) (fun iv _ => s.size - (intOf iv).toNat)
  case atStart => exact ⟨0, by omega, rfl, fun i hi => by omega, Mod.refl _ _⟩
  case round =>
    obtain ⟨k, hk, rfl, HI, hm⟩ := hrel
    by_cases hlt : k + 3 ≤ s.size
    · by_cases he : s.extract k (k + 3) = ⟨#[99, 99, 119]⟩
      · go_wp2_with fail
        go_ret
        exact ⟨true, rfl, fun h => (by cases h), hm⟩
      · have HN : Hid (∀ i, i < k + 1 → ¬ InS s i [99, 99, 119]) := fun i hi h => by
          by_cases h' : i < k
          · exact HI.out i h' h
          · obtain rfl : i = k := by omega
            exact he (ins_ext h)
        have hb : ((s.extract k (k + 3)).toList == [99, 99, 119]) = false := by
          rw [beq_eq_false_iff_ne]
          intro e
          exact he (of_toList e)
        clear HI he
        go_wp2_with fail
        go_roundw
        case rel => exact ⟨k + 1, by omega, by go_num, HN, hm⟩
        case measure => simp [intOf]; omega
    · have HN : Hid (∀ i, ¬ InS s i [99, 99, 119]) := fun i h => by
        by_cases h' : i < k
        · exact HI.out i h' h
        · have := h.1; simp at this; omega
      clear HI
      go_wp2_with fail
      go_ret
      exact ⟨false, rfl, fun _ => HN.out, hm⟩
theorem ite_all {P : Cmd → Prop} {c : Prop} [Decidable c] {a b : Cmd} (ha : c → P a) (hb : ¬ c → P b) : P (if c then a else b) := by
  by_cases h : c
  · rw [if_pos h]; exact ha h
  · rw [if_neg h]; exact hb h
theorem ins_ptP (l : List St) (x : St) : insC (cmdOf l x) = ptP x := by
  unfold cmdOf ptP
  by_cases h : (x.word == [112, 116]) = true
  · rw [if_pos h, if_pos h]; rfl
  · rw [if_neg h, if_neg h]
    repeat (refine ite_all (P := fun c => insC c = 0) (fun _ => rfl) fun _ => ?_)
    rfl
theorem nd_cnt {p : List (St × Nat)} (h : Ok p) : ndR (sts p) = cntI (cmds (sts p)) := by
  rw [← nd_same h]
  unfold ndP cntI cmds
  rw [List.map_map]
  exact congrArg List.sum (List.map_congr_left fun x _ => (ins_ptP _ x).symm)
theorem cmdOf_ccw {l : List St} {x : St} {a b d : Nat} (h : cmdOf l x = .ccw a b d) : x.word = [99, 99, 119] := by
  by_cases hw : (x.word == [99, 99, 119]) = true
  · exact eq_of_beq hw
  · refine absurd h ?_
    unfold cmdOf
    repeat (refine ite_all (P := fun c => c ≠ .ccw a b d) (fun hc => by first | exact absurd hc hw | (intro e; cases e)) fun _ => ?_)
    intro e
    cases e
/-- What a right source tells of inputs. -/
structure Rgt (s : ByteArray) (n : Nat) (C : List Cmd) : Prop where
  wf : Wf [] [] C
  cnt : cntI C = n
  run : ∀ ins : List Int, InR ins → ins.length = n → RunA s (jnL ins) (semC ins C 0 0 [] ⟨#[]⟩, 0)
  ccw : (∀ i, ¬ InS s i [99, 99, 119]) → noCcw C
theorem rgt_any {s : ByteArray} {b : Nat} (h : Ans s 0 b) : ∃ C, Rgt s (ndR (gaA s s.size).l) C := by
  obtain ⟨hW, -, p, hok, hp⟩ := h.zero
  refine ⟨cmds (sts p), wf_cmds hok, by rw [← hp, nd_cnt hok], fun ins hr hn => RunA_of hW hok hp.symm rfl hr (by rw [hn, ← hp, nd_cnt hok]), fun hc c hcm a b d e => ?_⟩
  obtain ⟨x, hx, rfl⟩ := List.mem_map.1 hcm
  rw [hp] at hx
  obtain ⟨i, hi⟩ := (whole_count hW).2 x hx
  rw [cmdOf_ccw e] at hi
  exact hc i hi
/-- The same report of points that went along. -/
theorem Rgt.same {s : ByteArray} {n : Nat} {C : List Cmd} (h : Rgt s n C) (T : Sim) (ins ins' : List Int) (r1 : InR ins') (l1 : ins'.length = n)
    (hI : ∀ j, 2 * j + 1 < n → inp ins' (2 * j) = T.a * inp ins (2 * j) - T.b * T.g * inp ins (2 * j + 1) + T.dx ∧ inp ins' (2 * j + 1) = T.b * inp ins (2 * j) + T.a * T.g * inp ins (2 * j + 1) + T.dy) (hg : T.g = 1 ∨ noCcw C) :
    RunA s (jnL ins') (semC ins C 0 0 [] ⟨#[]⟩, 0) := by
  have e := report_sim T ins ins' C (fun j hj => hI j (by rw [← h.cnt]; exact hj)) h.wf hg
  rw [← e]
  exact h.run ins' r1 l1
end Go.Proofs.YtmnfndpbblpjiabGreatDoor

/- understand: the whole of what the program makes of a source. -/
import Derived.Test.YtmnfndpbblpjiaaGreatDoorZa04
namespace Go.Proofs.YtmnfndpbblpjiaaGreatDoor
open Go.RowKit Pu
def GoodSt (k : Nat) (x : St) : Prop := x.args.length ≤ k ∧ x.word.length ≤ k ∧ (∀ a ∈ x.args, a.toNat ≠ 0) ∧ x.name < 256
theorem GoodSt.mono {k m : Nat} {x : St} (h : GoodSt k x) (hk : k ≤ m) : GoodSt m x := ⟨by have := h.1; omega, by have := h.2.1; omega, h.2.2.1, h.2.2.2⟩
theorem ga_good (s : ByteArray) (k : Nat) : (∀ x ∈ (gaA s k).l, GoodSt k x) ∧ GoodSt k (gaA s k).x := by
  induction k with
  | zero => simp [gaA, GoodSt]
  | succ k ih =>
    obtain ⟨h1, h2⟩ := ih
    have h1' : ∀ x ∈ (gaA s k).l, GoodSt (k + 1) x := fun x hx => (h1 x hx).mono (by omega)
    have h2' := h2.mono (m := k + 1) (by omega)
    obtain ⟨a1, a2, a3, a4⟩ := h2
    show (∀ x ∈ (gaStep s k (gaA s k)).l, GoodSt (k + 1) x) ∧ GoodSt (k + 1) (gaStep s k (gaA s k)).x
    unfold gaStep
    have hb : g s (k - 1) < 256 := g_lt s _
    split
    · exact ⟨h1', h2'.1, by simp, h2'.2.2.1, hb⟩
    · split
      · exact ⟨h1', h2'.1, by simp, h2'.2.2.1, h2'.2.2.2⟩
      · split
        · exact ⟨h1', h2'⟩
        · split
          · exact ⟨h1', h2'⟩
          · split
            · refine ⟨fun x hx => ?_, by simp [GoodSt]⟩
              rcases List.mem_append.1 hx with hx | hx
              · exact h1' x hx
              · simp at hx; subst hx; exact h2'
            · split
              · rename_i hL
                have hg := (isL_iff _).1 hL
                split
                · refine ⟨h1', by simp; omega, h2'.2.1, fun a ha => ?_, h2'.2.2.2⟩
                  rcases List.mem_append.1 ha with ha | ha
                  · exact a3 a ha
                  · simp at ha; subst ha; have : (bt s k).toNat = g s k := rfl; omega
                · exact ⟨h1', h2'.1, by simp; omega, h2'.2.2.1, h2'.2.2.2⟩
              · exact ⟨h1', h2'⟩
/-- What understand leaves of a text that is not too long. -/
def UnEnd (s : ByteArray) (w : World) (e : Ending) (w' : World) : Prop :=
  (∃ k : Nat, Stuck s k ∧ e = .returned (.tuple #[.slice none 0 0, .int .i64 2, .int .i64 k])) ∨
  (Whole s ∧ ∃ (p : List (St × Nat)) (k : Nat) (hk : k < (gaA s s.size).l.length), Ok p ∧ sts p = (gaA s s.size).l.take k ∧ err p (gaA s s.size).l[k] ≠ 0 ∧ e = .returned (.tuple #[.slice none 0 0, .int .i64 (err p (gaA s s.size).l[k]), .int .i64 k])) ∨
  (Whole s ∧ ∃ v q, Ok (pq q) ∧ q.map It.x = (gaA s s.size).l ∧ Lst w' w.heap.size v q ∧ q.length ≤ 16 ∧ e = .returned (.tuple #[v, .int .i64 0, .int .i64 0]))
set_option maxHeartbeats 400000 in
theorem und_long (s : ByteArray) (w : World) (hs : 300 < s.size) (hm : s.size ≤ maxLen) : Calls Tryz.prog 32 #[.string s] w fun e w' => e = .returned (.tuple #[.slice none 0 0, .int .i64 1, .int .i64 0]) ∧ w = w' := by
  unfold maxLen at hm
  go_enter Tryz.func32, Tryz.ntmps32
  go_wp2
  go_ret3
  exact ⟨rfl, rfl⟩
set_option maxHeartbeats 2000000 in
set_option maxRecDepth 100000 in
theorem und_any (s : ByteArray) (w : World) (hs : s.size ≤ 300) : Calls Tryz.prog 32 #[.string s] w fun e w' => Mod (fun _ => False) w w' ∧ UnEnd s w e w' := by
  obtain ⟨i0, hi, hz0, hz1, hz2⟩ := info_parts Tryz.info66
  go_enter Tryz.func32, Tryz.ntmps32
  go_wp2_with fail
  refine (parse_any s w hs).mono ?_
  rintro e w1 ⟨hm1, ⟨v, q, rfl, hL, hWh, hl, hq⟩ | ⟨k, rfl, hst⟩⟩
  · obtain ⟨ao, cap, rfl, -⟩ := hL.form
    have hz1' := hm1.size
    have HL : Hid ((gaA s s.size).l = q.map It.x) := hl
    clear hl
    have hgood := (ga_good s s.size).1
    have HGd : Hid (∀ x ∈ (gaA s s.size).l, GoodSt s.size x) := hgood
    clear hgood
    go_wp2
    go_loopw [8, 27] (fun v i wr => ∃ (k : Nat) (r : List It), k ≤ q.length ∧ i = .int .i64 k ∧ wr.ownsRow w1.heap.size 83 4 v r.length (cellsOf r) ∧ ArgsOk wr w.heap.size r ∧ r.map It.x = (q.map It.x).take k ∧ Ok (pq r) ∧ Mod (fun _ => False) w1 wr) (fun _ i _ => q.length - (intOf i).toNat)
    case atStart => exact ⟨0, [], by omega, rfl, World.ownsRow_nil _ _ _ _, fun _ h => by simp at h, by simp, Ok.nil, Mod.refl _ _⟩
    case round =>
      obtain ⟨k, r, hk, rfl, hrow, hra, hrx, hrok, hmr⟩ := hrel
      have hLr := hL.mod hmr (fun _ _ _ f => f)
      have hszr := hmr.size
      have HRX : Hid (r.map It.x = (q.map It.x).take k) := hrx
      have HRL : Hid (r.length = k) := show r.length = k by have := congrArg List.length hrx; simp at this; omega
      have hrl : r.length ≤ k := by have := HRL.out; omega
      clear hrx
      obtain ⟨va, vcap, rfl, -⟩ := owns_form hrow
      by_cases hlt : k < q.length
      · obtain ⟨gb, rfl, c0, c1, c2, c3⟩ := hLr.cell hlt
        have hAk := hLr.2 q[k] (List.getElem_mem hlt)
        obtain ⟨aa, acap, hae, -⟩ := owns_form hAk
        have hx : (gaA s s.size).l[k]? = some q[k].x := by rw [HL.out]; simp [hlt]
        have HX : Hid ((gaA s s.size).l[k]? = some q[k].x) := hx
        have HXQ : Hid ((q.map It.x)[k]? = some q[k].x) := show (q.map It.x)[k]? = some q[k].x by simp [hlt]
        have hgx : GoodSt s.size q[k].x := HGd.out _ (List.mem_of_getElem? hx)
        clear hx
        generalize hxe : q[k].x = x at *
        generalize hve : q[k].av = av at *
        generalize hwe : q[k].wt = wt0 at *
        subst hae
        clear hxe hve hwe
        have hS1 := se_new wr x.name x.word (.slice aa x.args.length acap) wt0
        have hma : Mod (fun _ => False) wr (wr.alloc (.cells #[.int .u8 x.name, S x.word, .slice aa x.args.length acap, .int .i64 wt0] 83)) := (Mod.refl _ wr).alloc _
        have hlj : Lst (wr.alloc (.cells #[.int .u8 x.name, S x.word, .slice aa x.args.length acap, .int .i64 wt0] 83)) w.heap.size (.slice va r.length vcap) r := Lst.mod ⟨owns_base hrow hz1', hra⟩ hma (fun _ _ _ f => f)
        by_cases he : err (pq r) x = 0
        · have HE : Hid (err (pq r) x = 0) := he
          have hb : ((err (pq r) x : Int) != 0) = false := by rw [he]; rfl
          clear he hLr
          go_wp2_with fail
          have hJ := judge_any (.slice va r.length vcap) r w.heap.size x (.slice aa x.args.length acap) wt0 _ (by omega) (by have := hgx.1; omega) hlj (owns_mod hAk hma (fun _ _ f => f)) hrok hgx.2.2.1
          refine hJ.mono ?_
          clear hJ
          rintro e w2 ⟨rfl, hm2⟩
          have hS2 := hS1.keep hm2 (fun f => f)
          have hm3 := hma.trans hm2
          have hsz3 := hm3.size
          have hsb : wr.heap.size < w2.heap.size := hS2.lt
          have hS3 := hS2.set3 (jw (pq r) x)
          have hm4 : Mod (fun _ => False) wr (w2.setCell ⟨wr.heap.size, 3, none⟩ (.int .i64 (jw (pq r) x))) := ((hm3.mono (q := fun i => i = wr.heap.size) (fun _ _ f => f.elim)).setCell _ _ (fun _ => rfl)).mono (fun i hi h => by omega)
          have hrow3 := owns_mod hrow hm4 (fun _ _ f => f)
          have hra3 := hra.mod hm4 (fun _ _ _ f => f)
          have hAk3 := owns_mod hAk hm4 (fun _ _ f => f)
          have hmr3 := hmr.trans hm4
          clear c0 c1 c2 c3 hma hm2 hrow hra hAk hmr hS1 hm3 hlj hm4
          have c0 := hS2.c0
          have c1 := hS2.c1
          have c2 := hS2.c2
          have c3 := hS2.c3
          have f3 := hS2.fz 3
          go_wp2_with (at_builtin; refine wpList_append_own _ rfl _ _ 47 rfl w1.heap.size 83 i0 _ 4 56 Tryz.underlying47 hi hz0 hz1 hz2 rfl (by decide) _ _ _ rfl (hrow3.alloc _) ⟨w2.heap.size, 0, none⟩ 1 1 (secells ⟨x, .slice aa x.args.length acap, jw (pq r) x⟩) rfl rfl ?c1 ?c2 ?c3 ?c4 ?c5 ?_)
          case c1 => have := cell_new4 (w2.setCell ⟨wr.heap.size, 3, none⟩ (.int .i64 (jw (pq r) x))) (.int .u8 x.name) (S x.word) (.slice aa x.args.length acap) (.int .i64 (jw (pq r) x)) 83; simpa [secells] using this
          case c2 => intro u hu; simp [secells] at hu; rcases hu with rfl | rfl | rfl | rfl <;> rfl
          case c3 => unfold maxLen; omega
          case c4 => omega
          case c5 => simp; omega
          intro v' w4 hown4 hgrow _
          have hal : Mod (fun _ => False) (w2.setCell ⟨wr.heap.size, 3, none⟩ (.int .i64 (jw (pq r) x))) ((w2.setCell ⟨wr.heap.size, 3, none⟩ (.int .i64 (jw (pq r) x))).alloc (.cells #[.int .u8 x.name, S x.word, .slice aa x.args.length acap, .int .i64 (jw (pq r) x)] 83)) := (Mod.refl _ _).alloc _
          have hA4 : ArgsOk w4 w.heap.size (r ++ [⟨x, .slice aa x.args.length acap, jw (pq r) x⟩]) := by
            intro t ht
            rcases List.mem_append.1 ht with ht | ht
            · exact (hra3.mod hal (fun _ _ _ f => f)).grown (hrow3.alloc _) hgrow t ht
            · have h1 : ArgsOk (w2.setCell ⟨wr.heap.size, 3, none⟩ (.int .i64 (jw (pq r) x))) w.heap.size [⟨x, .slice aa x.args.length acap, jw (pq r) x⟩] := fun t ht => by simp at ht; subst ht; exact hAk3
              exact (h1.mod hal (fun _ _ _ f => f)).grown (hrow3.alloc _) hgrow t ht
          have hm4 : Mod (fun _ => False) w1 w4 := ⟨hgrow.os.trans hmr3.os, hgrow.tape.trans hmr3.tape, hgrow.output.trans hmr3.output, by have a := hmr3.size; have b := hgrow.size; simp at a b; omega, fun i hi _ => by
            have a := hmr3.block i hi (fun f => f)
            have b := hgrow.block i (by simp; omega) (fun e => by have := (hrow3.lt i e.symm).1; omega)
            rw [b, Below.heap_alloc _ _ _ (by simp; omega)]; exact a⟩
          have hown5 : w4.ownsRow w1.heap.size 83 4 v' (r ++ [(⟨x, .slice aa x.args.length acap, jw (pq r) x⟩ : It)]).length (cellsOf (r ++ [⟨x, .slice aa x.args.length acap, jw (pq r) x⟩])) := by rw [← cellsOf_snoc, List.length_append]; exact hown4
          obtain ⟨ao4, cap4, rfl, -⟩ := owns_form hown4
          clear hown4 hgrow hal hrow3 hra3 hAk3 hmr3 c0 c1 c2 c3 f3 hS2 hS3
          go_wp2
          go_roundw
          case rel => exact ⟨k + 1, r ++ [⟨x, .slice aa x.args.length acap, jw (pq r) x⟩], by omega, by go_num, hown5, hA4, by rw [List.map_append, HRX.out, List.take_add_one, HXQ.out]; rfl, by
            have := Ok.snoc hrok HE.out; rw [← jw_yes HE.out] at this; simpa [pq] using this, hm4⟩
          case measure => simp [intOf]; omega
        · have hb : ((err (pq r) x : Int) != 0) = true := by rw [bne_iff_ne]; omega
          go_wp2_with fail
          have hJ := judge_any (.slice va r.length vcap) r w.heap.size x (.slice aa x.args.length acap) wt0 _ (by omega) (by have := hgx.1; omega) hlj (owns_mod hAk hma (fun _ _ f => f)) hrok hgx.2.2.1
          refine hJ.mono ?_
          clear hJ
          rintro e w2 ⟨rfl, hm2⟩
          go_wp2
          go_ret3
          obtain ⟨hkl, hxe⟩ := List.getElem?_eq_some_iff.1 HX.out
          refine ⟨hm1.trans (hmr.trans (hma.trans hm2)), .inr (.inl ⟨hWh, pq r, k, hkl, hrok, by rw [sts_pq, HRX.out, HL.out], by rw [hxe]; exact he, by rw [hxe]; rfl⟩)⟩
      · have hkq : k = q.length := by omega
        go_wp2
        go_ret3
        exact ⟨hm1.trans hmr, .inr (.inr ⟨hWh, _, r, hrok, by rw [HRX.out, HL.out, hkq, List.take_of_length_le (by simp)], ⟨owns_base hrow hz1', hra⟩, by omega, rfl⟩)⟩
  · go_wp2
    go_ret3
    exact ⟨hm1, .inl ⟨k, hst, rfl⟩⟩
end Go.Proofs.YtmnfndpbblpjiaaGreatDoor

/- What Check answers, plainly. -/
namespace Go.Proofs.YtmnfndpbblpjiaaGreatDoor
open Go.RowKit Pu
/-- What both answer of a text that is not too long: an error and a place. -/
def Ans (s : ByteArray) (a b : Nat) : Prop :=
  (Stuck s b ∧ a = 2) ∨
  (Whole s ∧ ∃ (p : List (St × Nat)) (hk : b < (gaA s s.size).l.length), Ok p ∧ sts p = (gaA s s.size).l.take b ∧ err p (gaA s s.size).l[b] ≠ 0 ∧ a = err p (gaA s s.size).l[b]) ∨
  (Whole s ∧ a = 0 ∧ b = 0 ∧ ∃ p, Ok p ∧ sts p = (gaA s s.size).l)
/-- Right beginnings with their weights are what they are. -/
theorem Ok.unique : ∀ {p r : List (St × Nat)}, Ok p → Ok r → ∀ n, n ≤ p.length → n ≤ r.length → (sts p).take n = (sts r).take n → p.take n = r.take n := by
  intro p r hp hr n
  induction n with
  | zero => intros; simp
  | succ n ih =>
    intro h1 h2 he
    have e' : (sts p).take n = (sts r).take n := by
      have := congrArg (List.take n) he
      simpa [List.take_take] using this
    have hih := ih (by omega) (by omega) e'
    have hn1 : n < p.length := by omega
    have hn2 : n < r.length := by omega
    have hx : p[n].1 = r[n].1 := by
      have := congrArg (fun l : List St => l[n]?) he
      simpa [sts, hn1, hn2] using this
    have hw : p[n].2 = r[n].2 := by rw [(hp n hn1).2, (hr n hn2).2, hih, hx]
    rw [take_snoc' p n hn1, take_snoc' r n hn2, hih, Prod.ext hx hw]
theorem Ans.unique {s : ByteArray} {a b c d : Nat} (h : Ans s a b) (k : Ans s c d) : a = c ∧ b = d := by
  have lens : ∀ {p : List (St × Nat)} {n : Nat}, sts p = (gaA s s.size).l.take n → n < (gaA s s.size).l.length → p.length = n := fun {p n} h1 h2 => by
    have := congrArg List.length h1; simp [sts] at this; omega
  have eqs : ∀ {p r : List (St × Nat)} {m n : Nat}, Ok p → Ok r → sts p = (gaA s s.size).l.take m → sts r = (gaA s s.size).l.take n → m ≤ n → p.length = m → m ≤ r.length → p = r.take m := fun {p r m n} o1 o2 h1 h2 hmn hpl hrl => by
    have := Ok.unique o1 o2 m (by omega) hrl (by rw [h1, h2, List.take_take, List.take_take]; congr 1; omega)
    rwa [List.take_of_length_le (by omega)] at this
  rcases h with ⟨hs, rfl⟩ | ⟨hw, p, hk, hok, hp, he, rfl⟩ | ⟨hw, rfl, rfl, p, hok, hp⟩
  · rcases k with ⟨ks, rfl⟩ | ⟨kw, _⟩ | ⟨kw, _⟩
    · exact ⟨rfl, hs.unique ks⟩
    · exact (hs.not_whole kw).elim
    · exact (hs.not_whole kw).elim
  · rcases k with ⟨ks, rfl⟩ | ⟨kw, r, kk, kok, kp, ke, rfl⟩ | ⟨kw, rfl, rfl, r, kok, kp⟩
    · exact (ks.not_whole hw).elim
    · have l1 := lens hp hk
      have l2 := lens kp kk
      rcases Nat.lt_trichotomy b d with hbd | hbd | hbd
      · have := eqs hok kok hp kp (by omega) l1 (by omega)
        have hx := (kok b (by omega)).1
        rw [← this] at hx
        have hxe : r[b].1 = (gaA s s.size).l[b] := by
          have h1 : (sts r)[b]? = ((gaA s s.size).l.take d)[b]? := by rw [kp]
          simp [sts, show b < r.length by omega, hk, hbd] at h1
          exact h1
        rw [hxe] at hx
        exact (he hx).elim
      · subst hbd
        have := eqs hok kok hp kp (Nat.le_refl _) l1 (by omega)
        rw [List.take_of_length_le (by omega)] at this
        subst this
        exact ⟨rfl, rfl⟩
      · have := eqs kok hok kp hp (by omega) l2 (by omega)
        have hx := (hok d (by omega)).1
        rw [← this] at hx
        have hxe : p[d].1 = (gaA s s.size).l[d] := by
          have h1 : (sts p)[d]? = ((gaA s s.size).l.take b)[d]? := by rw [hp]
          simp [sts, show d < p.length by omega, kk, hbd] at h1
          exact h1
        rw [hxe] at hx
        exact (ke hx).elim
    · exfalso
      have l1 := lens hp hk
      have l2 : r.length = (gaA s s.size).l.length := by have := congrArg List.length kp; simpa [sts] using this
      have := eqs (n := (gaA s s.size).l.length) hok kok hp (by rw [kp, List.take_length]) (by omega) l1 (by omega)
      have hx := (kok b (by omega)).1
      rw [← this] at hx
      have hxe : r[b].1 = (gaA s s.size).l[b] := by
        have h1 : (sts r)[b]? = ((gaA s s.size).l)[b]? := by rw [kp]
        simp [sts, show b < r.length by omega, hk] at h1
        exact h1
      rw [hxe] at hx
      exact he hx
  · rcases k with ⟨ks, rfl⟩ | ⟨kw, r, kk, kok, kp, ke, rfl⟩ | ⟨kw, rfl, rfl, r, kok, kp⟩
    · exact (ks.not_whole hw).elim
    · exfalso
      have l1 := lens kp kk
      have l2 : p.length = (gaA s s.size).l.length := by have := congrArg List.length hp; simpa [sts] using this
      have := eqs (n := (gaA s s.size).l.length) kok hok kp (by rw [hp, List.take_length]) (by omega) l1 (by omega)
      have hx := (hok d (by omega)).1
      rw [← this] at hx
      have hxe : p[d].1 = (gaA s s.size).l[d] := by
        have h1 : (sts p)[d]? = ((gaA s s.size).l)[d]? := by rw [hp]
        simp [sts, show d < p.length by omega, kk] at h1
        exact h1
      rw [hxe] at hx
      exact ke hx
    · exact ⟨rfl, rfl⟩
end Go.Proofs.YtmnfndpbblpjiaaGreatDoor

/- understand: the whole of what the program makes of a source. -/
import Derived.Test.YtmnfndpbblpjiabGreatDoorZb20
import Derived.Test.YtmnfndpbblpjiabGreatDoorZb10
namespace Go.Proofs.YtmnfndpbblpjiabGreatDoor
open Go.RowKit Pu

def GoodSt (k : Nat) (x : St) : Prop := x.args.length ≤ k ∧ x.word.length ≤ k ∧ (∀ a ∈ x.args, a.toNat ≠ 0) ∧ x.name < 256
theorem GoodSt.mono {k m : Nat} {x : St} (h : GoodSt k x) (hk : k ≤ m) : GoodSt m x := ⟨by have := h.1; omega, by have := h.2.1; omega, h.2.2.1, h.2.2.2⟩
theorem ga_good (s : ByteArray) (k : Nat) : (∀ x ∈ (gaA s k).l, GoodSt k x) ∧ GoodSt k (gaA s k).x := by
  induction k with
  | zero => simp [gaA, GoodSt]
  | succ k ih =>
    obtain ⟨h1, h2⟩ := ih
    have h1' : ∀ x ∈ (gaA s k).l, GoodSt (k + 1) x := fun x hx => (h1 x hx).mono (by omega)
    have h2' := h2.mono (m := k + 1) (by omega)
    obtain ⟨a1, a2, a3, a4⟩ := h2
    show (∀ x ∈ (gaStep s k (gaA s k)).l, GoodSt (k + 1) x) ∧ GoodSt (k + 1) (gaStep s k (gaA s k)).x
    unfold gaStep
    have hb : g s (k - 1) < 256 := g_lt s _
    split
    · exact ⟨h1', h2'.1, by simp, h2'.2.2.1, hb⟩
    · split
      · exact ⟨h1', h2'.1, by simp, h2'.2.2.1, h2'.2.2.2⟩
      · split
        · exact ⟨h1', h2'⟩
        · split
          · exact ⟨h1', h2'⟩
          · split
            · refine ⟨fun x hx => ?_, by simp [GoodSt]⟩
              rcases List.mem_append.1 hx with hx | hx
              · exact h1' x hx
              · simp at hx; subst hx; exact h2'
            · split
              · rename_i hL
                have hg := (isL_iff _).1 hL
                split
                · refine ⟨h1', by simp; omega, h2'.2.1, fun a ha => ?_, h2'.2.2.2⟩
                  rcases List.mem_append.1 ha with ha | ha
                  · exact a3 a ha
                  · simp at ha; subst ha; have : (bt s k).toNat = g s k := rfl; omega
                · exact ⟨h1', h2'.1, by simp; omega, h2'.2.2.1, h2'.2.2.2⟩
              · exact ⟨h1', h2'⟩

/-- What understand leaves of a text that is not too long. -/
def UnEnd (s : ByteArray) (w : World) (e : Ending) (w' : World) : Prop :=
  (∃ k : Nat, Stuck s k ∧ e = .returned (.tuple #[.slice none 0 0, .int .i64 2, .int .i64 k])) ∨
  (Whole s ∧ ∃ (p : List (St × Nat)) (k : Nat) (hk : k < (gaA s s.size).l.length), Ok p ∧ sts p = (gaA s s.size).l.take k ∧ err p (gaA s s.size).l[k] ≠ 0 ∧ e = .returned (.tuple #[.slice none 0 0, .int .i64 (err p (gaA s s.size).l[k]), .int .i64 k])) ∨
  (Whole s ∧ ∃ v q, Ok (pq q) ∧ q.map It.x = (gaA s s.size).l ∧ Lst w' w.heap.size v q ∧ q.length ≤ 16 ∧ e = .returned (.tuple #[v, .int .i64 0, .int .i64 0]))

set_option maxHeartbeats 400000 in
theorem und_long (s : ByteArray) (w : World) (hs : 300 < s.size) (hm : s.size ≤ maxLen) : Calls Tryz.prog 31 #[.string s] w fun e w' => e = .returned (.tuple #[.slice none 0 0, .int .i64 1, .int .i64 0]) ∧ w = w' := by
  unfold maxLen at hm
  go_enter Tryz.func31, Tryz.ntmps31
  go_wp2
  go_ret3
  exact ⟨rfl, rfl⟩

set_option maxHeartbeats 2000000 in
set_option maxRecDepth 100000 in
theorem und_any (s : ByteArray) (w : World) (hs : s.size ≤ 300) : Calls Tryz.prog 31 #[.string s] w fun e w' => Mod (fun _ => False) w w' ∧ UnEnd s w e w' := by
  obtain ⟨i0, hi, hz0, hz1, hz2⟩ := info_parts Tryz.info66
  go_enter Tryz.func31, Tryz.ntmps31
  go_wp2_with fail
  refine (parse_any s w hs).mono ?_
  rintro e w1 ⟨hm1, ⟨v, q, rfl, hL, hWh, hl, hq⟩ | ⟨k, rfl, hst⟩⟩
  · obtain ⟨ao, cap, rfl, -⟩ := hL.form
    have hz1' := hm1.size
    have HL : Hid ((gaA s s.size).l = q.map It.x) := hl
    clear hl
    have hgood := (ga_good s s.size).1
    have HGd : Hid (∀ x ∈ (gaA s s.size).l, GoodSt s.size x) := hgood
    clear hgood
    go_wp2
    go_loopw [8, 27] (fun v i wr => ∃ (k : Nat) (r : List It), k ≤ q.length ∧ i = .int .i64 k ∧ wr.ownsRow w1.heap.size 72 4 v r.length (cellsOf r) ∧ ArgsOk wr w.heap.size r ∧ r.map It.x = (q.map It.x).take k ∧ Ok (pq r) ∧ Mod (fun _ => False) w1 wr) (fun _ i _ => q.length - (intOf i).toNat)
    case atStart => exact ⟨0, [], by omega, rfl, World.ownsRow_nil _ _ _ _, fun _ h => by simp at h, by simp, Ok.nil, Mod.refl _ _⟩
    case round =>
      obtain ⟨k, r, hk, rfl, hrow, hra, hrx, hrok, hmr⟩ := hrel
      have hLr := hL.mod hmr (fun _ _ _ f => f)
      have hszr := hmr.size
      have HRX : Hid (r.map It.x = (q.map It.x).take k) := hrx
      have HRL : Hid (r.length = k) := show r.length = k by have := congrArg List.length hrx; simp at this; omega
      have hrl : r.length ≤ k := by have := HRL.out; omega
      clear hrx
      obtain ⟨va, vcap, rfl, -⟩ := owns_form hrow
      by_cases hlt : k < q.length
      · obtain ⟨gb, rfl, c0, c1, c2, c3⟩ := hLr.cell hlt
        have hAk := hLr.2 q[k] (List.getElem_mem hlt)
        obtain ⟨aa, acap, hae, -⟩ := owns_form hAk
        have hx : (gaA s s.size).l[k]? = some q[k].x := by rw [HL.out]; simp [hlt]
        have HX : Hid ((gaA s s.size).l[k]? = some q[k].x) := hx
        have HXQ : Hid ((q.map It.x)[k]? = some q[k].x) := show (q.map It.x)[k]? = some q[k].x by simp [hlt]
        have hgx : GoodSt s.size q[k].x := HGd.out _ (List.mem_of_getElem? hx)
        clear hx
        generalize hxe : q[k].x = x at *
        generalize hve : q[k].av = av at *
        generalize hwe : q[k].wt = wt0 at *
        subst hae
        clear hxe hve hwe
        have hS1 := se_new wr x.name x.word (.slice aa x.args.length acap) wt0
        have hma : Mod (fun _ => False) wr (wr.alloc (.cells #[.int .u8 x.name, S x.word, .slice aa x.args.length acap, .int .i64 wt0] 72)) := (Mod.refl _ wr).alloc _
        have hlj : Lst (wr.alloc (.cells #[.int .u8 x.name, S x.word, .slice aa x.args.length acap, .int .i64 wt0] 72)) w.heap.size (.slice va r.length vcap) r := Lst.mod ⟨owns_base hrow hz1', hra⟩ hma (fun _ _ _ f => f)
        by_cases he : err (pq r) x = 0
        · have HE : Hid (err (pq r) x = 0) := he
          have hb : ((err (pq r) x : Int) != 0) = false := by rw [he]; rfl
          clear he hLr
          go_wp2_with fail
          have hJ := judge_any (.slice va r.length vcap) r w.heap.size x (.slice aa x.args.length acap) wt0 _ (by omega) (by have := hgx.1; omega) hlj (owns_mod hAk hma (fun _ _ f => f)) hrok hgx.2.2.1
          refine hJ.mono ?_
          clear hJ
          rintro e w2 ⟨rfl, hm2⟩
          have hS2 := hS1.keep hm2 (fun f => f)
          have hm3 := hma.trans hm2
          have hsz3 := hm3.size
          have hsb : wr.heap.size < w2.heap.size := hS2.lt
          have hS3 := hS2.set3 (jw (pq r) x)
          have hm4 : Mod (fun _ => False) wr (w2.setCell ⟨wr.heap.size, 3, none⟩ (.int .i64 (jw (pq r) x))) := ((hm3.mono (q := fun i => i = wr.heap.size) (fun _ _ f => f.elim)).setCell _ _ (fun _ => rfl)).mono (fun i hi h => by omega)
          have hrow3 := owns_mod hrow hm4 (fun _ _ f => f)
          have hra3 := hra.mod hm4 (fun _ _ _ f => f)
          have hAk3 := owns_mod hAk hm4 (fun _ _ f => f)
          have hmr3 := hmr.trans hm4
          clear c0 c1 c2 c3 hma hm2 hrow hra hAk hmr hS1 hm3 hlj hm4
          have c0 := hS2.c0
          have c1 := hS2.c1
          have c2 := hS2.c2
          have c3 := hS2.c3
          have f3 := hS2.fz 3
          go_wp2_with (at_builtin; refine wpList_append_own _ rfl _ _ 58 rfl w1.heap.size 72 i0 _ 4 56 Tryz.underlying58 hi hz0 hz1 hz2 rfl (by decide) _ _ _ rfl (hrow3.alloc _) ⟨w2.heap.size, 0, none⟩ 1 1 (secells ⟨x, .slice aa x.args.length acap, jw (pq r) x⟩) rfl rfl ?c1 ?c2 ?c3 ?c4 ?c5 ?_)
          case c1 => have := cell_new4 (w2.setCell ⟨wr.heap.size, 3, none⟩ (.int .i64 (jw (pq r) x))) (.int .u8 x.name) (S x.word) (.slice aa x.args.length acap) (.int .i64 (jw (pq r) x)) 72; simpa [secells] using this
          case c2 => intro u hu; simp [secells] at hu; rcases hu with rfl | rfl | rfl | rfl <;> rfl
          case c3 => unfold maxLen; omega
          case c4 => omega
          case c5 => simp; omega
          intro v' w4 hown4 hgrow _
          have hal : Mod (fun _ => False) (w2.setCell ⟨wr.heap.size, 3, none⟩ (.int .i64 (jw (pq r) x))) ((w2.setCell ⟨wr.heap.size, 3, none⟩ (.int .i64 (jw (pq r) x))).alloc (.cells #[.int .u8 x.name, S x.word, .slice aa x.args.length acap, .int .i64 (jw (pq r) x)] 72)) := (Mod.refl _ _).alloc _
          have hA4 : ArgsOk w4 w.heap.size (r ++ [⟨x, .slice aa x.args.length acap, jw (pq r) x⟩]) := by
            intro t ht
            rcases List.mem_append.1 ht with ht | ht
            · exact (hra3.mod hal (fun _ _ _ f => f)).grown (hrow3.alloc _) hgrow t ht
            · have h1 : ArgsOk (w2.setCell ⟨wr.heap.size, 3, none⟩ (.int .i64 (jw (pq r) x))) w.heap.size [⟨x, .slice aa x.args.length acap, jw (pq r) x⟩] := fun t ht => by simp at ht; subst ht; exact hAk3
              exact (h1.mod hal (fun _ _ _ f => f)).grown (hrow3.alloc _) hgrow t ht
          have hm4 : Mod (fun _ => False) w1 w4 := ⟨hgrow.os.trans hmr3.os, hgrow.tape.trans hmr3.tape, hgrow.output.trans hmr3.output, by have a := hmr3.size; have b := hgrow.size; simp at a b; omega, fun i hi _ => by
            have a := hmr3.block i hi (fun f => f)
            have b := hgrow.block i (by simp; omega) (fun e => by have := (hrow3.lt i e.symm).1; omega)
            rw [b, Below.heap_alloc _ _ _ (by simp; omega)]; exact a⟩
          have hown5 : w4.ownsRow w1.heap.size 72 4 v' (r ++ [(⟨x, .slice aa x.args.length acap, jw (pq r) x⟩ : It)]).length (cellsOf (r ++ [⟨x, .slice aa x.args.length acap, jw (pq r) x⟩])) := by rw [← cellsOf_snoc, List.length_append]; exact hown4
          obtain ⟨ao4, cap4, rfl, -⟩ := owns_form hown4
          clear hown4 hgrow hal hrow3 hra3 hAk3 hmr3 c0 c1 c2 c3 f3 hS2 hS3
          go_wp2
          go_roundw
          case rel => exact ⟨k + 1, r ++ [⟨x, .slice aa x.args.length acap, jw (pq r) x⟩], by omega, by go_num, hown5, hA4, by rw [List.map_append, HRX.out, List.take_add_one, HXQ.out]; rfl, by
            have := Ok.snoc hrok HE.out; rw [← jw_yes HE.out] at this; simpa [pq] using this, hm4⟩
          case measure => simp [intOf]; omega
        · have hb : ((err (pq r) x : Int) != 0) = true := by rw [bne_iff_ne]; omega
          go_wp2_with fail
          have hJ := judge_any (.slice va r.length vcap) r w.heap.size x (.slice aa x.args.length acap) wt0 _ (by omega) (by have := hgx.1; omega) hlj (owns_mod hAk hma (fun _ _ f => f)) hrok hgx.2.2.1
          refine hJ.mono ?_
          clear hJ
          rintro e w2 ⟨rfl, hm2⟩
          go_wp2
          go_ret3
          obtain ⟨hkl, hxe⟩ := List.getElem?_eq_some_iff.1 HX.out
          refine ⟨hm1.trans (hmr.trans (hma.trans hm2)), .inr (.inl ⟨hWh, pq r, k, hkl, hrok, by rw [sts_pq, HRX.out, HL.out], by rw [hxe]; exact he, by rw [hxe]; rfl⟩)⟩
      · have hkq : k = q.length := by omega
        go_wp2
        go_ret3
        exact ⟨hm1.trans hmr, .inr (.inr ⟨hWh, _, r, hrok, by rw [HRX.out, HL.out, hkq, List.take_of_length_le (by simp)], ⟨owns_base hrow hz1', hra⟩, by omega, rfl⟩)⟩
  · go_wp2
    go_ret3
    exact ⟨hm1, .inl ⟨k, hst, rfl⟩⟩
end Go.Proofs.YtmnfndpbblpjiabGreatDoor

/- The steps that are made are right ones. -/
namespace Go.Proofs.YtmnfndpbblpjiabGreatDoor.Pu

def okG (n : Nat) : (Nat → Bool) → List Stp → Prop
  | _, [] => True
  | M, t :: l => Small t ∧ properB t 128 n = true ∧ (∀ r ∈ readsOf t, r < 128 ∧ M r = true) ∧ okG n (if t.op ≤ 5 then upd t.x true M else M) l
theorem okG_okL {n : Nat} : ∀ (l : List Stp) (M : Nat → Bool), okG n M l → okL 128 n M l
  | [], _, _ => trivial
  | _ :: l, _, h => ⟨h.2.1, h.2.2.1, okG_okL l _ h.2.2.2⟩
theorem okG_small {n : Nat} : ∀ (l : List Stp) (M : Nat → Bool), okG n M l → ∀ t ∈ l, Small t
  | [], _, _, _, ht => by cases ht
  | _ :: l, _, h, u, hu => by
    rcases List.mem_cons.1 hu with e | hu
    · subst e; exact h.1
    · exact okG_small l _ h.2.2.2 u hu
def Sub (M M' : Nat → Bool) : Prop := ∀ r, M r = true → M' r = true
theorem Sub.trans {A B C : Nat → Bool} (h : Sub A B) (k : Sub B C) : Sub A C := fun r hr => k r (h r hr)
def Rs (M : Nat → Bool) (r : Nat) : Prop := r < 128 ∧ M r = true
def Rt (M : Nat → Bool) (t : Tr) : Prop := Rs M t.x ∧ Rs M t.y ∧ Rs M t.w
theorem Rs.sub {M M' : Nat → Bool} {r : Nat} (h : Rs M r) (k : Sub M M') : Rs M' r := ⟨h.1, k r h.2⟩
theorem Rt.sub {M M' : Nat → Bool} {r : Tr} (h : Rt M r) (k : Sub M M') : Rt M' r := ⟨h.1.sub k, h.2.1.sub k, h.2.2.sub k⟩
theorem upd_sub (M : Nat → Bool) (x : Nat) : Sub M (upd x true M) := fun r h => by unfold upd; split <;> simp [h]
theorem upd_at (M : Nat → Bool) (x : Nat) : upd x true M x = true := by simp [upd]
section
variable {n s : Nat} {M : Nat → Bool} {l : List Stp}
theorem og_set {op x y z : Nat} (hs : x < 128) (hop : op ≤ 5) (hsm : Small ⟨op, x, y, z⟩) (hp : properB ⟨op, x, y, z⟩ 128 n = true) (hr : ∀ r ∈ readsOf ⟨op, x, y, z⟩, r < 128 ∧ M r = true) (k : ∀ M', Sub M M' → Rs M' x → okG n M' l) : okG n M (⟨op, x, y, z⟩ :: l) := by
  refine ⟨hsm, hp, hr, ?_⟩
  rw [if_pos hop]
  exact k _ (upd_sub M x) ⟨hs, upd_at M x⟩

theorem og_add {x y z : Nat} (hs : x < 128) (hy : Rs M y) (hz : Rs M z) (k : ∀ M', Sub M M' → Rs M' x → okG n M' l) : okG n M (⟨2, x, y, z⟩ :: l) := by
  have h1 := hy.1
  have h2 := hz.1
  refine og_set hs (by omega) ⟨by show 2 < 256; omega, by show x < 256; omega, by show y < 256; omega, by show z < 256; omega⟩ ?_ ?_ k
  · simp [properB]; omega
  · intro r hr
    simp [readsOf] at hr
    rcases hr with rfl | rfl
    · exact hy
    · exact hz
theorem og_sub {x y z : Nat} (hs : x < 128) (hy : Rs M y) (hz : Rs M z) (k : ∀ M', Sub M M' → Rs M' x → okG n M' l) : okG n M (⟨3, x, y, z⟩ :: l) := by
  have h1 := hy.1
  have h2 := hz.1
  refine og_set hs (by omega) ⟨by show 3 < 256; omega, by show x < 256; omega, by show y < 256; omega, by show z < 256; omega⟩ ?_ ?_ k
  · simp [properB]; omega
  · intro r hr
    simp [readsOf] at hr
    rcases hr with rfl | rfl
    · exact hy
    · exact hz
theorem og_mul {x y z : Nat} (hs : x < 128) (hy : Rs M y) (hz : Rs M z) (k : ∀ M', Sub M M' → Rs M' x → okG n M' l) : okG n M (⟨4, x, y, z⟩ :: l) := by
  have h1 := hy.1
  have h2 := hz.1
  refine og_set hs (by omega) ⟨by show 4 < 256; omega, by show x < 256; omega, by show y < 256; omega, by show z < 256; omega⟩ ?_ ?_ k
  · simp [properB]; omega
  · intro r hr
    simp [readsOf] at hr
    rcases hr with rfl | rfl
    · exact hy
    · exact hz
theorem og_con {x y : Nat} (hs : x < 128) (hy : y < 256) (k : ∀ M', Sub M M' → Rs M' x → okG n M' l) : okG n M (⟨1, x, y, 0⟩ :: l) := by
  refine og_set hs (by omega) ⟨by show 1 < 256; omega, by show x < 256; omega, hy, by show 0 < 256; omega⟩ ?_ ?_ k
  · simp [properB]; omega
  · intro r hr
    simp [readsOf] at hr
theorem og_in {x y : Nat} (hs : x < 128) (hy : y < n) (hn : n ≤ 32) (k : ∀ M', Sub M M' → Rs M' x → okG n M' l) : okG n M (⟨0, x, y, 0⟩ :: l) := by
  refine og_set hs (by omega) ⟨by show 0 < 256; omega, by show x < 256; omega, by show y < 256; omega, by show 0 < 256; omega⟩ ?_ ?_ k
  · simp [properB]; omega
  · intro r hr
    simp [readsOf] at hr
theorem og_sgn {x y : Nat} (hs : x < 128) (hy : Rs M y) (k : ∀ M', Sub M M' → Rs M' x → okG n M' l) : okG n M (⟨5, x, y, 0⟩ :: l) := by
  have h1 := hy.1
  refine og_set hs (by omega) ⟨by show 5 < 256; omega, by show x < 256; omega, by show y < 256; omega, by show 0 < 256; omega⟩ ?_ ?_ k
  · simp [properB]; omega
  · intro r hr
    simp [readsOf] at hr
    subst hr
    exact hy
theorem og_out {x : Nat} (hx : Rs M x) (k : okG n M l) : okG n M (⟨6, x, 0, 0⟩ :: l) := by
  have h1 := hx.1
  refine ⟨⟨by show 6 < 256; omega, by show x < 256; omega, by show 0 < 256; omega, by show 0 < 256; omega⟩, by simp [properB]; omega, ?_, k⟩
  intro r hr
  simp [readsOf] at hr
  subst hr
  exact hx
theorem og_stop {x y z : Nat} (hx : Rs M x) (hy : y < 3) (hz : z < 16) (k : okG n M l) : okG n M (⟨7, x, y, z⟩ :: l) := by
  have h1 := hx.1
  refine ⟨⟨by show 7 < 256; omega, by show x < 256; omega, by show y < 256; omega, by show z < 256; omega⟩, by simp [properB]; omega, ?_, k⟩
  intro r hr
  simp [readsOf] at hr
  subst hr
  exact hx

theorem og_prodS {p q r t : Nat} (hs : s + 3 ≤ 128) (h_p : Rs M p) (h_q : Rs M q) (h_r : Rs M r) (h_t : Rs M t)
    (k : ∀ M', Sub M M' → Rs M' (s + 2) → okG n M' l) : okG n M (prodS s p q r t ++ l) := by
  unfold prodS
  refine og_mul (by omega) h_p h_q ?_
  intro M1 s1 r1
  have g1_r := Rs.sub h_r s1
  have g1_t := Rs.sub h_t s1
  refine og_mul (by omega) g1_r g1_t ?_
  intro M2 s2 r2
  have g2_a := Rs.sub r1 s2
  refine og_add (by omega) g2_a r2 ?_
  intro M3 s3 r3
  exact k _ ((s1.trans s2).trans s3) r3

theorem og_prodD {p q r t : Nat} (hs : s + 3 ≤ 128) (h_p : Rs M p) (h_q : Rs M q) (h_r : Rs M r) (h_t : Rs M t)
    (k : ∀ M', Sub M M' → Rs M' (s + 2) → okG n M' l) : okG n M (prodD s p q r t ++ l) := by
  unfold prodD
  refine og_mul (by omega) h_p h_q ?_
  intro M1 s1 r1
  have g1_r := Rs.sub h_r s1
  have g1_t := Rs.sub h_t s1
  refine og_mul (by omega) g1_r g1_t ?_
  intro M2 s2 r2
  have g2_a := Rs.sub r1 s2
  refine og_sub (by omega) g2_a r2 ?_
  intro M3 s3 r3
  exact k _ ((s1.trans s2).trans s3) r3

theorem og_neg {y : Nat} (hs : s + 2 ≤ 128) (h_y : Rs M y)
    (k : ∀ M', Sub M M' → Rs M' (s + 1) → okG n M' l) : okG n M (negL s y ++ l) := by
  unfold negL
  refine og_con (by omega) (by omega) ?_
  intro M1 s1 r1
  have g1_y := Rs.sub h_y s1
  refine og_sub (by omega) r1 g1_y ?_
  intro M2 s2 r2
  exact k _ (s1.trans s2) r2

theorem og_isn {y : Nat} (hs : s + 4 ≤ 128) (h_y : Rs M y)
    (k : ∀ M', Sub M M' → Rs M' (s + 3) → okG n M' l) : okG n M (isnL s y ++ l) := by
  unfold isnL
  refine og_sgn (by omega) h_y ?_
  intro M1 s1 r1
  refine og_mul (by omega) r1 r1 ?_
  intro M2 s2 r2
  refine og_con (by omega) (by omega) ?_
  intro M3 s3 r3
  have g3_b := Rs.sub r2 s3
  refine og_sub (by omega) r3 g3_b ?_
  intro M4 s4 r4
  exact k _ (((s1.trans s2).trans s3).trans s4) r4

theorem og_cross {a b : Tr} (hs : s + 9 ≤ 128) (h_a : Rt M a) (h_b : Rt M b)
    (k : ∀ M', Sub M M' → Rt M' (crossR s) → okG n M' l) : okG n M (crossL s a b ++ l) := by
  unfold crossL
  simp only [List.append_assoc]
  refine og_prodD (by omega) h_a.2.1 h_b.2.2 h_a.2.2 h_b.2.1 ?_
  intro M1 s1 r1
  have g1_a := Rt.sub h_a s1
  have g1_b := Rt.sub h_b s1
  refine og_prodD (by omega) g1_a.2.2 g1_b.1 g1_a.1 g1_b.2.2 ?_
  intro M2 s2 r2
  have g2_a := Rt.sub g1_a s2
  have g2_b := Rt.sub g1_b s2
  have g2_x := Rs.sub r1 s2
  refine og_prodD (by omega) g2_a.1 g2_b.2.1 g2_a.2.1 g2_b.1 ?_
  intro M3 s3 r3
  have g3_x := Rs.sub g2_x s3
  have g3_y := Rs.sub r2 s3
  exact k _ ((s1.trans s2).trans s3) ⟨g3_x, g3_y, r3⟩

theorem og_dot {a b : Tr} (hs : s + 5 ≤ 128) (h_a : Rt M a) (h_b : Rt M b)
    (k : ∀ M', Sub M M' → Rs M' (s + 4) → okG n M' l) : okG n M (dotL s a b ++ l) := by
  unfold dotL
  simp only [List.append_assoc]
  refine og_prodS (by omega) h_a.1 h_b.1 h_a.2.1 h_b.2.1 ?_
  intro M1 s1 r1
  have g1_a := Rt.sub h_a s1
  have g1_b := Rt.sub h_b s1
  refine og_mul (by omega) g1_a.2.2 g1_b.2.2 ?_
  intro M2 s2 r2
  have g2_x := Rs.sub r1 s2
  refine og_add (by omega) g2_x r2 ?_
  intro M3 s3 r3
  exact k _ ((s1.trans s2).trans s3) r3

theorem og_vol {a b c : Tr} (hs : s + 14 ≤ 128) (h_a : Rt M a) (h_b : Rt M b) (h_c : Rt M c)
    (k : ∀ M', Sub M M' → Rs M' (s + 13) → okG n M' l) : okG n M (volL s a b c ++ l) := by
  unfold volL
  simp only [List.append_assoc]
  refine og_cross (by omega) h_a h_b ?_
  intro M1 s1 r1
  have g1_c := Rt.sub h_c s1
  refine og_dot (by omega) r1 g1_c ?_
  intro M2 s2 r2
  exact k _ (s1.trans s2) r2

theorem og_mid {a b : Tr} (hs : s + 8 ≤ 128) (h_a : Rt M a) (h_b : Rt M b)
    (k : ∀ M', Sub M M' → Rt M' (midR s) → okG n M' l) : okG n M (midL s a b ++ l) := by
  unfold midL
  simp only [List.append_assoc]
  refine og_prodS (by omega) h_a.1 h_b.2.2 h_b.1 h_a.2.2 ?_
  intro M1 s1 r1
  have g1_a := Rt.sub h_a s1
  have g1_b := Rt.sub h_b s1
  refine og_prodS (by omega) g1_a.2.1 g1_b.2.2 g1_b.2.1 g1_a.2.2 ?_
  intro M2 s2 r2
  have g2_a := Rt.sub g1_a s2
  have g2_b := Rt.sub g1_b s2
  have g2_x := Rs.sub r1 s2
  refine og_mul (by omega) g2_a.2.2 g2_b.2.2 ?_
  intro M3 s3 r3
  have g3_x := Rs.sub g2_x s3
  have g3_y := Rs.sub r2 s3
  refine og_add (by omega) r3 r3 ?_
  intro M4 s4 r4
  have g4_x := Rs.sub g3_x s4
  have g4_y := Rs.sub g3_y s4
  exact k _ (((s1.trans s2).trans s3).trans s4) ⟨g4_x, g4_y, r4⟩

theorem og_par {p m : Tr} (hs : s + 7 ≤ 128) (h_p : Rt M p) (h_m : Rt M m)
    (k : ∀ M', Sub M M' → Rt M' (parR s) → okG n M' l) : okG n M (parL s p m ++ l) := by
  unfold parL
  simp only [List.append_assoc]
  refine og_mul (by omega) h_m.1 h_p.2.2 ?_
  intro M1 s1 r1
  have g1_p := Rt.sub h_p s1
  have g1_m := Rt.sub h_m s1
  refine og_mul (by omega) g1_m.2.1 g1_p.2.2 ?_
  intro M2 s2 r2
  have g2_p := Rt.sub g1_p s2
  have g2_m := Rt.sub g1_m s2
  have g2_x := Rs.sub r1 s2
  refine og_prodS (by omega) g2_m.1 g2_p.1 g2_m.2.1 g2_p.2.1 ?_
  intro M3 s3 r3
  have g3_x := Rs.sub g2_x s3
  have g3_y := Rs.sub r2 s3
  refine og_neg (by omega) r3 ?_
  intro M4 s4 r4
  have g4_x := Rs.sub g3_x s4
  have g4_y := Rs.sub g3_y s4
  exact k _ (((s1.trans s2).trans s3).trans s4) ⟨g4_x, g4_y, r4⟩

theorem og_upr {p m : Tr} (hs : s + 9 ≤ 128) (h_p : Rt M p) (h_m : Rt M m)
    (k : ∀ M', Sub M M' → Rt M' (uprR s) → okG n M' l) : okG n M (uprL s p m ++ l) := by
  unfold uprL
  simp only [List.append_assoc]
  refine og_neg (by omega) h_m.1 ?_
  intro M1 s1 r1
  have g1_p := Rt.sub h_p s1
  have g1_m := Rt.sub h_m s1
  refine og_par (by omega) g1_p ⟨g1_m.2.1, r1, g1_m.2.2⟩ ?_
  intro M2 s2 r2
  exact k _ (s1.trans s2) ⟨r2.1, r2.2.1, r2.2.2⟩

theorem og_foot {p m : Tr} (hs : s + 18 ≤ 128) (h_p : Rt M p) (h_m : Rt M m)
    (k : ∀ M', Sub M M' → Rt M' (footR s) → okG n M' l) : okG n M (footL s p m ++ l) := by
  unfold footL
  simp only [List.append_assoc]
  refine og_upr (by omega) h_p h_m ?_
  intro M1 s1 r1
  have g1_m := Rt.sub h_m s1
  refine og_cross (by omega) r1 g1_m ?_
  intro M2 s2 r2
  exact k _ (s1.trans s2) ⟨r2.1, r2.2.1, r2.2.2⟩

theorem og_mir {p m : Tr} (hs : s + 27 ≤ 128) (h_p : Rt M p) (h_m : Rt M m)
    (k : ∀ M', Sub M M' → Rt M' (mirR s) → okG n M' l) : okG n M (mirL s p m ++ l) := by
  unfold mirL
  simp only [List.append_assoc]
  refine og_foot (by omega) h_p h_m ?_
  intro M1 s1 r1
  have g1_p := Rt.sub h_p s1
  refine og_add (by omega) r1.1 r1.1 ?_
  intro M2 s2 r2
  have g2_p := Rt.sub g1_p s2
  have g2_f := Rt.sub r1 s2
  refine og_add (by omega) g2_f.2.1 g2_f.2.1 ?_
  intro M3 s3 r3
  have g3_p := Rt.sub g2_p s3
  have g3_f := Rt.sub g2_f s3
  have g3_tx := Rs.sub r2 s3
  refine og_prodD (by omega) g3_tx g3_p.2.2 g3_p.1 g3_f.2.2 ?_
  intro M4 s4 r4
  have g4_p := Rt.sub g3_p s4
  have g4_f := Rt.sub g3_f s4
  have g4_ty := Rs.sub r3 s4
  refine og_prodD (by omega) g4_ty g4_p.2.2 g4_p.2.1 g4_f.2.2 ?_
  intro M5 s5 r5
  have g5_p := Rt.sub g4_p s5
  have g5_f := Rt.sub g4_f s5
  have g5_x := Rs.sub r4 s5
  refine og_mul (by omega) g5_f.2.2 g5_p.2.2 ?_
  intro M6 s6 r6
  have g6_x := Rs.sub g5_x s6
  have g6_y := Rs.sub r5 s6
  exact k _ (((((s1.trans s2).trans s3).trans s4).trans s5).trans s6) ⟨g6_x, g6_y, r6⟩

theorem og_hal {a b : Tr} (hs : s + 26 ≤ 128) (h_a : Rt M a) (h_b : Rt M b)
    (k : ∀ M', Sub M M' → Rt M' (halR s) → okG n M' l) : okG n M (halL s a b ++ l) := by
  unfold halL
  simp only [List.append_assoc]
  refine og_mid (by omega) h_a h_b ?_
  intro M1 s1 r1
  have g1_a := Rt.sub h_a s1
  have g1_b := Rt.sub h_b s1
  refine og_cross (by omega) g1_a g1_b ?_
  intro M2 s2 r2
  have g2_m := Rt.sub r1 s2
  refine og_upr (by omega) g2_m r2 ?_
  intro M3 s3 r3
  exact k _ ((s1.trans s2).trans s3) ⟨r3.1, r3.2.1, r3.2.2⟩

theorem og_cen {a b c : Tr} (hs : s + 61 ≤ 128) (h_a : Rt M a) (h_b : Rt M b) (h_c : Rt M c)
    (k : ∀ M', Sub M M' → Rt M' (cenR s) → okG n M' l) : okG n M (cenL s a b c ++ l) := by
  unfold cenL
  simp only [List.append_assoc]
  refine og_hal (by omega) h_a h_b ?_
  intro M1 s1 r1
  have g1_a := Rt.sub h_a s1
  have g1_c := Rt.sub h_c s1
  refine og_hal (by omega) g1_a g1_c ?_
  intro M2 s2 r2
  have g2_f := Rt.sub r1 s2
  refine og_cross (by omega) g2_f r2 ?_
  intro M3 s3 r3
  exact k _ ((s1.trans s2).trans s3) ⟨r3.1, r3.2.1, r3.2.2⟩

theorem og_way {a b : Tr} (hs : s + 7 ≤ 128) (h_a : Rt M a) (h_b : Rt M b)
    (k : ∀ M', Sub M M' → Rt M' (wayR s) → okG n M' l) : okG n M (wayL s a b ++ l) := by
  unfold wayL
  simp only [List.append_assoc]
  refine og_prodD (by omega) h_b.1 h_a.2.2 h_a.1 h_b.2.2 ?_
  intro M1 s1 r1
  have g1_a := Rt.sub h_a s1
  have g1_b := Rt.sub h_b s1
  refine og_prodD (by omega) g1_b.2.1 g1_a.2.2 g1_a.2.1 g1_b.2.2 ?_
  intro M2 s2 r2
  have g2_a := Rt.sub g1_a s2
  have g2_b := Rt.sub g1_b s2
  have g2_x := Rs.sub r1 s2
  refine og_mul (by omega) g2_a.2.2 g2_b.2.2 ?_
  intro M3 s3 r3
  have g3_x := Rs.sub g2_x s3
  have g3_y := Rs.sub r2 s3
  exact k _ ((s1.trans s2).trans s3) ⟨g3_x, g3_y, r3⟩

theorem og_lif {p : Tr} (hs : s + 5 ≤ 128) (h_p : Rt M p)
    (k : ∀ M', Sub M M' → Rt M' (lifR s) → okG n M' l) : okG n M (lifL s p ++ l) := by
  unfold lifL
  simp only [List.append_assoc]
  refine og_mul (by omega) h_p.1 h_p.2.2 ?_
  intro M1 s1 r1
  have g1_p := Rt.sub h_p s1
  refine og_mul (by omega) g1_p.2.1 g1_p.2.2 ?_
  intro M2 s2 r2
  have g2_p := Rt.sub g1_p s2
  have g2_x := Rs.sub r1 s2
  refine og_prodS (by omega) g2_p.1 g2_p.1 g2_p.2.1 g2_p.2.1 ?_
  intro M3 s3 r3
  have g3_x := Rs.sub g2_x s3
  have g3_y := Rs.sub r2 s3
  exact k _ ((s1.trans s2).trans s3) ⟨g3_x, g3_y, r3⟩

theorem og_btw {a b c : Tr} (hs : s + 38 ≤ 128) (h_a : Rt M a) (h_b : Rt M b) (h_c : Rt M c)
    (k : ∀ M', Sub M M' → Rs M' (s + 37) → okG n M' l) : okG n M (btwL s a b c ++ l) := by
  unfold btwL
  simp only [List.append_assoc]
  refine og_vol (by omega) h_a h_b h_c ?_
  intro M1 s1 r1
  have g1_a := Rt.sub h_a s1
  have g1_b := Rt.sub h_b s1
  have g1_c := Rt.sub h_c s1
  refine og_isn (by omega) r1 ?_
  intro M2 s2 r2
  have g2_a := Rt.sub g1_a s2
  have g2_b := Rt.sub g1_b s2
  have g2_c := Rt.sub g1_c s2
  refine og_way (by omega) g2_b g2_a ?_
  intro M3 s3 r3
  have g3_b := Rt.sub g2_b s3
  have g3_c := Rt.sub g2_c s3
  have g3_st := Rs.sub r2 s3
  refine og_way (by omega) g3_b g3_c ?_
  intro M4 s4 r4
  have g4_st := Rs.sub g3_st s4
  have g4_bk := Rt.sub r3 s4
  refine og_prodS (by omega) g4_bk.1 r4.1 g4_bk.2.1 r4.2.1 ?_
  intro M5 s5 r5
  have g5_st := Rs.sub g4_st s5
  refine og_neg (by omega) r5 ?_
  intro M6 s6 r6
  have g6_st := Rs.sub g5_st s6
  refine og_mul (by omega) g6_st r6 ?_
  intro M7 s7 r7
  exact k _ ((((((s1.trans s2).trans s3).trans s4).trans s5).trans s6).trans s7) r7

theorem og_rnd {a b c d : Tr} (hs : s + 50 ≤ 128) (h_a : Rt M a) (h_b : Rt M b) (h_c : Rt M c) (h_d : Rt M d)
    (k : ∀ M', Sub M M' → Rs M' (s + 49) → okG n M' l) : okG n M (rndL s a b c d ++ l) := by
  unfold rndL
  simp only [List.append_assoc]
  refine og_way (by omega) h_a h_b ?_
  intro M1 s1 r1
  have g1_a := Rt.sub h_a s1
  have g1_c := Rt.sub h_c s1
  have g1_d := Rt.sub h_d s1
  refine og_way (by omega) g1_a g1_c ?_
  intro M2 s2 r2
  have g2_a := Rt.sub g1_a s2
  have g2_d := Rt.sub g1_d s2
  have g2_tb := Rt.sub r1 s2
  refine og_way (by omega) g2_a g2_d ?_
  intro M3 s3 r3
  have g3_tb := Rt.sub g2_tb s3
  have g3_tc := Rt.sub r2 s3
  refine og_lif (by omega) g3_tb ?_
  intro M4 s4 r4
  have g4_tc := Rt.sub g3_tc s4
  have g4_td := Rt.sub r3 s4
  refine og_lif (by omega) g4_tc ?_
  intro M5 s5 r5
  have g5_td := Rt.sub g4_td s5
  have g5_lb := Rt.sub r4 s5
  refine og_lif (by omega) g5_td ?_
  intro M6 s6 r6
  have g6_lb := Rt.sub g5_lb s6
  have g6_lc := Rt.sub r5 s6
  refine og_vol (by omega) g6_lb g6_lc r6 ?_
  intro M7 s7 r7
  exact k _ ((((((s1.trans s2).trans s3).trans s4).trans s5).trans s6).trans s7) r7

theorem og_sam {a b : Tr} (hs : s + 10 ≤ 128) (h_a : Rt M a) (h_b : Rt M b)
    (k : ∀ M', Sub M M' → Rs M' (s + 9) → okG n M' l) : okG n M (samL s a b ++ l) := by
  unfold samL
  simp only [List.append_assoc]
  refine og_way (by omega) h_a h_b ?_
  intro M1 s1 r1
  refine og_prodS (by omega) r1.1 r1.1 r1.2.1 r1.2.1 ?_
  intro M2 s2 r2
  exact k _ (s1.trans s2) r2

theorem Rt.lt {t : Tr} (h : Rt M t) : t.x < 128 ∧ t.y < 128 ∧ t.w < 128 := ⟨h.1.1, h.2.1.1, h.2.2.1⟩
theorem og_kp3 {m : Tr} {f k : Nat} (hk : k < 16) (hm' : Rt M m) (hf : Rs M f) (kk : ∀ M', Sub M M' → Rt M' (hm k) → okG n M' l) : okG n M (kp3 f m k ++ l) := by
  refine og_mul (by omega) hm'.1 hf ?_
  intro M1 s1 r1
  refine og_mul (by omega) (hm'.2.1.sub s1) (hf.sub s1) ?_
  intro M2 s2 r2
  refine og_mul (by omega) ((hm'.2.2.sub s1).sub s2) ((hf.sub s1).sub s2) ?_
  intro M3 s3 r3
  exact kk _ ((s1.trans s2).trans s3) ⟨(r1.sub s2).sub s3, r2.sub s3, r3⟩
theorem og_kpP {m : Tr} {f k : Nat} (hs : f < 128) (hk : k < 16) (hm' : Rt M m) (kk : ∀ M', Sub M M' → Rt M' (hm k) → okG n M' l) : okG n M (kpP f m k ++ l) := by
  refine og_sgn hs hm'.2.2 ?_
  intro M1 s1 r1
  exact og_kp3 hk (hm'.sub s1) r1 (fun M2 s2 r2 => kk _ (s1.trans s2) r2)
theorem og_kpL {m : Tr} {f k : Nat} (hs : f < 128) (hk : k < 16) (hm' : Rt M m) (kk : ∀ M', Sub M M' → Rt M' (hm k) → okG n M' l) : okG n M (kpL f m k ++ l) := by
  refine og_con hs (by omega) ?_
  intro M1 s1 r1
  exact og_kp3 hk (hm'.sub s1) r1 (fun M2 s2 r2 => kk _ (s1.trans s2) r2)
/-- The homes of what has been given are set. -/
def Homes (C : List Cmd) (M : Nat → Bool) : Prop := ∀ j (h : j < C.length), srt C[j] ≠ 63 → Rt M (hm j)
theorem Homes.P {C : List Cmd} (h : Homes C M) {j : Nat} (hj : isP C j) : Rt M (hm j) := h j hj.1 (by rw [hj.2]; omega)
theorem Homes.L {C : List Cmd} (h : Homes C M) {j : Nat} (hj : isLn C j) : Rt M (hm j) := h j hj.1 (by rw [hj.2]; omega)
theorem Homes.next {C : List Cmd} {c : Cmd} {M' : Nat → Bool} (h : Homes C M) (k : Sub M M') (hc : srt c ≠ 63 → Rt M' (hm C.length)) : Homes (C ++ [c]) M' := by
  intro j hj hs
  by_cases hl : j < C.length
  · rw [List.getElem_append_left hl] at hs; exact (h j hl hs).sub k
  · have : j = C.length := by simp at hj; omega
    subst this
    exact hc (by simpa using hs)

theorem og_cmd {C : List Cmd} {i : Nat} (c : Cmd) (hk : C.length < 16) (hn : n ≤ 32) (hi : i + insC c ≤ n) (h : Homes C M) (hok : okC C c) (kk : ∀ M', Sub M M' → (srt c ≠ 63 → Rt M' (hm C.length)) → okG n M' l) : okG n M (cmdL C.length i c ++ l) := by
  cases c using Cmd.el with
  | pt =>
    have hi2 : i + 2 ≤ n := hi
    refine og_in (by omega) (by omega) hn ?_
    intro M1 s1 r1
    refine og_in (by omega) (by omega) hn ?_
    intro M2 s2 r2
    refine og_con (by omega) (by omega) ?_
    intro M3 s3 r3
    refine og_kpP (m := givenR 48) (by omega) hk ⟨(r1.sub s2).sub s3, r2.sub s3, r3⟩ ?_
    intro M4 s4 r4
    exact kk _ (((s1.trans s2).trans s3).trans s4) (fun _ => r4)
  | mid a b =>
    unfold okC at hok
    unfold cmdL
    simp only [List.append_assoc]
    refine og_mid (by omega) (h.P hok.1) (h.P hok.2) ?_
    intro M1 s1 r1
    refine og_kpP (by omega) hk r1 ?_
    intro M2 s2 r2
    exact kk _ (s1.trans s2) (fun _ => r2)
  | line a b =>
    unfold okC at hok
    unfold cmdL
    simp only [List.append_assoc, List.cons_append]
    refine og_cross (by omega) (h.P hok.1) (h.P hok.2) ?_
    intro M1 s1 r1
    refine og_prodS (by omega) r1.1 r1.1 r1.2.1 r1.2.1 ?_
    intro M2 s2 r2
    refine og_stop r2 (by omega) hk ?_
    refine og_kpL (by omega) hk (r1.sub s2) ?_
    intro M3 s3 r3
    exact kk _ ((s1.trans s2).trans s3) (fun _ => r3)
  | par a b =>
    unfold okC at hok
    unfold cmdL
    simp only [List.append_assoc]
    refine og_par (by omega) (h.P hok.1) (h.L hok.2) ?_
    intro M1 s1 r1
    refine og_kpL (by omega) hk r1 ?_
    intro M2 s2 r2
    exact kk _ (s1.trans s2) (fun _ => r2)
  | perp a b =>
    unfold okC at hok
    unfold cmdL
    simp only [List.append_assoc]
    refine og_upr (by omega) (h.P hok.1) (h.L hok.2) ?_
    intro M1 s1 r1
    refine og_kpL (by omega) hk r1 ?_
    intro M2 s2 r2
    exact kk _ (s1.trans s2) (fun _ => r2)
  | meet a b =>
    unfold okC at hok
    unfold cmdL
    simp only [List.append_assoc, List.cons_append]
    refine og_cross (by omega) (h.L hok.1) (h.L hok.2) ?_
    intro M1 s1 r1
    refine og_stop r1.2.2 (by omega) hk ?_
    refine og_kpP (by omega) hk r1 ?_
    intro M2 s2 r2
    exact kk _ (s1.trans s2) (fun _ => r2)
  | foot a b =>
    unfold okC at hok
    unfold cmdL
    simp only [List.append_assoc]
    refine og_foot (by omega) (h.P hok.1) (h.L hok.2) ?_
    intro M1 s1 r1
    refine og_kpP (by omega) hk r1 ?_
    intro M2 s2 r2
    exact kk _ (s1.trans s2) (fun _ => r2)
  | mirror a b =>
    unfold okC at hok
    unfold cmdL
    simp only [List.append_assoc]
    refine og_mir (by omega) (h.P hok.1) (h.L hok.2) ?_
    intro M1 s1 r1
    refine og_kpP (by omega) hk r1 ?_
    intro M2 s2 r2
    exact kk _ (s1.trans s2) (fun _ => r2)
  | centre a b c =>
    unfold okC at hok
    unfold cmdL
    simp only [List.append_assoc, List.cons_append]
    refine og_cen (by omega) (h.P hok.1) (h.P hok.2.1) (h.P hok.2.2) ?_
    intro M1 s1 r1
    refine og_stop r1.2.2 (by omega) hk ?_
    refine og_kpP (by omega) hk r1 ?_
    intro M2 s2 r2
    exact kk _ (s1.trans s2) (fun _ => r2)
  | same a b =>
    unfold okC at hok
    unfold cmdL
    simp only [List.append_assoc]
    refine og_sam (by omega) (h.P hok.1) (h.P hok.2) ?_
    intro M1 s1 r1
    refine og_isn (by omega) r1 ?_
    intro M2 s2 r2
    refine og_out r2 ?_
    exact kk _ (s1.trans s2) (fun hh => absurd rfl hh)
  | col a b c =>
    unfold okC at hok
    unfold cmdL
    simp only [List.append_assoc]
    refine og_vol (by omega) (h.P hok.1) (h.P hok.2.1) (h.P hok.2.2) ?_
    intro M1 s1 r1
    refine og_isn (by omega) r1 ?_
    intro M2 s2 r2
    refine og_out r2 ?_
    exact kk _ (s1.trans s2) (fun hh => absurd rfl hh)
  | ccw a b c =>
    unfold okC at hok
    unfold cmdL
    simp only [List.append_assoc]
    refine og_vol (by omega) (h.P hok.1) (h.P hok.2.1) (h.P hok.2.2) ?_
    intro M1 s1 r1
    refine og_out r1 ?_
    exact kk _ s1 (fun hh => absurd rfl hh)
  | btw a b c =>
    unfold okC at hok
    unfold cmdL
    simp only [List.append_assoc]
    refine og_btw (by omega) (h.P hok.1) (h.P hok.2.1) (h.P hok.2.2) ?_
    intro M1 s1 r1
    refine og_out r1 ?_
    exact kk _ s1 (fun hh => absurd rfl hh)
  | con a b c d =>
    unfold okC at hok
    unfold cmdL
    simp only [List.append_assoc]
    refine og_rnd (by omega) (h.P hok.1) (h.P hok.2.1) (h.P hok.2.2.1) (h.P hok.2.2.2) ?_
    intro M1 s1 r1
    refine og_isn (by omega) r1 ?_
    intro M2 s2 r2
    refine og_out r2 ?_
    exact kk _ (s1.trans s2) (fun hh => absurd rfl hh)
  | on a b =>
    unfold okC at hok
    unfold cmdL
    simp only [List.append_assoc]
    refine og_dot (by omega) (h.P hok.1) (h.L hok.2) ?_
    intro M1 s1 r1
    refine og_isn (by omega) r1 ?_
    intro M2 s2 r2
    refine og_out r2 ?_
    exact kk _ (s1.trans s2) (fun hh => absurd rfl hh)
  | cc a b c =>
    unfold okC at hok
    unfold cmdL
    simp only [List.append_assoc]
    refine og_vol (by omega) (h.L hok.1) (h.L hok.2.1) (h.L hok.2.2) ?_
    intro M1 s1 r1
    refine og_isn (by omega) r1 ?_
    intro M2 s2 r2
    refine og_out r2 ?_
    exact kk _ (s1.trans s2) (fun hh => absurd rfl hh)
  | pll a b =>
    unfold okC at hok
    unfold cmdL
    simp only [List.append_assoc]
    refine og_prodD (by omega) (h.L hok.1).1 (h.L hok.2).2.1 (h.L hok.1).2.1 (h.L hok.2).1 ?_
    intro M1 s1 r1
    refine og_isn (by omega) r1 ?_
    intro M2 s2 r2
    refine og_out r2 ?_
    exact kk _ (s1.trans s2) (fun hh => absurd rfl hh)
  | prp a b =>
    unfold okC at hok
    unfold cmdL
    simp only [List.append_assoc]
    refine og_prodS (by omega) (h.L hok.1).1 (h.L hok.2).1 (h.L hok.1).2.1 (h.L hok.2).2.1 ?_
    intro M1 s1 r1
    refine og_isn (by omega) r1 ?_
    intro M2 s2 r2
    refine og_out r2 ?_
    exact kk _ (s1.trans s2) (fun hh => absurd rfl hh)
end
theorem og_cmds {n : Nat} (hn : n ≤ 32) : ∀ (r C : List Cmd) (W : List Nat) (i : Nat) (M : Nat → Bool), Homes C M → Wf C W r → C.length + r.length ≤ 16 → i + cntI r ≤ n → okG n M (cmdsL r C.length i)
  | [], _, _, _, _, _, _, _, _ => trivial
  | c :: r, C, W, i, M, h, hw, hl, hi => by
    obtain ⟨h1, -, h3⟩ := hw
    simp only [cntI, List.map_cons, List.sum_cons] at hi
    simp only [List.length_cons] at hl
    refine og_cmd c (by omega) hn (by omega) h h1 ?_
    intro M' s' hc
    have := og_cmds hn r (C ++ [c]) _ (i + insC c) M' (h.next s' hc) h3 (by simp; omega) (by unfold cntI; omega)
    simpa using this
theorem cmdL_len (k i : Nat) (c : Cmd) : (cmdL k i c).length ≤ 70 := by cases c using Cmd.el <;> exact Nat.le_of_ble_eq_true rfl
theorem cmdsL_len : ∀ (r : List Cmd) (k i : Nat), (cmdsL r k i).length ≤ 70 * r.length
  | [], _, _ => Nat.le_refl _
  | c :: r, k, i => by
    have h1 := cmdL_len k i c
    have h2 := cmdsL_len r (k + 1) (i + insC c)
    simp only [cmdsL, List.length_append, List.length_cons]
    omega
/-- What is made of the statements of a right source. -/
structure Made (l : List St) : Prop where
  len : (cmdsL (cmds l) 0 0).length ≤ 1120
  ok : okG (cntI (cmds l)) (fun _ => false) (cmdsL (cmds l) 0 0)
  n32 : cntI (cmds l) ≤ 32
theorem cntI_le : ∀ r : List Cmd, cntI r ≤ 2 * r.length
  | [] => Nat.le_refl _
  | c :: r => by
    have h1 : insC c ≤ 2 := by cases c using Cmd.el <;> exact Nat.le_of_ble_eq_true rfl
    have h2 := cntI_le r
    simp only [cntI, List.map_cons, List.sum_cons, List.length_cons] at *
    omega
theorem made_any {p : List (St × Nat)} (h : Ok p) (hl : p.length ≤ 16) : Made (sts p) := by
  have e := cmds_len (p := p)
  have h32 : cntI (cmds (sts p)) ≤ 32 := by have := cntI_le (cmds (sts p)); omega
  refine ⟨by have := cmdsL_len (cmds (sts p)) 0 0; omega, ?_, h32⟩
  exact og_cmds h32 (cmds (sts p)) [] [] 0 _ (fun j hj => by simp at hj) (wf_cmds h) (by simp; omega) (by omega)
end Go.Proofs.YtmnfndpbblpjiabGreatDoor.Pu

/- The program's differences of limbs; the limbs of a number of one word. -/
import Derived.Deep.RegionHeld3
import Derived.Test.YtmnfndpbblpjiaaGreatDoorZa29
import Derived.Test.YtmnfndpbblpjiaaGreatDoorZa19
import Derived.Test.YtmnfndpbblpjiaaGreatDoorZa15
namespace Go.Proofs.YtmnfndpbblpjiaaGreatDoor
open Go.RowKit Pu
set_option maxHeartbeats 1600000 in
set_option maxRecDepth 4000 in
theorem diff_any (av bv : Value) (a b : List Nat) (abase bbase : Nat) (w : World) (hA : w.ownsRow abase 207 1 av a.length (uvs a)) (hB : w.ownsRow bbase 207 1 bv b.length (uvs b)) (da : D9 a) (db : D9 b) (hle : v9 b ≤ v9 a) (hlen : b.length ≤ a.length) (la : a.length ≤ 50000) :
    Calls Tryz.prog 203 #[av, bv] w (LimEnd w (v9 a - v9 b) a.length) := by
  obtain ⟨i0, hii, hz0, hz1, hz2⟩ := info_parts Tryz.infoU
  have HE : Hid (v9 (difTo a b a.length).1 = v9 a - v9 b) := dif_end da db hlen hle
  have HD9 : Hid (D9 (difTo a b a.length).1) := difTo_d9 a b _
  have HBR : Hid (∀ k, (difTo a b k).2 ≤ 1) := difTo_br a b
  have HDL : Hid (∀ k, (difTo a b k).1.length = a.length) := difTo_len a b
  have HDA : Hid (D9 a) := da
  have HDB : Hid (D9 b) := db
  generalize v9 a - v9 b = tot at *
  clear da db hle hlen
  obtain ⟨ao, acap, rfl, -⟩ := owns_form hA
  obtain ⟨bo, bcap, rfl, -⟩ := owns_form hB
  go_enter Tryz.func203, Tryz.ntmps203
  go_wp2_with (at_make; refine wpList_make_full _ rfl _ _ 157 rfl w.heap.size 207 i0 (.int .u64 0) 1 Tryz.underlying157 hii hz0 hz1 _ _ _ _ a.length rfl rfl (by omega) (by omega) (by rw [hz2]; omega) (by unfold maxLen; omega) (by simp) ?_)
  intro W hown0 hgrow0
  have hm0 := (Mod.refl (fun _ => False) w).grown hgrow0 (fun k hk _ => by cases hk)
  have hown1 : W.ownsRow w.heap.size 207 1 (.slice (some ⟨w.heap.size, 0, none⟩) a.length a.length) a.length (uvs (difTo a b 0).1) := by
    show W.ownsRow w.heap.size 207 1 (.slice (some ⟨w.heap.size, 0, none⟩) a.length a.length) a.length (uvs (List.replicate a.length 0))
    rw [← made_u]; simpa using hown0
  clear hgrow0 hown0
  have hwl : w.heap.size < W.heap.size := own_lt hown1 rfl
  have hmA : Mod (fun _ => False) W (W.alloc (.cells #[.slice (some ⟨w.heap.size, 0, none⟩) a.length a.length] 240)) := (Mod.refl _ W).alloc _
  have hT1 := tl_new W (.slice (some ⟨w.heap.size, 0, none⟩) a.length a.length)
  have HH : Hid _ := And.intro (owns_mod hown1 hmA (fun _ _ f => f)) (And.intro hT1 (hm0.trans hmA))
  clear hown1 hT1 hmA hm0
  go_wp2_with fail
  generalize W.alloc (.cells #[.slice (some ⟨w.heap.size, 0, none⟩) a.length a.length] 240) = W1 at *
  go_loopw [6, 15] (fun ov kv wr => ∃ k : Nat, k ≤ a.length ∧ kv = .int .i64 k ∧ ov = .int .u64 ((difTo a b k).2 : Int) ∧ wr.ownsRow w.heap.size 207 1 (.slice (some ⟨w.heap.size, 0, none⟩) a.length a.length) a.length (uvs (difTo a b k).1) ∧ Tl wr W.heap.size (.slice (some ⟨w.heap.size, 0, none⟩) a.length a.length) ∧ Mod (fun _ => False) w wr) (fun _ kv _ => a.length - (intOf kv).toNat)
  case atStart => exact ⟨0, by omega, rfl, rfl, HH.out.1, HH.out.2.1, HH.out.2.2⟩
  case round =>
    clear HH
    obtain ⟨k, hk, rfl, rfl, hO, hT, hm⟩ := hrel
    have t0 := hT.c0
    by_cases hlt : k < a.length
    · have hAr := owns_mod hA hm (fun _ _ f => f)
      have hBr := owns_mod hB hm (fun _ _ f => f)
      obtain ⟨ga, rfl, ca⟩ := uvs_cell hAr rfl hlt
      have hdk : k < (difTo a b k).1.length := by rw [HDL.out]; exact hlt
      obtain ⟨g2, hg2, cd⟩ := uvs_cell hO (HDL.out k).symm hdk
      injection hg2 with hg2
      injection hg2 with hg2
      subst hg2
      have hfz := hO.frozenAt k
      have hak : a[k] < 1000000000 := HDA.out _ (List.getElem_mem hlt)
      have hbk : b[k]?.getD 0 < 1000000000 := getD_lt HDB.out k
      have hbr := HBR.out k
      have hst : (wr.setCell ⟨w.heap.size, k, none⟩ (.int .u64 ((rest a b k (difTo a b k).2 % 1000000000 : Nat) : Int))).ownsRow w.heap.size 207 1 (.slice (some ⟨w.heap.size, 0, none⟩) a.length a.length) a.length (uvs (difTo a b (k + 1)).1) := by
        show World.ownsRow _ _ _ _ _ _ (uvs ((difTo a b k).1.set k (rest a b k (difTo a b k).2 % 1000000000)))
        rw [← uvs_set]; exact (hO.stored k _).1
      have hmq : Mod (fun q => q = w.heap.size) wr (wr.setCell ⟨w.heap.size, k, none⟩ (.int .u64 ((rest a b k (difTo a b k).2 % 1000000000 : Nat) : Int))) := (Mod.refl _ wr).setCell ⟨w.heap.size, k, none⟩ _ (fun _ => rfl)
      have hm2 : Mod (fun _ => False) w (wr.setCell ⟨w.heap.size, k, none⟩ (.int .u64 ((rest a b k (difTo a b k).2 % 1000000000 : Nat) : Int))) := hm.setCell ⟨w.heap.size, k, none⟩ _ (fun h => absurd h (Nat.lt_irrefl _))
      have hT2 : Tl (wr.setCell ⟨w.heap.size, k, none⟩ (.int .u64 ((rest a b k (difTo a b k).2 % 1000000000 : Nat) : Int))) W.heap.size (.slice (some ⟨w.heap.size, 0, none⟩) a.length a.length) := hT.keep hmq (by omega)
      have HN2 : Hid ((difTo a b (k + 1)).2 = 1 - rest a b k (difTo a b k).2 / 1000000000) := rfl
      have HST : Hid _ := And.intro hst (And.intro hT2 hm2)
      have HRS : Hid (rest a b k (difTo a b k).2 = 1000000000 + a[k] - (difTo a b k).2 - b[k]?.getD 0) := show _ = _ by simp [rest, hlt]
      clear hst hm2 hT2 hmq hAr
      generalize rest a b k (difTo a b k).2 = rs at *
      by_cases hkb : k < b.length
      · obtain ⟨gb, rfl, cb⟩ := uvs_cell hBr rfl hkb
        have HG : Hid (b[k]?.getD 0 = b[k]) := show _ = _ by simp [hkb]
        rw [HG.out] at HRS hbk
        clear hBr HG
        generalize a[k] = x at *
        generalize b[k] = y at *
        generalize (difTo a b k).2 = br at *
        have hrs : rs = 1000000000 + x - br - y := HRS.out
        have w1 : IntKind.u64.wrap ((1000000000 : Int) + (x : Int)) = (1000000000 : Int) + (x : Int) := wrap_u64 (by omega) (by omega)
        have w2 : IntKind.u64.wrap ((1000000000 : Int) + (x : Int) - (br : Int)) = (1000000000 : Int) + (x : Int) - (br : Int) := wrap_u64 (by omega) (by omega)
        have w3 : IntKind.u64.wrap ((1000000000 : Int) + (x : Int) - (br : Int) - (y : Int)) = (rs : Int) := by rw [wrap_u64 (by omega) (by omega)]; omega
        have w4 : IntKind.u64.wrap ((1 : Int) - (rs : Int) / 1000000000) = (1 : Int) - (rs : Int) / 1000000000 := wrap_u64 (by omega) (by omega)
        have hrl : rs < 2000000000 := by omega
        clear hrs HRS
        go_wp2_with fail
        go_roundw
        case rel =>
          have h2 := HST.out
          exact ⟨k + 1, by omega, by go_num, by rw [HN2.out]; congr 1; omega, h2.1, h2.2.1, h2.2.2⟩
        case measure => simp [intOf]; omega
      · have HG : Hid (b[k]?.getD 0 = 0) := show _ = _ by simp [hkb]
        rw [HG.out] at HRS hbk
        clear hBr HG
        generalize a[k] = x at *
        generalize (difTo a b k).2 = br at *
        have hrs : rs = 1000000000 + x - br := by have := HRS.out; omega
        have w1 : IntKind.u64.wrap ((1000000000 : Int) + (x : Int)) = (1000000000 : Int) + (x : Int) := wrap_u64 (by omega) (by omega)
        have w2 : IntKind.u64.wrap ((1000000000 : Int) + (x : Int) - (br : Int)) = (rs : Int) := by rw [wrap_u64 (by omega) (by omega)]; omega
        have w4 : IntKind.u64.wrap ((1 : Int) - (rs : Int) / 1000000000) = (1 : Int) - (rs : Int) / 1000000000 := wrap_u64 (by omega) (by omega)
        have hrl : rs < 2000000000 := by omega
        clear hrs HRS
        go_wp2_with fail
        go_roundw
        case rel =>
          have h2 := HST.out
          exact ⟨k + 1, by omega, by go_num, by rw [HN2.out]; congr 1; omega, h2.1, h2.2.1, h2.2.2⟩
        case measure => simp [intOf]; omega
    · have hks : k = a.length := by omega
      subst hks
      have r4 := done_end hT hO (HDL.out _) (by omega) HD9.out HE.out hm
      clear hO hT t0 hm
      go_wp2_with fail
      refine r4.mono ?_
      rintro e W5 ⟨hm5, v5, l5, rfl, hE⟩
      have HE5 : Hid _ := hE
      clear hE
      go_wp2_with fail
      go_ret
      exact ⟨hm5, v5, l5, rfl, HE5.out⟩
set_option maxHeartbeats 800000 in
set_option maxRecDepth 4000 in
theorem limbs_any (n : Nat) (w : World) (hn : n ≤ 1000000) : Calls Tryz.prog 195 #[.int .u64 n] w (LimEnd w n 3) := by
  have hO0 : (w.alloc (.cells #[.int .u64 n, .int .u64 0, .int .u64 0] 207)).ownsRow w.heap.size 207 1 (.slice (some ⟨w.heap.size, 0, none⟩) 3 3) 3 (uvs [n, 0, 0]) :=
    ⟨by simp [uvs], .inr ⟨w.heap.size, 3, #[.int .u64 n, .int .u64 0, .int .u64 0], rfl, Nat.le_refl _, heap_alloc_new w _, Nat.le_refl _, by unfold maxLen; omega, by simp, by simp [uvs]⟩⟩
  have hT := tl_new (w.alloc (.cells #[.int .u64 n, .int .u64 0, .int .u64 0] 207)) (.slice (some ⟨w.heap.size, 0, none⟩) 3 3)
  have hmA : Mod (fun _ => False) (w.alloc (.cells #[.int .u64 n, .int .u64 0, .int .u64 0] 207)) ((w.alloc (.cells #[.int .u64 n, .int .u64 0, .int .u64 0] 207)).alloc (.cells #[.slice (some ⟨w.heap.size, 0, none⟩) 3 3] 240)) := (Mod.refl _ _).alloc _
  have hm1 : Mod (fun _ => False) w ((w.alloc (.cells #[.int .u64 n, .int .u64 0, .int .u64 0] 207)).alloc (.cells #[.slice (some ⟨w.heap.size, 0, none⟩) 3 3] 240)) := ((Mod.refl _ w).alloc _).trans hmA
  have hO1 := owns_mod hO0 hmA (fun _ _ f => f)
  simp only [World.size_alloc] at hT
  have HH : Hid _ := And.intro hO1 (And.intro hT hm1)
  clear hO0 hT hmA hm1 hO1
  go_enter Tryz.func195, Tryz.ntmps195
  go_wp2_with fail
  generalize (w.alloc (.cells #[.int .u64 n, .int .u64 0, .int .u64 0] 207)).alloc (.cells #[.slice (some ⟨w.heap.size, 0, none⟩) 3 3] 240) = W1 at *
  obtain ⟨hO1, hT1, hm1⟩ := HH.out
  clear HH
  have hb : Bd [n, 0, 0] 1000000 := fun x hx => by simp at hx; omega
  have r3 := carry_any (w.heap.size + 1) w.heap.size 3 [n, 0, 0] 1000000 w.heap.size W1 hT1 hO1 (by omega) (by simp) hb (by omega)
  have hce := car_end (L := [n, 0, 0]) (k := 3) rfl (by simp [v9]; omega)
  have hl4 : (carTo [n, 0, 0] 3).1.length = 3 := by rw [carTo_len]; rfl
  have hv0 : v9 [n, 0, 0] = n := by simp [v9]
  rw [hv0] at hce
  have r3' : Calls Tryz.prog 199 #[.pointer (some ⟨w.heap.size + 1, 0, none⟩)] W1 fun e w' => e = .returned (.tuple #[]) ∧ Mod (fun q => q = w.heap.size) W1 w' ∧ w'.ownsRow w.heap.size 207 1 (.slice (some ⟨w.heap.size, 0, none⟩) 3 3) 3 (uvs (carTo [n, 0, 0] 3).1) := r3
  clear r3 hv0 hb
  generalize (carTo [n, 0, 0] 3).1 = L4 at *
  refine r3'.mono ?_
  rintro e W4 ⟨rfl, hm4, hO4⟩
  have hm4' : Mod (fun _ => False) w W4 := ((hm1.mono (q := fun q => q = w.heap.size) (fun _ _ f => f.elim)).trans hm4).mono (fun q hq h => by omega)
  have hT4 : Tl W4 (w.heap.size + 1) (.slice (some ⟨w.heap.size, 0, none⟩) 3 3) := hT1.keep hm4 (by omega)
  have r4 := done_end hT4 hO4 hl4 (by omega) hce.1 hce.2 hm4'
  clear hce hl4 r3' hO1 hT1 hm1 hm4 hm4' hT4 hO4
  go_wp2_with fail
  refine r4.mono ?_
  rintro e W5 ⟨hm5, v5, l5, rfl, hE⟩
  have HE5 : Hid _ := hE
  clear hE
  go_wp2_with fail
  go_ret
  exact ⟨hm5, v5, l5, rfl, HE5.out⟩
end Go.Proofs.YtmnfndpbblpjiaaGreatDoor

/- The program's numbers: made of a sign and limbs, of an int; their sign, how many digits. -/
namespace Go.Proofs.YtmnfndpbblpjiaaGreatDoor
open Go.RowKit Pu
abbrev n9 (nb : Bool) (v : Value) : Value := .agg #[.bool nb, v]
def N9 (w : World) (nb : Bool) (v : Value) (l : List Nat) : Prop := C9 nb l ∧ w.ownsRow 0 207 1 v l.length (uvs l)
theorem N9.mod {w w' : World} {nb : Bool} {v : Value} {l : List Nat} (h : N9 w nb v l) (hm : Mod (fun _ => False) w w') : N9 w' nb v l := ⟨h.1, owns_mod h.2 hm (fun _ _ f => f)⟩
def N9E (w : World) (x : Int) (n : Nat) (e : Ending) (w' : World) : Prop := Mod (fun _ => False) w w' ∧ ∃ nb v l, e = .returned (n9 nb v) ∧ N9 w' nb v l ∧ num9 nb l = x ∧ l.length ≤ n
theorem own_apart {w w' : World} {rb base n : Nat} {u : Value} {xs : List Value} {t : TypeId} (h : w.ownsRow base 207 1 u n xs) (hm : Mod (fun q => q = rb) w w') {C : Array Value} (hb : w.heap[rb]? = some (.cells C t (0, 0))) (ht : t ≠ 207) : w'.ownsRow base 207 1 u n xs := by
  refine owns_mod' h hm (fun g h1 h2 => ?_)
  subst h2
  obtain ⟨_, ⟨rfl, _⟩ | ⟨g', cap, cur, rfl, _, hg, _⟩⟩ := h
  · simp [Value.ownBlock] at h1
  · simp [Value.ownBlock] at h1
    subst h1
    rw [hb] at hg
    simp at hg
    exact ht hg.2
theorem n9_end {w wX : World} {b base n : Nat} {o1 o2 : Value} {nb : Bool} {v : Value} {l : List Nat} {x : Int} (hb : wX.heap[b]? = some (.cells #[o1, o2] 159 (0, 0))) (hw : w.heap.size ≤ b) (hm : Mod (fun _ => False) w wX) (hO : wX.ownsRow base 207 1 v l.length (uvs l)) (hc : C9 nb l) (hx : num9 nb l = x) (hn : l.length ≤ n) :
    N9E w x n (.returned (n9 nb v)) (set2at wX b 0 (.bool nb) v) ∧ (set2at wX b 0 (.bool nb) v).cell? ⟨b, 0, none⟩ = some (.bool nb) ∧ (set2at wX b 0 (.bool nb) v).cell? ⟨b, 1, none⟩ = some v := by
  refine ⟨⟨set2at_new hm b 0 _ _ hw, nb, v, l, rfl, ⟨hc, own_apart (owns_base hO (Nat.zero_le _)) (set2at_own wX b 0 (.bool nb) v) hb (by decide)⟩, hx, hn⟩, ?_, ?_⟩
  · rw [set2at_cell hb]; simp
  · rw [set2at_cell hb]; simp
theorem c2_of {w : World} {b : Nat} {x y : Value} {ty : TypeId} (h : w.heap[b]? = some (.cells #[x, y] ty (0, 0))) : w.cell? ⟨b, 0, none⟩ = some x ∧ w.cell? ⟨b, 1, none⟩ = some y := by simp [World.cell?, h]
theorem Pu.C9.nil : C9 false [] := ⟨fun _ h => by simp at h, fun _ h => by simp at h, fun _ => rfl⟩
set_option maxHeartbeats 800000 in
theorem signed_any (nb : Bool) (v : Value) (l : List Nat) (base : Nat) (w : World) (hO : w.ownsRow base 207 1 v l.length (uvs l)) (hd : D9 l) (ht : T9 l) (hl : l.length ≤ 100000) :
    Calls Tryz.prog 197 #[.bool nb, v] w (N9E w (num9 nb l) l.length) := by
  obtain ⟨ao, cap, rfl, -⟩ := owns_form hO
  by_cases h0 : l.length = 0
  · have hl0 : l = [] := List.eq_nil_of_length_eq_zero h0
    have hb : ((l.length : Int) == 0) = true := beq_t (m := 0) h0
    have HE : Hid (N9E w (num9 nb l) l.length (.returned (n9 false (.slice none 0 0))) (w.alloc (.cells #[.bool false, .slice none 0 0] 159))) :=
      ⟨(Mod.refl _ w).alloc _, false, .slice none 0 0, [], rfl, ⟨C9.nil, World.ownsRow_nil _ _ _ _⟩, by subst hl0; cases nb <;> simp [num9, v9], Nat.zero_le _⟩
    clear hl0 h0
    go_enter Tryz.func197, Tryz.ntmps197
    go_wp2_with fail
    exact bodyPost_ret (v := n9 false (.slice none 0 0)) (by simp [results, Tryz.results197, go_sem]) rfl HE.out
  · have hb : ((l.length : Int) == 0) = false := beq_f (m := 0) h0
    have HE : Hid (N9E w (num9 nb l) l.length (.returned (n9 nb (.slice ao l.length cap))) (w.alloc (.cells #[.bool nb, .slice ao l.length cap] 159))) :=
      ⟨(Mod.refl _ w).alloc _, nb, .slice ao l.length cap, l, rfl, ⟨⟨hd, ht, fun e => absurd (by rw [e]; rfl) h0⟩, owns_base (owns_mod hO ((Mod.refl (fun _ => False) w).alloc _) (fun _ _ f => f)) (Nat.zero_le _)⟩, rfl, Nat.le_refl _⟩
    clear h0
    go_enter Tryz.func197, Tryz.ntmps197
    go_wp2_with fail
    exact bodyPost_ret (v := n9 nb (.slice ao l.length cap)) (by simp [results, Tryz.results197, go_sem]) rfl HE.out
set_option maxHeartbeats 800000 in
theorem sign9_any (nb : Bool) (v : Value) (l : List Nat) (w : World) (hN : N9 w nb v l) (hl : l.length ≤ 100000) : Calls Tryz.prog 160 #[n9 nb v] w fun e w' => e = .returned (.int .i64 (sgn (num9 nb l))) ∧ Mod (fun _ => False) w w' := by
  obtain ⟨ao, cap, rfl, -⟩ := owns_form hN.2
  have hmA : Mod (fun _ => False) w (w.alloc (.cells #[.bool nb, .slice ao l.length cap] 159)) := (Mod.refl _ w).alloc _
  by_cases h0 : l.length = 0
  · have hl0 : l = [] := List.eq_nil_of_length_eq_zero h0
    have hb : ((l.length : Int) == 0) = true := beq_t (m := 0) h0
    have HE : Hid (sgn (num9 nb l) = 0) := show _ = _ by subst hl0; cases nb <;> simp [num9, v9, sgn]
    clear hl0 h0
    go_enter Tryz.func160, Tryz.ntmps160
    go_wp2_with fail
    go_ret
    exact ⟨by rw [HE.out]; rfl, hmA⟩
  · have hb : ((l.length : Int) == 0) = false := beq_f (m := 0) h0
    have hp : 0 < v9 l := Nat.pos_of_ne_zero fun e => h0 (by rw [v9_nil hN.1.2.1 e]; rfl)
    clear h0
    cases nb
    · have HE : Hid (sgn (num9 false l) = 1) := show _ = _ by unfold sgn num9; simp; omega
      go_enter Tryz.func160, Tryz.ntmps160
      go_wp2_with fail
      go_ret
      exact ⟨by rw [HE.out]; rfl, hmA⟩
    · have HE : Hid (sgn (num9 true l) = -1) := show _ = _ by unfold sgn num9; simp; omega
      go_enter Tryz.func160, Tryz.ntmps160
      go_wp2_with fail
      go_ret
      exact ⟨by rw [HE.out]; rfl, hmA⟩
set_option maxHeartbeats 800000 in
theorem fromint_any (x : Int) (w : World) (h1 : -1000000 < x) (h2 : x < 1000000) : Calls Tryz.prog 189 #[.int .i64 x] w (N9E w x 3) := by
  have hR0 := heap_alloc_new w (.cells #[.bool false, .slice none 0 0] 159)
  have hm0 : Mod (fun _ => False) w (w.alloc (.cells #[.bool false, .slice none 0 0] 159)) := (Mod.refl _ w).alloc _
  have HH : Hid _ := And.intro hR0 hm0
  clear hR0 hm0
  by_cases hx : x < 0
  · obtain ⟨n, rfl⟩ : ∃ n : Nat, x = -(n : Int) := ⟨x.natAbs, by omega⟩
    have hn : n ≤ 1000000 := by omega
    have hn0 : 0 < n := by omega
    have w1 : IntKind.i64.wrap (-(n : Int) + 1) = -(n : Int) + 1 := by simp [IntKind.wrap, IntKind.signed, IntKind.bits]; omega
    have w2 : IntKind.i64.wrap (-(-(n : Int) + 1)) = (n : Int) - 1 := by simp [IntKind.wrap, IntKind.signed, IntKind.bits]; omega
    have w3 : IntKind.u64.wrap ((n : Int) - 1) = (n : Int) - 1 := wrap_u64 (by omega) (by omega)
    have w4 : IntKind.u64.wrap ((n : Int) - 1 + 1) = (n : Int) := by rw [wrap_u64 (by omega) (by omega)]; omega
    have w5 : IntKind.u64.wrap (n : Int) = (n : Int) := wrap_u64 (by omega) (by omega)
    go_enter Tryz.func189, Tryz.ntmps189
    go_wp2_with fail
    obtain ⟨hR0, hm0⟩ := HH.out
    generalize w.alloc (.cells #[.bool false, .slice none 0 0] 159) = W at *
    refine (limbs_any n W hn).mono ?_
    rintro e w2 ⟨hm2, v2, l2, rfl, hO2, hd2, ht2, hv2, hl2⟩
    have hR2 := hm2.keep hR0 (fun f => f)
    obtain ⟨r0, r1⟩ := c2_of hR2
    have f0 := fz3 hR2 0
    have f1 := fz3 hR2 1
    obtain ⟨vo, vcap, rfl, -⟩ := owns_form hO2
    have HE : Hid _ := n9_end (x := -(n : Int)) hR2 (Nat.le_refl _) (hm0.trans hm2) hO2 (nb := true) ⟨hd2, ht2, fun e => by rw [e] at hv2; simp [v9] at hv2; omega⟩ (show num9 true l2 = _ by simp [num9, hv2]) hl2
    clear hR2 hm2 hO2 hd2 ht2 hv2 HH hR0 hm0
    go_wp2_with fail
    obtain ⟨k1, q0, q1⟩ := HE.out
    unfold set2at at q0 q1
    exact bodyPost_ret (by simp [results, Tryz.results189, go_sem, q0, q1]) rfl k1
  · obtain ⟨n, rfl⟩ : ∃ n : Nat, x = (n : Int) := ⟨x.toNat, by omega⟩
    have hn : n ≤ 1000000 := by omega
    have w5 : IntKind.u64.wrap (n : Int) = (n : Int) := wrap_u64 (by omega) (by omega)
    have hx2 : ¬ (n : Int) < 0 := by omega
    go_enter Tryz.func189, Tryz.ntmps189
    go_wp2_with fail
    obtain ⟨hR0, hm0⟩ := HH.out
    generalize w.alloc (.cells #[.bool false, .slice none 0 0] 159) = W at *
    refine (limbs_any n W hn).mono ?_
    rintro e w2 ⟨hm2, v2, l2, rfl, hO2, hd2, ht2, hv2, hl2⟩
    have hR2 := hm2.keep hR0 (fun f => f)
    obtain ⟨r0, r1⟩ := c2_of hR2
    have f0 := fz3 hR2 0
    have f1 := fz3 hR2 1
    obtain ⟨vo, vcap, rfl, -⟩ := owns_form hO2
    have HE : Hid _ := n9_end (x := (n : Int)) hR2 (Nat.le_refl _) (hm0.trans hm2) hO2 (nb := false) ⟨hd2, ht2, fun _ => rfl⟩ (show num9 false l2 = _ by simp [num9, hv2]) hl2
    clear hR2 hm2 hO2 hd2 ht2 hv2 HH hR0 hm0
    go_wp2_with fail
    obtain ⟨k1, q0, q1⟩ := HE.out
    unfold set2at at q0 q1
    exact bodyPost_ret (by simp [results, Tryz.results189, go_sem, q0, q1]) rfl k1
end Go.Proofs.YtmnfndpbblpjiaaGreatDoor

/- How many decimal digits a number of the program's has. -/
namespace Go.Proofs.YtmnfndpbblpjiaaGreatDoor
open Go.RowKit Pu
theorem Pu.pow9 (m : Nat) : 1000000000 ^ m = 10 ^ (9 * m) := by rw [show (1000000000 : Nat) = 10 ^ 9 from rfl, ← Nat.pow_mul]
theorem Pu.digits_iff {l b : List Nat} {t j n : Nat} (hl : l = b ++ [t]) (hd : D9 l) (hj : j = 0 ∨ 10 ^ (j - 1) ≤ t) (hj2 : t < 10 ^ j) (ht : t ≠ 0) : n < 9 * b.length + j ↔ 10 ^ n ≤ v9 l := by
  subst hl
  have hb : D9 b := fun d h => hd d (List.mem_append_left _ h)
  have h1 := v9_lt hb
  rw [v9_append]
  simp only [v9, Nat.mul_zero, Nat.add_zero]
  rw [pow9] at *
  have hj0 : j ≠ 0 := by intro e; subst e; simp at hj2; omega
  have hlow : 10 ^ (j - 1) ≤ t := by rcases hj with h | h; (· omega); exact h
  constructor
  · intro hn
    have a1 : 10 ^ (9 * b.length) * 10 ^ (j - 1) ≤ 10 ^ (9 * b.length) * t := Nat.mul_le_mul_left _ hlow
    rw [← Nat.pow_add] at a1
    have a2 : 10 ^ n ≤ 10 ^ (9 * b.length + (j - 1)) := Nat.pow_le_pow_right (by omega) (by omega)
    omega
  · intro hv
    by_cases hn : n < 9 * b.length + j
    · exact hn
    · exfalso
      have a1 : 10 ^ (9 * b.length) * (t + 1) ≤ 10 ^ (9 * b.length) * 10 ^ j := Nat.mul_le_mul_left _ hj2
      rw [← Nat.pow_add, Nat.mul_add] at a1
      have a2 : 10 ^ (9 * b.length + j) ≤ 10 ^ n := Nat.pow_le_pow_right (by omega) (by omega)
      omega
set_option maxHeartbeats 800000 in
set_option maxRecDepth 4000 in
theorem digits_any (nb : Bool) (v : Value) (l : List Nat) (w : World) (hN : N9 w nb v l) (hl : l.length ≤ 50000) : Calls Tryz.prog 182 #[n9 nb v] w fun e w' => (∃ d : Nat, e = .returned (.int .i64 (d : Int)) ∧ d ≤ 1000000 ∧ ∀ n, 1 ≤ n → (n < d ↔ 10 ^ n ≤ v9 l)) ∧ Mod (fun _ => False) w w' := by
  obtain ⟨hd, ht, -⟩ := hN.1
  obtain ⟨ao, cap, rfl, -⟩ := owns_form hN.2
  have hO := hN.2
  have hm0 : Mod (fun _ => False) w (w.alloc (.cells #[.bool nb, .slice ao l.length cap] 159)) := (Mod.refl _ w).alloc _
  have hO0 := owns_mod hO hm0 (fun _ _ f => f)
  clear hN hO
  by_cases h0 : l = []
  · have HR : Hid (∀ n, 1 ≤ n → (n < 1 ↔ 10 ^ n ≤ v9 l)) := fun n hn => by
      have : 0 < 10 ^ n := Nat.pow_pos (by omega)
      rw [h0]; simp [v9]; omega
    have hb : ((l.length : Int) == 0) = true := by subst h0; rfl
    have hlz : l.length = 0 := by rw [h0]; rfl
    have HLZ : l.length ≤ 0 := by omega
    clear h0 hlz
    go_enter Tryz.func182, Tryz.ntmps182
    go_wp2_with fail
    go_ret
    exact ⟨⟨1, rfl, by omega, HR.out⟩, hm0⟩
  · obtain ⟨b, t, hbt⟩ : ∃ b t, l = b ++ [t] := ⟨l.dropLast, l.getLast h0, (List.dropLast_concat_getLast h0).symm⟩
    have HBT : Hid (l = b ++ [t]) := hbt
    have hlb : l.length = b.length + 1 := by rw [hbt]; simp
    have ht0 : t ≠ 0 := ht t (by rw [hbt]; simp)
    have ht9 : t < 1000000000 := hd t (by rw [hbt]; simp)
    have hb : ((l.length : Int) == 0) = false := by rw [beq_eq_false_iff_ne]; omega
    have hkl : b.length < l.length := by omega
    obtain ⟨gb, rfl, ct0⟩ := uvs_cell hO0 rfl hkl
    have hlt' : l[b.length] = t := by
      have : l[b.length]? = some t := by rw [hbt]; simp
      rw [List.getElem?_eq_getElem hkl] at this
      injection this
    rw [hlt'] at ct0
    clear hbt hlt' hO0
    have HV : Hid (∀ (j n : Nat), (j = 0 ∨ 10 ^ (j - 1) ≤ t) → t < 10 ^ j → (n < 9 * b.length + j ↔ 10 ^ n ≤ v9 l)) := fun j n h1 h2 => digits_iff HBT.out hd h1 h2 ht0
    generalize v9 l = vv at *
    rw [hlb] at ct0 hm0 hb ⊢
    have hbl : b.length ≤ 50000 := by omega
    clear hlb hkl hl h0 HBT
    go_enter Tryz.func182, Tryz.ntmps182
    go_wp2_with fail
    go_loop [4, 5] (fun kv pv => ∃ (j u : Nat), j ≤ 9 ∧ Hid (u = t / 10 ^ j) ∧ u < 1000000000 ∧ kv = .int .i64 (9 * (b.length : Int) + (j : Int)) ∧ pv = .int .u64 u ∧ Hid (j = 0 ∨ 10 ^ (j - 1) ≤ t)) (fun _ pv => (intOf pv).toNat)
    case atStart => exact ⟨0, t, by omega, show t = t / 10 ^ 0 by simp, by omega, by simp; omega, rfl, .inl rfl⟩
    case round =>
      obtain ⟨j, u, hj, HU, hu, rfl, rfl, HJ⟩ := hrel
      by_cases hpt : 0 < u
      · have h10 : 10 ^ j ≤ t := by
          refine Nat.le_of_not_lt fun h => ?_
          have := HU.out
          rw [Nat.div_eq_of_lt h] at this
          omega
        have hj9 : j < 9 := by
          refine Nat.lt_of_not_le fun h => ?_
          have : 10 ^ 9 ≤ 10 ^ j := Nat.pow_le_pow_right (by omega) h
          omega
        have HU2 : Hid (u / 10 = t / 10 ^ (j + 1)) := show _ = _ by rw [HU.out, Nat.div_div_eq_div_mul, Nat.pow_succ]
        have HJ2 : Hid (j + 1 = 0 ∨ 10 ^ (j + 1 - 1) ≤ t) := .inr h10
        clear h10 HU HJ
        go_wp2_with fail
        go_round
        case rel => exact ⟨j + 1, u / 10, by omega, HU2, by omega, by go_num, by go_num, HJ2⟩
        case measure => simp [intOf]; omega
      · have h10 : t < 10 ^ j := by
          have h := HU.out
          have : t / 10 ^ j = 0 := by omega
          rcases Nat.div_eq_zero_iff.1 this with h | h
          · have : 0 < 10 ^ j := Nat.pow_pos (by omega)
            omega
          · exact h
        have HR : Hid (∀ n, 1 ≤ n → (n < 9 * b.length + j ↔ 10 ^ n ≤ vv)) := fun n _ => HV.out j n HJ.out h10
        clear h10 HU HJ
        go_wp2_with fail
        go_ret
        exact ⟨⟨9 * b.length + j, by simp, by omega, HR.out⟩, hm0⟩
end Go.Proofs.YtmnfndpbblpjiaaGreatDoor

/- Sums of the program's numbers. -/
namespace Go.Proofs.YtmnfndpbblpjiaaGreatDoor
open Go.RowKit Pu
theorem Pu.num9_same (nb : Bool) {l m k : List Nat} (h : v9 k = v9 l + v9 m) : num9 nb k = num9 nb l + num9 nb m := by
  cases nb <;> simp [num9, h] <;> omega
theorem Pu.num9_less {nb nc : Bool} (hn : nb ≠ nc) {l m k : List Nat} (hl : v9 l ≤ v9 m) (h : v9 k = v9 m - v9 l) : num9 nc k = num9 nb l + num9 nc m := by
  cases nb <;> cases nc <;> simp at hn <;> simp [num9, h] <;> omega
theorem Pu.num9_more {nb nc : Bool} (hn : nb ≠ nc) {l m k : List Nat} (hl : v9 m ≤ v9 l) (h : v9 k = v9 l - v9 m) : num9 nb k = num9 nb l + num9 nc m := by
  cases nb <;> cases nc <;> simp at hn <;> simp [num9, h] <;> omega
theorem Pu.num9_mul {nb nc : Bool} {l m k : List Nat} (h : v9 k = v9 l * v9 m) : num9 (nb != nc) k = num9 nb l * num9 nc m := by
  cases nb <;> cases nc <;> simp [num9, h, Int.mul_neg, Int.neg_mul]
theorem v9_len {a b : List Nat} (da : D9 a) (tb : T9 b) (h : v9 b ≤ v9 a) : b.length ≤ a.length := by
  refine Nat.le_of_not_lt fun hh => ?_
  have := v9_shorter da tb hh
  omega
set_option maxHeartbeats 1600000 in
set_option maxRecDepth 4000 in
theorem sum_any (nb nc : Bool) (v u : Value) (l m : List Nat) (w : World) (hN : N9 w nb v l) (hU : w.ownsRow 0 207 1 u m.length (uvs m)) (dm : D9 m) (tm : T9 m) (ll : l.length ≤ 40000) (lm : m.length ≤ 40000) :
    Calls Tryz.prog 196 #[n9 nb v, .bool nc, u] w (N9E w (num9 nb l + num9 nc m) (max l.length m.length + 1)) := by
  obtain ⟨⟨dl, tl, -⟩, hO⟩ := hN
  obtain ⟨vo, vcap, rfl, -⟩ := owns_form hO
  obtain ⟨uo, ucap, rfl, -⟩ := owns_form hU
  obtain ⟨a1, a2⟩ := alloc2_at w (.cells #[.bool nb, .slice vo l.length vcap] 159) (.cells #[.bool false, .slice none 0 0] 159)
  have hm0 : Mod (fun _ => False) w ((w.alloc (.cells #[.bool nb, .slice vo l.length vcap] 159)).alloc (.cells #[.bool false, .slice none 0 0] 159)) := ((Mod.refl _ w).alloc _).alloc _
  have HH : Hid _ := And.intro a1 (And.intro a2 hm0)
  clear a1 a2 hm0
  have HDL : Hid (D9 l ∧ T9 l ∧ D9 m ∧ T9 m) := ⟨dl, tl, dm, tm⟩
  clear dl tl dm tm
  obtain ⟨mx, hmx, hml, hmm, hm4⟩ : ∃ mx, max l.length m.length + 1 = mx ∧ l.length + 1 ≤ mx ∧ m.length + 1 ≤ mx ∧ mx ≤ 40001 := ⟨_, rfl, by omega, by omega, by omega⟩
  rw [hmx]
  have HMX : Hid (max l.length m.length + 1 = mx) := hmx
  clear hmx
  by_cases hne : nb = nc
  · have hb : (nb == nc) = true := by simp [hne]
    have HS : Hid (∀ k : List Nat, v9 k = v9 l + v9 m → num9 nc k = num9 nb l + num9 nc m) := fun k h => by subst hne; exact num9_same nb h
    generalize num9 nb l + num9 nc m = tot at *
    clear hne
    go_enter Tryz.func196, Tryz.ntmps196
    go_wp2_with fail
    generalize (w.alloc (.cells #[.bool nb, .slice vo l.length vcap] 159)).alloc (.cells #[.bool false, .slice none 0 0] 159) = W at *
    obtain ⟨hA0, hR0, hm0⟩ := HH.out
    clear HH
    refine (total_any _ _ l m 0 0 W (owns_mod hO hm0 (fun _ _ f => f)) (owns_mod hU hm0 (fun _ _ f => f)) HDL.out.1 HDL.out.2.2.1 (by omega) (by omega)).mono ?_
    rw [HMX.out]
    rintro e w2 ⟨hm2, v2, l2, rfl, hO2, hd2, ht2, hv2, hl2⟩
    have hs := signed_any nc v2 l2 _ w2 hO2 hd2 ht2 (by omega)
    have HX : Hid (num9 nc l2 = tot) := HS.out l2 hv2
    have hR2 := hm2.keep hR0 (fun f => f)
    have hm2w := hm0.trans hm2
    clear hO2 hd2 ht2 hv2 hm2
    go_wp2_with fail
    refine hs.mono ?_
    rintro e w3 ⟨hm3, nb3, v3, l3, rfl, hN3, hx3, hl3⟩
    have hR3 := hm3.keep hR2 (fun f => f)
    obtain ⟨r0, r1⟩ := c2_of hR3
    have f0 := fz3 hR3 0
    have f1 := fz3 hR3 1
    obtain ⟨vo3, vcap3, rfl, -⟩ := owns_form hN3.2
    have HE : Hid _ := n9_end (x := tot) (n := mx) hR3 (by omega) (hm2w.trans hm3) hN3.2 hN3.1 (hx3.trans HX.out) (by omega)
    clear hR3 hm3 hN3 hx3 hs hR2 hm2w
    go_wp2_with fail
    obtain ⟨k1, q0, q1⟩ := HE.out
    unfold set2at at q0 q1
    exact bodyPost_ret (by simp [results, Tryz.results196, go_sem, q0, q1]) rfl k1
  · have hb : (nb == nc) = false := by simp [hne]
    have hlt := less9_any (.slice vo l.length vcap) (.slice uo m.length ucap) l m 0 0 _ (owns_mod hO HH.out.2.2 (fun _ _ f => f)) (owns_mod hU HH.out.2.2 (fun _ _ f => f)) HDL.out.1 HDL.out.2.2.1 HDL.out.2.1 HDL.out.2.2.2 (by omega) (by omega)
    by_cases hc : v9 l < v9 m
    · have HS : Hid (∀ k : List Nat, v9 k = v9 m - v9 l → num9 nc k = num9 nb l + num9 nc m) := fun k h => num9_less hne (by omega) h
      generalize num9 nb l + num9 nc m = tot at *
      have hld : decide (v9 l < v9 m) = true := by simpa using hc
      rw [hld] at hlt
      have HLE : Hid (v9 l ≤ v9 m ∧ l.length ≤ m.length) := ⟨by omega, v9_len HDL.out.2.2.1 HDL.out.2.1 (by omega)⟩
      clear hne hc hld
      go_enter Tryz.func196, Tryz.ntmps196
      go_wp2_with fail
      generalize (w.alloc (.cells #[.bool nb, .slice vo l.length vcap] 159)).alloc (.cells #[.bool false, .slice none 0 0] 159) = W at *
      obtain ⟨hA0, hR0, hm0⟩ := HH.out
      clear HH
      refine hlt.mono ?_
      rintro e w1 ⟨rfl, hm1⟩
      have hA1 := hm1.keep hA0 (fun f => f)
      have hR1 := hm1.keep hR0 (fun f => f)
      have hm01 := hm0.trans hm1
      obtain ⟨g0, g1⟩ := c2_of hA1
      clear hA0 hR0 hm0 hA1 hlt hm1
      have hR0 := hR1
      have hm0 := hm01
      clear hR1 hm01
      go_wp2_with fail
      refine (diff_any _ _ m l 0 0 w1 (owns_mod hU hm0 (fun _ _ f => f)) (owns_mod hO hm0 (fun _ _ f => f)) HDL.out.2.2.1 HDL.out.1 HLE.out.1 HLE.out.2 (by omega)).mono ?_
      rintro e w2 ⟨hm2, v2, l2, rfl, hO2, hd2, ht2, hv2, hl2⟩
      have hs := signed_any nc v2 l2 _ w2 hO2 hd2 ht2 (by omega)
      have HX : Hid (num9 nc l2 = tot) := HS.out l2 hv2
      have hR2 := hm2.keep hR0 (fun f => f)
      have hm2w := hm0.trans hm2
      clear hO2 hd2 ht2 hv2 hm2
      go_wp2_with fail
      refine hs.mono ?_
      rintro e w3 ⟨hm3, nb3, v3, l3, rfl, hN3, hx3, hl3⟩
      have hR3 := hm3.keep hR2 (fun f => f)
      obtain ⟨r0, r1⟩ := c2_of hR3
      have f0 := fz3 hR3 0
      have f1 := fz3 hR3 1
      obtain ⟨vo3, vcap3, rfl, -⟩ := owns_form hN3.2
      have HE : Hid _ := n9_end (x := tot) (n := mx) hR3 (by omega) (hm2w.trans hm3) hN3.2 hN3.1 (hx3.trans HX.out) (by omega)
      clear hR3 hm3 hN3 hx3 hs hR2 hm2w
      go_wp2_with fail
      obtain ⟨k1, q0, q1⟩ := HE.out
      unfold set2at at q0 q1
      exact bodyPost_ret (by simp [results, Tryz.results196, go_sem, q0, q1]) rfl k1
    · have HS : Hid (∀ k : List Nat, v9 k = v9 l - v9 m → num9 nb k = num9 nb l + num9 nc m) := fun k h => num9_more hne (by omega) h
      generalize num9 nb l + num9 nc m = tot at *
      have hld : decide (v9 l < v9 m) = false := by simpa using hc
      rw [hld] at hlt
      have HLE : Hid (v9 m ≤ v9 l ∧ m.length ≤ l.length) := ⟨by omega, v9_len HDL.out.1 HDL.out.2.2.2 (by omega)⟩
      clear hne hc hld
      go_enter Tryz.func196, Tryz.ntmps196
      go_wp2_with fail
      generalize (w.alloc (.cells #[.bool nb, .slice vo l.length vcap] 159)).alloc (.cells #[.bool false, .slice none 0 0] 159) = W at *
      obtain ⟨hA0, hR0, hm0⟩ := HH.out
      clear HH
      refine hlt.mono ?_
      rintro e w1 ⟨rfl, hm1⟩
      have hA1 := hm1.keep hA0 (fun f => f)
      have hR1 := hm1.keep hR0 (fun f => f)
      have hm01 := hm0.trans hm1
      obtain ⟨g0, g1⟩ := c2_of hA1
      have hd := diff_any _ _ l m 0 0 w1.drew (owns_mod hO hm01.drew (fun _ _ f => f)) (owns_mod hU hm01.drew (fun _ _ f => f)) HDL.out.1 HDL.out.2.2.1 HLE.out.1 HLE.out.2 (by omega)
      clear hA0 hR0 hm0 hlt hm1
      go_wp2_with fail
      go_region_held3 (fun w' => w'.cell? ⟨w.heap.size, 0, none⟩ = some (.bool nb) ∧ w'.cell? ⟨w.heap.size, 1, none⟩ = some (.slice vo l.length vcap))
        (first | go_keep | (exact hkeep) | (exact hkeep2))
        (first
          | (go_at_call 203; refine hd.mono ?_; rintro e w2 ⟨hm2, v2, l2, rfl, hO2, hd2, ht2, hv2, hl2⟩; have hkeep := And.intro (hm2.cell (a := w1.drew) g0) (hm2.cell (a := w1.drew) g1))
          | (go_at_call 197; refine (signed_any nb v2 l2 _ w2 hO2 hd2 ht2 (by omega)).mono ?_; rintro e w3 ⟨hm3, nb3, v3, l3, rfl, hN3, hx3, hl3⟩; have hkeep := And.intro (hm3.cell (hm2.cell (a := w1.drew) g0)) (hm3.cell (hm2.cell (a := w1.drew) g1)); have hR3 := hm3.keep (hm2.keep (a := w1.drew) hR1 (fun f => f)) (fun f => f); obtain ⟨r0, r1⟩ := c2_of hR3; have f0 := fz3 hR3 0; have f1 := fz3 hR3 1; obtain ⟨vo3, vcap3, rfl, -⟩ := owns_form hN3.2; have hkeep2 := And.intro ((set2_cell (w.heap.size + 1) w3 (.bool nb3) (.slice vo3 l3.length vcap3) w.heap.size 0 (by omega)).trans hkeep.1) ((set2_cell (w.heap.size + 1) w3 (.bool nb3) (.slice vo3 l3.length vcap3) w.heap.size 1 (by omega)).trans hkeep.2)))
      have HE : Hid _ := n9_end (x := tot) (n := mx) hR3 (by omega) ((hm01.drew.trans hm2).trans hm3) hN3.2 hN3.1 (hx3.trans (HS.out l2 hv2)) (by omega)
      clear hR3 hm3 hN3 hx3 hR1 hm01 hm2 hO2 hd2 ht2 hv2
      go_wp2_with fail
      obtain ⟨k1, q0, q1⟩ := HE.out
      unfold set2at at q0 q1
      exact bodyPost_ret (by simp [results, Tryz.results196, go_sem, q0, q1]) rfl k1
end Go.Proofs.YtmnfndpbblpjiaaGreatDoor

/- The program's Add, Sub, Mul. -/
namespace Go.Proofs.YtmnfndpbblpjiaaGreatDoor
open Go.RowKit Pu
theorem Pu.num9_not (nb : Bool) (l : List Nat) : num9 (!nb) l = -num9 nb l := by cases nb <;> simp [num9]
set_option maxHeartbeats 800000 in
set_option maxRecDepth 4000 in
theorem add9_any (nb nc : Bool) (v u : Value) (l m : List Nat) (w : World) (hN : N9 w nb v l) (hU : N9 w nc u m) (ll : l.length ≤ 40000) (lm : m.length ≤ 40000) :
    Calls Tryz.prog 190 #[n9 nb v, n9 nc u] w (N9E w (num9 nb l + num9 nc m) (max l.length m.length + 1)) := by
  obtain ⟨vo, vcap, rfl, -⟩ := owns_form hN.2
  obtain ⟨uo, ucap, rfl, -⟩ := owns_form hU.2
  obtain ⟨a1, a2, a3⟩ := alloc3_at w (.cells #[.bool nb, .slice vo l.length vcap] 159) (.cells #[.bool nc, .slice uo m.length ucap] 159) (.cells #[.bool false, .slice none 0 0] 159)
  have hm0 : Mod (fun _ => False) w (((w.alloc (.cells #[.bool nb, .slice vo l.length vcap] 159)).alloc (.cells #[.bool nc, .slice uo m.length ucap] 159)).alloc (.cells #[.bool false, .slice none 0 0] 159)) := (((Mod.refl _ w).alloc _).alloc _).alloc _
  have hs := sum_any nb nc (.slice vo l.length vcap) (.slice uo m.length ucap) l m _ (hN.mod hm0) (hU.mod hm0).2 hU.1.1 hU.1.2.1 ll lm
  have HT : Hid (num9 nb l + num9 nc m = num9 nb l + num9 nc m) := show _ = _ by rfl
  rw [HT.out] at hs
  generalize num9 nb l + num9 nc m = tot at *
  generalize max l.length m.length + 1 = mx at *
  have HH : Hid _ := And.intro a3 hm0
  clear a1 a2 a3 hm0 hN hU HT
  go_enter Tryz.func190, Tryz.ntmps190
  go_wp2_with fail
  refine hs.mono ?_
  rintro e w3 ⟨hm3, nb3, v3, l3, rfl, hN3, hx3, hl3⟩
  obtain ⟨hR0, hm0⟩ := HH.out
  have hR3 := hm3.keep hR0 (fun f => f)
  obtain ⟨r0, r1⟩ := c2_of hR3
  have f0 := fz3 hR3 0
  have f1 := fz3 hR3 1
  obtain ⟨vo3, vcap3, rfl, -⟩ := owns_form hN3.2
  have HE : Hid _ := n9_end (x := tot) (n := mx) hR3 (by omega) (hm0.trans hm3) hN3.2 hN3.1 hx3 hl3
  clear hR3 hm3 hN3 hx3 hs hR0 hm0 HH
  go_wp2_with fail
  obtain ⟨k1, q0, q1⟩ := HE.out
  unfold set2at at q0 q1
  exact bodyPost_ret (by simp [results, Tryz.results190, go_sem, q0, q1]) rfl k1
set_option maxHeartbeats 800000 in
set_option maxRecDepth 4000 in
theorem sub9_any (nb nc : Bool) (v u : Value) (l m : List Nat) (w : World) (hN : N9 w nb v l) (hU : N9 w nc u m) (ll : l.length ≤ 40000) (lm : m.length ≤ 40000) :
    Calls Tryz.prog 191 #[n9 nb v, n9 nc u] w (N9E w (num9 nb l - num9 nc m) (max l.length m.length + 1)) := by
  obtain ⟨vo, vcap, rfl, -⟩ := owns_form hN.2
  obtain ⟨uo, ucap, rfl, -⟩ := owns_form hU.2
  obtain ⟨a1, a2, a3⟩ := alloc3_at w (.cells #[.bool nb, .slice vo l.length vcap] 159) (.cells #[.bool nc, .slice uo m.length ucap] 159) (.cells #[.bool false, .slice none 0 0] 159)
  have hm0 : Mod (fun _ => False) w (((w.alloc (.cells #[.bool nb, .slice vo l.length vcap] 159)).alloc (.cells #[.bool nc, .slice uo m.length ucap] 159)).alloc (.cells #[.bool false, .slice none 0 0] 159)) := (((Mod.refl _ w).alloc _).alloc _).alloc _
  have hs := sum_any nb (!nc) (.slice vo l.length vcap) (.slice uo m.length ucap) l m _ (hN.mod hm0) (hU.mod hm0).2 hU.1.1 hU.1.2.1 ll lm
  have HT : Hid (num9 nb l + num9 (!nc) m = num9 nb l - num9 nc m) := show _ = _ by rw [num9_not]; omega
  rw [HT.out] at hs
  generalize num9 nb l - num9 nc m = tot at *
  generalize max l.length m.length + 1 = mx at *
  have HH : Hid _ := And.intro a3 hm0
  clear a1 a2 a3 hm0 hN hU HT
  go_enter Tryz.func191, Tryz.ntmps191
  go_wp2_with fail
  refine hs.mono ?_
  rintro e w3 ⟨hm3, nb3, v3, l3, rfl, hN3, hx3, hl3⟩
  obtain ⟨hR0, hm0⟩ := HH.out
  have hR3 := hm3.keep hR0 (fun f => f)
  obtain ⟨r0, r1⟩ := c2_of hR3
  have f0 := fz3 hR3 0
  have f1 := fz3 hR3 1
  obtain ⟨vo3, vcap3, rfl, -⟩ := owns_form hN3.2
  have HE : Hid _ := n9_end (x := tot) (n := mx) hR3 (by omega) (hm0.trans hm3) hN3.2 hN3.1 hx3 hl3
  clear hR3 hm3 hN3 hx3 hs hR0 hm0 HH
  go_wp2_with fail
  obtain ⟨k1, q0, q1⟩ := HE.out
  unfold set2at at q0 q1
  exact bodyPost_ret (by simp [results, Tryz.results191, go_sem, q0, q1]) rfl k1
set_option maxHeartbeats 1600000 in
set_option maxRecDepth 4000 in
theorem mul9_any (nb nc : Bool) (v u : Value) (l m : List Nat) (w : World) (hN : N9 w nb v l) (hU : N9 w nc u m) (ll : l.length ≤ 40000) (lm : m.length ≤ 40000) :
    Calls Tryz.prog 192 #[n9 nb v, n9 nc u] w (N9E w (num9 nb l * num9 nc m) (l.length + m.length)) := by
  obtain ⟨vo, vcap, rfl, -⟩ := owns_form hN.2
  obtain ⟨uo, ucap, rfl, -⟩ := owns_form hU.2
  obtain ⟨a1, a2, a3⟩ := alloc3_at w (.cells #[.bool nb, .slice vo l.length vcap] 159) (.cells #[.bool nc, .slice uo m.length ucap] 159) (.cells #[.bool false, .slice none 0 0] 159)
  have hm0 : Mod (fun _ => False) w (((w.alloc (.cells #[.bool nb, .slice vo l.length vcap] 159)).alloc (.cells #[.bool nc, .slice uo m.length ucap] 159)).alloc (.cells #[.bool false, .slice none 0 0] 159)) := (((Mod.refl _ w).alloc _).alloc _).alloc _
  have HS : Hid (∀ k : List Nat, v9 k = v9 l * v9 m → num9 (nb != nc) k = num9 nb l * num9 nc m) := fun k h => num9_mul h
  generalize num9 nb l * num9 nc m = tot at *
  have HH : Hid _ := And.intro a1 (And.intro a2 (And.intro a3 hm0))
  clear a1 a2 a3 hm0
  go_enter Tryz.func192, Tryz.ntmps192
  go_wp2_with fail
  generalize ((w.alloc (.cells #[.bool nb, .slice vo l.length vcap] 159)).alloc (.cells #[.bool nc, .slice uo m.length ucap] 159)).alloc (.cells #[.bool false, .slice none 0 0] 159) = W at *
  obtain ⟨a1, a2, hR0, hm0⟩ := HH.out
  obtain ⟨g0, g1⟩ := c2_of a1
  obtain ⟨h0, h1⟩ := c2_of a2
  have hp := product_any (.slice vo l.length vcap) (.slice uo m.length ucap) l m 0 0 W.drew (owns_mod hN.2 hm0.drew (fun _ _ f => f)) (owns_mod hU.2 hm0.drew (fun _ _ f => f)) hN.1.1 hU.1.1 ll lm
  clear HH a1 a2 hN hU
  cases nb
  · cases nc
    · go_region_held3 (fun w' => w'.cell? ⟨w.heap.size, 0, none⟩ = some (.bool false) ∧ w'.cell? ⟨w.heap.size, 1, none⟩ = some (.slice vo l.length vcap) ∧ w'.cell? ⟨w.heap.size + 1, 0, none⟩ = some (.bool false) ∧ w'.cell? ⟨w.heap.size + 1, 1, none⟩ = some (.slice uo m.length ucap))
        (first | go_keep | (exact hkeep) | (exact hkeep2))
        (first
          | (go_at_call 198; refine hp.mono ?_; rintro e w2 ⟨hm2, v2, l2, rfl, hO2, hd2, ht2, hv2, hl2⟩; have hkeep := And.intro (hm2.cell (a := W.drew) g0) (And.intro (hm2.cell (a := W.drew) g1) (And.intro (hm2.cell (a := W.drew) h0) (hm2.cell (a := W.drew) h1))))
          | (go_at_call 197; refine (signed_any false v2 l2 _ w2 hO2 hd2 ht2 (by omega)).mono ?_; rintro e w3 ⟨hm3, nb3, v3, l3, rfl, hN3, hx3, hl3⟩; have hkeep := And.intro (hm3.cell (hm2.cell (a := W.drew) g0)) (And.intro (hm3.cell (hm2.cell (a := W.drew) g1)) (And.intro (hm3.cell (hm2.cell (a := W.drew) h0)) (hm3.cell (hm2.cell (a := W.drew) h1)))); have hR3 := hm3.keep (hm2.keep (a := W.drew) hR0 (fun f => f)) (fun f => f); obtain ⟨r0, r1⟩ := c2_of hR3; have f0 := fz3 hR3 0; have f1 := fz3 hR3 1; obtain ⟨vo3, vcap3, rfl, -⟩ := owns_form hN3.2; have hkeep2 := And.intro ((set2_cell (w.heap.size + 2) w3 (.bool nb3) (.slice vo3 l3.length vcap3) w.heap.size 0 (by omega)).trans hkeep.1) (And.intro ((set2_cell (w.heap.size + 2) w3 (.bool nb3) (.slice vo3 l3.length vcap3) w.heap.size 1 (by omega)).trans hkeep.2.1) (And.intro ((set2_cell (w.heap.size + 2) w3 (.bool nb3) (.slice vo3 l3.length vcap3) (w.heap.size + 1) 0 (by omega)).trans hkeep.2.2.1) ((set2_cell (w.heap.size + 2) w3 (.bool nb3) (.slice vo3 l3.length vcap3) (w.heap.size + 1) 1 (by omega)).trans hkeep.2.2.2)))))
      have HE : Hid _ := n9_end (x := tot) (n := l.length + m.length) hR3 (by omega) ((hm0.drew.trans hm2).trans hm3) hN3.2 hN3.1 (hx3.trans (HS.out l2 hv2)) (by omega)
      clear hR3 hm3 hN3 hx3 hR0 hm0 hm2 hO2 hd2 ht2 hv2
      go_wp2_with fail
      obtain ⟨k1, q0, q1⟩ := HE.out
      unfold set2at at q0 q1
      exact bodyPost_ret (by simp [results, Tryz.results192, go_sem, q0, q1]) rfl k1
    · go_region_held3 (fun w' => w'.cell? ⟨w.heap.size, 0, none⟩ = some (.bool false) ∧ w'.cell? ⟨w.heap.size, 1, none⟩ = some (.slice vo l.length vcap) ∧ w'.cell? ⟨w.heap.size + 1, 0, none⟩ = some (.bool true) ∧ w'.cell? ⟨w.heap.size + 1, 1, none⟩ = some (.slice uo m.length ucap))
        (first | go_keep | (exact hkeep) | (exact hkeep2))
        (first
          | (go_at_call 198; refine hp.mono ?_; rintro e w2 ⟨hm2, v2, l2, rfl, hO2, hd2, ht2, hv2, hl2⟩; have hkeep := And.intro (hm2.cell (a := W.drew) g0) (And.intro (hm2.cell (a := W.drew) g1) (And.intro (hm2.cell (a := W.drew) h0) (hm2.cell (a := W.drew) h1))))
          | (go_at_call 197; refine (signed_any true v2 l2 _ w2 hO2 hd2 ht2 (by omega)).mono ?_; rintro e w3 ⟨hm3, nb3, v3, l3, rfl, hN3, hx3, hl3⟩; have hkeep := And.intro (hm3.cell (hm2.cell (a := W.drew) g0)) (And.intro (hm3.cell (hm2.cell (a := W.drew) g1)) (And.intro (hm3.cell (hm2.cell (a := W.drew) h0)) (hm3.cell (hm2.cell (a := W.drew) h1)))); have hR3 := hm3.keep (hm2.keep (a := W.drew) hR0 (fun f => f)) (fun f => f); obtain ⟨r0, r1⟩ := c2_of hR3; have f0 := fz3 hR3 0; have f1 := fz3 hR3 1; obtain ⟨vo3, vcap3, rfl, -⟩ := owns_form hN3.2; have hkeep2 := And.intro ((set2_cell (w.heap.size + 2) w3 (.bool nb3) (.slice vo3 l3.length vcap3) w.heap.size 0 (by omega)).trans hkeep.1) (And.intro ((set2_cell (w.heap.size + 2) w3 (.bool nb3) (.slice vo3 l3.length vcap3) w.heap.size 1 (by omega)).trans hkeep.2.1) (And.intro ((set2_cell (w.heap.size + 2) w3 (.bool nb3) (.slice vo3 l3.length vcap3) (w.heap.size + 1) 0 (by omega)).trans hkeep.2.2.1) ((set2_cell (w.heap.size + 2) w3 (.bool nb3) (.slice vo3 l3.length vcap3) (w.heap.size + 1) 1 (by omega)).trans hkeep.2.2.2)))))
      have HE : Hid _ := n9_end (x := tot) (n := l.length + m.length) hR3 (by omega) ((hm0.drew.trans hm2).trans hm3) hN3.2 hN3.1 (hx3.trans (HS.out l2 hv2)) (by omega)
      clear hR3 hm3 hN3 hx3 hR0 hm0 hm2 hO2 hd2 ht2 hv2
      go_wp2_with fail
      obtain ⟨k1, q0, q1⟩ := HE.out
      unfold set2at at q0 q1
      exact bodyPost_ret (by simp [results, Tryz.results192, go_sem, q0, q1]) rfl k1
  · cases nc
    · go_region_held3 (fun w' => w'.cell? ⟨w.heap.size, 0, none⟩ = some (.bool true) ∧ w'.cell? ⟨w.heap.size, 1, none⟩ = some (.slice vo l.length vcap) ∧ w'.cell? ⟨w.heap.size + 1, 0, none⟩ = some (.bool false) ∧ w'.cell? ⟨w.heap.size + 1, 1, none⟩ = some (.slice uo m.length ucap))
        (first | go_keep | (exact hkeep) | (exact hkeep2))
        (first
          | (go_at_call 198; refine hp.mono ?_; rintro e w2 ⟨hm2, v2, l2, rfl, hO2, hd2, ht2, hv2, hl2⟩; have hkeep := And.intro (hm2.cell (a := W.drew) g0) (And.intro (hm2.cell (a := W.drew) g1) (And.intro (hm2.cell (a := W.drew) h0) (hm2.cell (a := W.drew) h1))))
          | (go_at_call 197; refine (signed_any true v2 l2 _ w2 hO2 hd2 ht2 (by omega)).mono ?_; rintro e w3 ⟨hm3, nb3, v3, l3, rfl, hN3, hx3, hl3⟩; have hkeep := And.intro (hm3.cell (hm2.cell (a := W.drew) g0)) (And.intro (hm3.cell (hm2.cell (a := W.drew) g1)) (And.intro (hm3.cell (hm2.cell (a := W.drew) h0)) (hm3.cell (hm2.cell (a := W.drew) h1)))); have hR3 := hm3.keep (hm2.keep (a := W.drew) hR0 (fun f => f)) (fun f => f); obtain ⟨r0, r1⟩ := c2_of hR3; have f0 := fz3 hR3 0; have f1 := fz3 hR3 1; obtain ⟨vo3, vcap3, rfl, -⟩ := owns_form hN3.2; have hkeep2 := And.intro ((set2_cell (w.heap.size + 2) w3 (.bool nb3) (.slice vo3 l3.length vcap3) w.heap.size 0 (by omega)).trans hkeep.1) (And.intro ((set2_cell (w.heap.size + 2) w3 (.bool nb3) (.slice vo3 l3.length vcap3) w.heap.size 1 (by omega)).trans hkeep.2.1) (And.intro ((set2_cell (w.heap.size + 2) w3 (.bool nb3) (.slice vo3 l3.length vcap3) (w.heap.size + 1) 0 (by omega)).trans hkeep.2.2.1) ((set2_cell (w.heap.size + 2) w3 (.bool nb3) (.slice vo3 l3.length vcap3) (w.heap.size + 1) 1 (by omega)).trans hkeep.2.2.2)))))
      have HE : Hid _ := n9_end (x := tot) (n := l.length + m.length) hR3 (by omega) ((hm0.drew.trans hm2).trans hm3) hN3.2 hN3.1 (hx3.trans (HS.out l2 hv2)) (by omega)
      clear hR3 hm3 hN3 hx3 hR0 hm0 hm2 hO2 hd2 ht2 hv2
      go_wp2_with fail
      obtain ⟨k1, q0, q1⟩ := HE.out
      unfold set2at at q0 q1
      exact bodyPost_ret (by simp [results, Tryz.results192, go_sem, q0, q1]) rfl k1
    · go_region_held3 (fun w' => w'.cell? ⟨w.heap.size, 0, none⟩ = some (.bool true) ∧ w'.cell? ⟨w.heap.size, 1, none⟩ = some (.slice vo l.length vcap) ∧ w'.cell? ⟨w.heap.size + 1, 0, none⟩ = some (.bool true) ∧ w'.cell? ⟨w.heap.size + 1, 1, none⟩ = some (.slice uo m.length ucap))
        (first | go_keep | (exact hkeep) | (exact hkeep2))
        (first
          | (go_at_call 198; refine hp.mono ?_; rintro e w2 ⟨hm2, v2, l2, rfl, hO2, hd2, ht2, hv2, hl2⟩; have hkeep := And.intro (hm2.cell (a := W.drew) g0) (And.intro (hm2.cell (a := W.drew) g1) (And.intro (hm2.cell (a := W.drew) h0) (hm2.cell (a := W.drew) h1))))
          | (go_at_call 197; refine (signed_any false v2 l2 _ w2 hO2 hd2 ht2 (by omega)).mono ?_; rintro e w3 ⟨hm3, nb3, v3, l3, rfl, hN3, hx3, hl3⟩; have hkeep := And.intro (hm3.cell (hm2.cell (a := W.drew) g0)) (And.intro (hm3.cell (hm2.cell (a := W.drew) g1)) (And.intro (hm3.cell (hm2.cell (a := W.drew) h0)) (hm3.cell (hm2.cell (a := W.drew) h1)))); have hR3 := hm3.keep (hm2.keep (a := W.drew) hR0 (fun f => f)) (fun f => f); obtain ⟨r0, r1⟩ := c2_of hR3; have f0 := fz3 hR3 0; have f1 := fz3 hR3 1; obtain ⟨vo3, vcap3, rfl, -⟩ := owns_form hN3.2; have hkeep2 := And.intro ((set2_cell (w.heap.size + 2) w3 (.bool nb3) (.slice vo3 l3.length vcap3) w.heap.size 0 (by omega)).trans hkeep.1) (And.intro ((set2_cell (w.heap.size + 2) w3 (.bool nb3) (.slice vo3 l3.length vcap3) w.heap.size 1 (by omega)).trans hkeep.2.1) (And.intro ((set2_cell (w.heap.size + 2) w3 (.bool nb3) (.slice vo3 l3.length vcap3) (w.heap.size + 1) 0 (by omega)).trans hkeep.2.2.1) ((set2_cell (w.heap.size + 2) w3 (.bool nb3) (.slice vo3 l3.length vcap3) (w.heap.size + 1) 1 (by omega)).trans hkeep.2.2.2)))))
      have HE : Hid _ := n9_end (x := tot) (n := l.length + m.length) hR3 (by omega) ((hm0.drew.trans hm2).trans hm3) hN3.2 hN3.1 (hx3.trans (HS.out l2 hv2)) (by omega)
      clear hR3 hm3 hN3 hx3 hR0 hm0 hm2 hO2 hd2 ht2 hv2
      go_wp2_with fail
      obtain ⟨k1, q0, q1⟩ := HE.out
      unfold set2at at q0 q1
      exact bodyPost_ret (by simp [results, Tryz.results192, go_sem, q0, q1]) rfl k1
end Go.Proofs.YtmnfndpbblpjiaaGreatDoor

/- The document's numbers: made, carried. -/
import Derived.Test.YtmnfndpbblpjiabGreatDoorZb03
import Derived.Test.YtmnfndpbblpjiabGreatDoorZb02
namespace Go.Proofs.YtmnfndpbblpjiabGreatDoor
open Go.RowKit Pu

theorem owns_prefix {w : World} {base : Nat} {e : TypeId} {ao : Option Addr} {n cap : Nat} {l : List Nat} (h : w.ownsRow base e 1 (.slice ao n cap) n (ivs l)) (hn : n = l.length) (m : Nat) (hm : m ≤ n) (hs : 0 < n) : w.ownsRow base e 1 (.slice ao m cap) m (ivs (l.take m)) := by
  obtain ⟨hl, ⟨he, h0⟩ | ⟨g, c, cur, he, hb, hg, h1, h2, h3, h4⟩⟩ := h
  · omega
  · injection he with e1 e2 e3
    subst e1 e3
    refine ⟨by simp [ivs]; omega, .inr ⟨g, cap, cur, rfl, hb, hg, by omega, h2, h3, ?_⟩⟩
    have := congrArg (List.take m) h4
    rw [List.take_take] at this
    rw [show min m (n * 1) = m * 1 by omega] at this
    rw [this]
    simp [ivs]

theorem owns_cap {w : World} {base : Nat} {e : TypeId} {size : Nat} {ao : Option Addr} {n cap : Nat} {xs : List Value} (h : w.ownsRow base e size (.slice ao n cap) n xs) : n ≤ cap ∧ cap ≤ maxLen := by
  obtain ⟨hl, ⟨he, h0⟩ | ⟨g, c, cur, he, hb, hg, h1, h2, h3, h4⟩⟩ := h
  · injection he with e1 e2 e3
    subst e3; unfold maxLen; omega
  · injection he with e1 e2 e3
    subst e3; exact ⟨h1, h2⟩
theorem owns_zero {w : World} {base : Nat} {e : TypeId} {ao : Option Addr} {n cap : Nat} {l : List Nat} (h : w.ownsRow base e 1 (.slice ao n cap) n (ivs l)) : w.ownsRow base e 1 (.slice ao 0 cap) 0 [] := by
  obtain ⟨hl, ⟨he, h0⟩ | ⟨g, c, cur, he, hb, hg, h1, h2, h3, h4⟩⟩ := h
  · injection he with e1 e2 e3
    subst e1 e3
    exact World.ownsRow_nil _ _ _ _
  · injection he with e1 e2 e3
    subst e1 e3
    exact ⟨rfl, .inr ⟨g, cap, cur, rfl, hb, hg, by omega, h2, h3, by simp⟩⟩

def Nmb (w : World) (b : Nat) (nb : Bool) (v : Value) : Prop := w.heap[b]? = some (.cells #[.bool nb, v] 154 (0, 0))
section
variable {w : World} {b : Nat} {nb : Bool} {v : Value}
theorem Nmb.c0 (h : Nmb w b nb v) : w.cell? ⟨b, 0, none⟩ = some (.bool nb) := by unfold Nmb at h; simp [World.cell?, h]
theorem Nmb.c1 (h : Nmb w b nb v) : w.cell? ⟨b, 1, none⟩ = some v := by unfold Nmb at h; simp [World.cell?, h]
theorem Nmb.fz (h : Nmb w b nb v) (i : Nat) : w.frozen? ⟨b, i, none⟩ = false := by unfold Nmb at h; simp [World.frozen?, h]
theorem Nmb.lt (h : Nmb w b nb v) : b < w.heap.size := lt_of_block h
theorem Nmb.keep {p : Nat → Prop} {w' : World} (h : Nmb w b nb v) (hm : Mod p w w') (hp : ¬ p b) : Nmb w' b nb v := hm.keep h hp
theorem Nmb.set (h : Nmb w b nb v) (x : Bool) (u : Value) : Nmb ((w.setCell ⟨b, 0, none⟩ (.bool x)).setCell ⟨b, 1, none⟩ u) b x u := by unfold Nmb at *; simp [World.setCell, Array.getElem?_modify, h]
theorem nmb_new (w : World) (x : Bool) (u : Value) : Nmb (w.alloc (.cells #[.bool x, u] 154)) w.heap.size x u := by unfold Nmb; show (w.heap.push _)[w.heap.size]? = _; simp
theorem mod_set2 (b : Nat) (w : World) (x : Bool) (u : Value) : Mod (fun i => i = b) w ((w.setCell ⟨b, 0, none⟩ (.bool x)).setCell ⟨b, 1, none⟩ u) := ((Mod.refl (fun i => i = b) w).setCell _ _ (fun _ => rfl)).setCell _ _ (fun _ => rfl)
end

/-- A call has answered a number of this value. -/
def NumEnd (w : World) (x : Int) (n : Nat) (e : Ending) (w' : World) : Prop := Mod (fun _ => False) w w' ∧ ∃ nb v' l, e = .returned (nm2 nb v') ∧ Nm w' nb v' l ∧ num nb l = x ∧ l.length ≤ n
theorem numEnd {w w' : World} {x : Int} {n : Nat} {nb : Bool} {v : Value} {l : List Nat} (hm : Mod (fun _ => False) w w') (hN : Nm w' nb v l) (hx : num nb l = x) (hl : l.length ≤ n) : NumEnd w x n (.returned (nm2 nb v)) w' := ⟨hm, nb, v, l, rfl, hN, hx, hl⟩
theorem made_num {neg : Bool} {ds : List Nat} {m : Nat} (h : val (ds.take m) = val ds) : num neg (ds.take m) = num neg ds := by unfold num; rw [h]

set_option maxHeartbeats 800000 in
set_option maxRecDepth 100000 in
theorem made_any (neg : Bool) (v : Value) (ds : List Nat) (w : World) (hV : w.ownsRow 0 3 1 v ds.length (ivs ds)) (hd : Dig ds) (hl : ds.length ≤ 2100000000) :
    Calls Tryz.prog 185 #[.bool neg, v] w (NumEnd w (num neg ds) ds.length) := by
  obtain ⟨ao, cap, rfl, -⟩ := owns_form hV
  have hcap := (owns_cap hV).1
  have hm0 : Mod (fun _ => False) w (w.alloc (.cells #[.bool false, .slice none 0 0] 154)) := (Mod.refl _ w).alloc _
  have hV0 := owns_mod hV hm0 (fun _ _ f => f)
  go_enter Tryz.func185, Tryz.ntmps185
  go_wp2_with fail
  have hR0 := nmb_new w false (.slice none 0 0)
  generalize hW : w.alloc (.cells #[.bool false, .slice none 0 0] 154) = W at *
  have HW : Hid (w.alloc (.cells #[.bool false, .slice none 0 0] 154) = W) := hW
  have HV0 : Hid (w.ownsRow 0 3 1 (.slice ao ds.length cap) ds.length (ivs ds)) := hV
  clear hW hV
  go_loop [1] (fun d => ∃ m : Nat, m ≤ ds.length ∧ d = .slice ao m cap ∧ Hid (val (ds.take m) = val ds)) (fun d => sliceLen d)
  case atStart => exact ⟨ds.length, by omega, rfl, show val (ds.take ds.length) = val ds by rw [List.take_length]⟩
  case round =>
    obtain ⟨m, hm, rfl, HV⟩ := hrel
    rcases Nat.eq_zero_or_pos m with hz | hz
    · have HZ : Hid (m = 0) := hz
      have hmz : (m : Int) ≤ 0 := by omega
      have hgd : decide ((0 : Int) < (m : Int)) = false := by simp; omega
      clear hz
      have r0 := hR0.c0
      have r1 := hR0.c1
      have f0 := hR0.fz 0
      have f1 := hR0.fz 1
      have hR1 := hR0.set false (.slice ao m cap)
      have hmS := mod_set2 w.heap.size W false (.slice ao m cap)
      have q0 := hR1.c0
      have q1 := hR1.c1
      have hmF : Mod (fun _ => False) w ((W.setCell ⟨w.heap.size, 0, none⟩ (.bool false)).setCell ⟨w.heap.size, 1, none⟩ (.slice ao m cap)) := ((hm0.mono (q := fun i => i = w.heap.size) (fun _ _ f => f.elim)).trans hmS).mono (fun i hi h => by omega)
      cases neg
      all_goals
        go_wp2_with fail
        refine bodyPost_ret (v := nm2 false (.slice ao m cap)) (by simp [results, Tryz.results185, go_sem, q0, q1]) rfl (numEnd (l := []) hmF ⟨⟨fun _ h => by simp at h, fun _ h => by simp at h, fun _ => rfl⟩, ?_⟩ ?_ (Nat.zero_le _))
        · have h0 := HZ.out
          subst h0
          exact owns_mod (owns_zero HV0.out) hmF (fun _ _ f => f)
        · have h0 := HZ.out
          have hv := HV.out
          rw [h0] at hv
          simp [val] at hv
          simp [num, val, ← hv]
    · obtain ⟨m, rfl⟩ : ∃ j, m = j + 1 := ⟨m - 1, by omega⟩
      clear hz
      have hml : m < ds.length := by omega
      obtain ⟨gb, rfl, cm⟩ := ivs_cell hV0 rfl hml
      have hdm := hd _ (List.getElem_mem hml)
      have HT : Hid (ds.take (m + 1) = ds.take m ++ [ds[m]]) := show ds.take (m + 1) = ds.take m ++ [ds[m]] by rw [List.take_succ_eq_append_getElem hml]
      by_cases h0 : ds[m] = 0
      · have HV2 : Hid (val (ds.take m) = val ds) := show val (ds.take m) = val ds by rw [← HV.out, HT.out, h0, val_zero_top]
        have hb : ((ds[m] : Int) == 0) = true := beq_t (m := 0) h0
        clear h0
        go_wp2_with fail
        go_round
        case rel => exact ⟨m, by omega, rfl, HV2⟩
        case measure => simp [sliceLen]
      · have hb : ((ds[m] : Int) == 0) = false := beq_f (m := 0) h0
        have r0 := hR0.c0
        have r1 := hR0.c1
        have f0 := hR0.fz 0
        have f1 := hR0.fz 1
        have hR1 := hR0.set neg (.slice (some ⟨gb, 0, none⟩) (m + 1) cap)
        have hmS := mod_set2 w.heap.size W neg (.slice (some ⟨gb, 0, none⟩) (m + 1) cap)
        have q0 := hR1.c0
        have q1 := hR1.c1
        have hmF : Mod (fun _ => False) w ((W.setCell ⟨w.heap.size, 0, none⟩ (.bool neg)).setCell ⟨w.heap.size, 1, none⟩ (.slice (some ⟨gb, 0, none⟩) (m + 1) cap)) := ((hm0.mono (q := fun i => i = w.heap.size) (fun _ _ f => f.elim)).trans hmS).mono (fun i hi h => by omega)
        have HNE : Hid (NumEnd w (num neg ds) ds.length (.returned (nm2 neg (.slice (some ⟨gb, 0, none⟩) (m + 1) cap))) ((W.setCell ⟨w.heap.size, 0, none⟩ (.bool neg)).setCell ⟨w.heap.size, 1, none⟩ (.slice (some ⟨gb, 0, none⟩) (m + 1) cap))) := by
          refine numEnd (l := ds.take (m + 1)) hmF ⟨⟨fun d hdm => hd d (List.mem_of_mem_take hdm), ?_, fun e => ?_⟩, ?_⟩ (made_num HV.out) (by simp; omega)
          · intro d hdl
            rw [HT.out] at hdl
            rw [List.getLast?_concat] at hdl
            injection hdl with hdl
            rw [← hdl]; exact h0
          · have he := congrArg List.length e
            simp only [List.length_take, List.length_nil] at he
            omega
          · have := owns_mod (owns_prefix HV0.out rfl (m + 1) (by omega) (by omega)) hmF (fun _ _ f => f)
            have hlen : (ds.take (m + 1)).length = m + 1 := by simp; omega
            rw [hlen]; exact this
        cases neg
        all_goals
          go_wp2_with fail
          exact bodyPost_ret (by simp [results, Tryz.results185, go_sem, q0, q1]) rfl HNE.out

/-- Digits that may be anything, in memory. -/
def zvs (l : List Int) : List Value := l.map fun (n : Int) => Value.int .i64 n
theorem zvs_cell {w : World} {base n : Nat} {ao : Option Addr} {cap : Nat} {l : List Int} (h : w.ownsRow base 3 1 (.slice ao n cap) n (zvs l)) (hn : n = l.length) {k : Nat} (hk : k < l.length) :
    ∃ gb, ao = some ⟨gb, 0, none⟩ ∧ w.cell? ⟨gb, k, none⟩ = some (.int .i64 l[k]) := by
  subst hn
  obtain ⟨gb, rfl, hc⟩ := owns_cell h (j := k) (by omega)
  exact ⟨gb, rfl, by rw [hc]; simp [zvs, hk]⟩
theorem ivs_snoc (l : List Nat) (d : Nat) : ivs l ++ [.int .i64 (d : Int)] = ivs (l ++ [d]) := by simp [ivs]

def CarEnd (w : World) (d : List Int) (e : Ending) (w' : World) : Prop := Mod (fun _ => False) w w' ∧ ∃ v' os, e = .returned v' ∧ w'.ownsRow w.heap.size 3 1 v' os.length (ivs os) ∧ Dig os ∧ (val os : Int) = valI d ∧ os.length ≤ d.length + 4

set_option maxHeartbeats 1600000 in
set_option maxRecDepth 100000 in
theorem carried_any (v : Value) (d : List Int) (w : World) (hV : w.ownsRow 0 3 1 v d.length (zvs d)) (hd : ∀ x ∈ d, -200000000000000000 ≤ x ∧ x ≤ 200000000000000000) (h0 : 0 ≤ valI d) (hl : d.length ≤ 2000000000) :
    Calls Tryz.prog 186 #[v] w (CarEnd w d) := by
  obtain ⟨i0, hi, hz0, hz1, hz2⟩ := info_parts Tryz.info3
  obtain ⟨ao, cap, rfl, -⟩ := owns_form hV
  have HD : Hid (∀ x ∈ d, -200000000000000000 ≤ x ∧ x ≤ 200000000000000000) := hd
  clear hd
  go_enter Tryz.func186, Tryz.ntmps186
  go_wp2_with fail
  go_loopw [3, 4, 5] (fun o c i wr => ∃ (k : Nat) (os : List Nat) (over : Int), i = .int .i64 k ∧ c = .int .i64 over ∧ Hid (CInv d k os over) ∧ k ≤ d.length + 4 ∧ wr.ownsRow w.heap.size 3 1 o k (ivs os) ∧ Mod (fun _ => False) w wr) (fun _ c i _ => 300000000000000 * (d.length - (intOf i).toNat) + (intOf c).toNat)
  case atStart => exact ⟨0, [], 0, rfl, rfl, CInv.start d, by omega, World.ownsRow_nil _ _ _ _, Mod.refl _ _⟩
  case round =>
    obtain ⟨k, os, over, rfl, rfl, HC, hk, hown, hm⟩ := hrel
    have hb4 := HC.out.2.2.2.1
    have hb5 := HC.out.2.2.2.2
    have hsz := hm.size
    obtain ⟨oo, ocap, rfl, -⟩ := owns_form hown
    by_cases hlt : k < d.length
    · obtain ⟨gb, rfl, ck⟩ := zvs_cell (owns_mod hV hm (fun _ _ f => f)) rfl hlt
      have hdk := HD.out _ (List.getElem_mem hlt)
      have hd1 := hdk.1
      have hd2 := hdk.2
      clear hdk
      obtain ⟨n0, hn0⟩ : ∃ n0, n0 = over + d[k] := ⟨_, rfl⟩
      have HN0 : Hid (n0 = over + d[k]?.getD 0) := show n0 = over + d[k]?.getD 0 by rw [hn0]; simp [hlt]
      have hnl : -200100000000000000 ≤ n0 := by omega
      have hnu : n0 ≤ 200100000000000000 := by omega
      have HN1 : Hid (over + d[k] = n0) := hn0.symm
      have hgo : over + d[k] = n0 := hn0.symm
      clear hn0
      go_wp2_with fail
      go_loop [4, 6] (fun c m => ∃ t : Nat, c = .int .i64 (-(t : Int)) ∧ m = .int .i64 (n0 + 10000 * (t : Int)) ∧ (t = 0 ∨ n0 + 10000 * (t : Int) < 10000)) (fun _ m => (-(intOf m)).toNat)
      case atStart => exact ⟨0, by simp, by simp, .inl rfl⟩
      case round =>
        obtain ⟨t, rfl, rfl, ht⟩ := hrel
        have htb : n0 + 10000 * (t : Int) < 200100000000010000 := by omega
        have htc : (t : Int) ≤ 20020000000000 := by omega
        clear ht
        by_cases hneg : n0 + 10000 * (t : Int) < 0
        · go_wp2_with fail
          go_round
          case rel => exact ⟨t + 1, by go_num, by go_num, .inr (by omega)⟩
          case measure => simp [intOf]; omega
        · have HST : Hid (CInv d (k + 1) (os ++ [(n0 % 10000).toNat]) (n0 / 10000)) := HC.out.step HD.out n0 HN0.out
          have hq2 : -(t : Int) + (n0 + 10000 * (t : Int)) / 10000 = n0 / 10000 := by omega
          have HQ1 : Hid (n0 % 10000 = (((n0 % 10000).toNat : Nat) : Int)) := show n0 % 10000 = (((n0 % 10000).toNat : Nat) : Int) by rw [Int.toNat_of_nonneg (Int.emod_nonneg _ (by omega))]
          have HQ2 : Hid (-(t : Int) + (n0 + 10000 * (t : Int)) / 10000 = n0 / 10000) := hq2
          have hn1 : 0 ≤ n0 + 10000 * (t : Int) := by omega
          clear hq2 hneg
          go_wp2_with (at_builtin; refine wpList_append_own _ rfl _ _ 29 rfl w.heap.size 3 i0 (.int .i64 0) 1 8 Tryz.underlying29 hi hz0 hz1 hz2 rfl (by decide) _ _ _ rfl (hown.alloc _) ⟨wr.heap.size, 0, none⟩ 1 1 [.int .i64 (n0 % 10000)] rfl rfl ?p1 ?p2 ?p3 ?p4 ?p5 ?_)
          case p2 => first | rfl | (intro u hu; simp at hu; subst hu; rfl)
          case p3 => unfold maxLen; omega
          case p4 => omega
          case p5 => first | omega | (simp; omega)
          intro v4 w4 hown4 hgrow _
          have hm4 : Mod (fun _ => False) w w4 := (hm.alloc _).grown hgrow (fun q hq hlt => by have := (hown.lt q hq).1; omega)
          have hown5 : w4.ownsRow w.heap.size 3 1 v4 (k + 1) (ivs (os ++ [(n0 % 10000).toNat])) := by rw [← ivs_snoc, ← HQ1.out]; exact hown4
          obtain ⟨oo4, ocap4, rfl, -⟩ := owns_form hown4
          clear hown4 hgrow hown hm
          go_wp2_with fail
          go_roundw
          case rel => exact ⟨k + 1, os ++ [(n0 % 10000).toNat], n0 / 10000, by go_num, by rw [← HQ2.out], HST, by omega, hown5, hm4⟩
          case measure => rw [HQ2.out]; simp [intOf]; omega
    · by_cases hov : 0 < over
      · obtain ⟨n0, hn0⟩ : ∃ n0, n0 = over := ⟨_, rfl⟩
        have HN0 : Hid (n0 = over + d[k]?.getD 0) := show n0 = over + d[k]?.getD 0 by rw [hn0]; simp [show d.length ≤ k by omega]
        have hkb := HC.out.bound (by omega) hov HD.out
        subst hn0
        go_wp2_with fail
        go_loop [4, 6] (fun c m => ∃ t : Nat, c = .int .i64 (-(t : Int)) ∧ m = .int .i64 (n0 + 10000 * (t : Int)) ∧ (t = 0 ∨ n0 + 10000 * (t : Int) < 10000)) (fun _ m => (-(intOf m)).toNat)
        case atStart => exact ⟨0, by simp, by simp, .inl rfl⟩
        case round =>
          obtain ⟨t, rfl, rfl, ht⟩ := hrel
          have htb : n0 + 10000 * (t : Int) < 200100000000010000 := by omega
          have htc : (t : Int) ≤ 20020000000000 := by omega
          clear ht
          by_cases hneg : n0 + 10000 * (t : Int) < 0
          · go_wp2_with fail
            go_round
            case rel => exact ⟨t + 1, by go_num, by go_num, .inr (by omega)⟩
            case measure => simp [intOf]; omega
          · have HST : Hid (CInv d (k + 1) (os ++ [(n0 % 10000).toNat]) (n0 / 10000)) := HC.out.step HD.out n0 HN0.out
            have hq2 : -(t : Int) + (n0 + 10000 * (t : Int)) / 10000 = n0 / 10000 := by omega
            have HQ1 : Hid (n0 % 10000 = (((n0 % 10000).toNat : Nat) : Int)) := show n0 % 10000 = (((n0 % 10000).toNat : Nat) : Int) by rw [Int.toNat_of_nonneg (Int.emod_nonneg _ (by omega))]
            have HQ2 : Hid (-(t : Int) + (n0 + 10000 * (t : Int)) / 10000 = n0 / 10000) := hq2
            have hn1 : 0 ≤ n0 + 10000 * (t : Int) := by omega
            clear hq2 hneg
            go_wp2_with (at_builtin; refine wpList_append_own _ rfl _ _ 29 rfl w.heap.size 3 i0 (.int .i64 0) 1 8 Tryz.underlying29 hi hz0 hz1 hz2 rfl (by decide) _ _ _ rfl (hown.alloc _) ⟨wr.heap.size, 0, none⟩ 1 1 [.int .i64 (n0 % 10000)] rfl rfl ?q1 ?q2 ?q3 ?q4 ?q5 ?_)
            case q2 => first | rfl | (intro u hu; simp at hu; subst hu; rfl)
            case q3 => unfold maxLen; omega
            case q4 => omega
            case q5 => first | omega | (simp; omega)
            intro v4 w4 hown4 hgrow _
            have hm4 : Mod (fun _ => False) w w4 := (hm.alloc _).grown hgrow (fun q hq hlt => by have := (hown.lt q hq).1; omega)
            have hown5 : w4.ownsRow w.heap.size 3 1 v4 (k + 1) (ivs (os ++ [(n0 % 10000).toNat])) := by rw [← ivs_snoc, ← HQ1.out]; exact hown4
            obtain ⟨oo4, ocap4, rfl, -⟩ := owns_form hown4
            clear hown4 hgrow hown hm
            go_wp2_with fail
            go_roundw
            case rel => exact ⟨k + 1, os ++ [(n0 % 10000).toNat], n0 / 10000, by go_num, by rw [← HQ2.out], HST, by omega, hown5, hm4⟩
            case measure => rw [HQ2.out]; simp [intOf]; omega
      · have HF : Hid ((val os : Int) = valI d) := HC.out.finish (by omega) (by omega) h0
        have HD1 : Hid (Dig os) := HC.out.2.1
        have HL1 : Hid (os.length = k) := HC.out.1
        go_wp2_with fail
        go_ret
        exact ⟨hm, _, os, rfl, by rw [HL1.out]; exact hown, HD1.out, HF.out, by rw [HL1.out]; exact hk⟩
end Go.Proofs.YtmnfndpbblpjiabGreatDoor

/- The document's Inputs. -/
namespace Go.Proofs.YtmnfndpbblpjiabGreatDoor
open Go.RowKit Pu

/-- What Inputs answers. -/
def InpEnd (w : World) (o : Option (List Int)) (e : Ending) (w' : World) : Prop := Mod (fun _ => False) w w' ∧ match o with
  | none => e = .returned (.tuple #[.slice none 0 0, .bool false])
  | some l => ∃ v, e = .returned (.tuple #[v, .bool true]) ∧ w'.ownsRow w.heap.size 3 1 v l.length (zvs l)
theorem inpEnd_none {w w' : World} (hm : Mod (fun _ => False) w w') : InpEnd w none (.returned (.tuple #[.slice none 0 0, .bool false])) w' := ⟨hm, rfl⟩
theorem inpEnd_some {w w' : World} {l : List Int} {v : Value} (hm : Mod (fun _ => False) w w') (h : w'.ownsRow w.heap.size 3 1 v l.length (zvs l)) : InpEnd w (some l) (.returned (.tuple #[v, .bool true])) w' := ⟨hm, v, rfl, h⟩

set_option maxHeartbeats 800000 in
set_option maxRecDepth 100000 in
theorem inputs_any (s : ByteArray) (w : World) (hs : s.size ≤ 2000000) : Calls Tryz.prog 64 #[.string s] w (InpEnd w (inps s)) := by
  obtain ⟨i0, hi, hz0, hz1, hz2⟩ := info_parts Tryz.info3
  by_cases h0 : s.size = 0
  · have hse : s = ⟨#[]⟩ := by
      apply ByteArray.ext
      exact Array.eq_empty_of_size_eq_zero h0
    have HV : Hid (inps s = some []) := show _ = _ by simp [inps, h0]
    have hb : (s.toList == ([] : List UInt8)) = true := by rw [hse, ByteArray.toList_mk []]; rfl
    clear hse h0
    generalize inps s = ans at *
    go_enter Tryz.func64, Tryz.ntmps64
    go_wp2_with fail
    go_ret2
    rw [HV.out]
    exact inpEnd_some (Mod.refl _ _) (World.ownsRow_nil _ _ _ _)
  · have hb : (s.toList == ([] : List UInt8)) = false := by
      rw [beq_eq_false_iff_ne]
      intro e
      have : s = ⟨#[]⟩ := bytes_inj (by rw [e]; exact (ByteArray.toList_mk []).symm)
      rw [this] at h0
      exact h0 rfl
    have H0 : Hid (s.size ≠ 0) := h0
    clear h0
    go_enter Tryz.func64, Tryz.ntmps64
    go_wp2_with fail
    go_loopw [4, 5, 6, 7, 8] (fun lv fv iv _ _ wr => ∃ (i f : Nat) (l : List Int), i ≤ s.size + 1 ∧ iv = .int .i64 i ∧ fv = .int .i64 f ∧ f ≤ i ∧ l.length ≤ i ∧ wr.ownsRow w.heap.size 3 1 lv l.length (zvs l) ∧ Mod (fun _ => False) w wr ∧ Hid (inpSt s i = some (f, l))) (fun _ _ iv _ _ _ => s.size + 1 - (intOf iv).toNat)
    case atStart => exact ⟨0, 0, [], by omega, rfl, rfl, by omega, by simp, World.ownsRow_nil _ _ _ _, Mod.refl _ _, rfl⟩
    case round =>
      obtain ⟨i, f, l, hil, rfl, rfl, hfi, hll, hown, hm, HI⟩ := hrel
      obtain ⟨lo, lcap, rfl, -⟩ := owns_form hown
      by_cases hlt : i ≤ s.size
      · by_cases hc : i = s.size ∨ g s i = 44
        · have HBAD : Hid (numer (s.extract f i) = none → inps s = none) := fun h => inps_bad H0.out hlt HI.out hc h
          have HNUM : Hid (∀ n, numer (s.extract f i) = some n → inpSt s (i + 1) = some (i + 1, l ++ [n])) := fun n h => inpSt_num HI.out hc h
          by_cases hie : i = s.size
          · have b1 : ((i : Int) == (s.size : Int)) = true := beq_t hie
            clear hie
            clear hc
            go_wp2_with fail
            refine (numeral_any (s.extract f i) _).mono ?_
            rintro e w2 ⟨he, hm2⟩
            have hm3 := hm.trans hm2
            have hown3 := owns_mod hown hm2 (fun _ _ f => f)
            clear hm hm2 hown
            cases hnu : numer (s.extract f i) with
            | none =>
              have HV : Hid (inps s = none) := HBAD.out hnu
              rw [hnu] at he
              simp only [numAns] at he
              subst he
              go_wp2_with fail
              go_ret2
              rw [HV.out]
              exact inpEnd_none hm3
            | some n =>
              have hr := numer_range hnu
              have hsz := hm3.size
              have HI2 : Hid (inpSt s (i + 1) = some (i + 1, l ++ [n])) := HNUM.out n hnu
              rw [hnu] at he
              simp only [numAns] at he
              subst he
              clear hnu HBAD HNUM HI
              go_wp2_with (at_builtin; refine wpList_append_own _ rfl _ _ 29 rfl w.heap.size 3 i0 (.int .i64 0) 1 8 Tryz.underlying29 hi hz0 hz1 hz2 rfl (by decide) _ _ _ rfl (hown3.alloc _) ⟨w2.heap.size, 0, none⟩ 1 1 [.int .i64 n] rfl rfl ?p1 ?p2 ?p3 ?p4 ?p5 ?_)
              case p1 => exact cell_one_new _ _ _
              case p2 => first | rfl | (intro u hu; simp at hu; subst hu; rfl)
              case p3 => unfold maxLen; omega
              case p4 => omega
              case p5 => first | omega | (simp; omega)
              intro v4 w4 hown4 hgrow _
              have hm4 : Mod (fun _ => False) w w4 := (hm3.alloc _).grown hgrow (fun q hq hlt => by have := (hown3.lt q hq).1; omega)
              have hown5 : w4.ownsRow w.heap.size 3 1 v4 (l ++ [n]).length (zvs (l ++ [n])) := by
                have e1 : zvs (l ++ [n]) = zvs l ++ [.int .i64 n] := by simp [zvs]
                rw [e1, List.length_append]; exact hown4
              obtain ⟨oo4, ocap4, rfl, -⟩ := owns_form hown4
              clear hown4 hgrow hown3 hm3
              go_wp2_with fail
              go_roundw
              case rel => exact ⟨i + 1, i + 1, l ++ [n], by omega, by go_num, by go_num, by omega, by simp; omega, hown5, hm4, HI2⟩
              case measure => simp [intOf]; omega
          · have b1 : ((i : Int) == (s.size : Int)) = false := beq_f hie
            have hlt2 : i < s.size := by omega
            have hlt3 : (i : Int) < (s.size : Int) := by omega
            have b2 : (((s[i]'hlt2).toNat : Int) == 44) = true := beq_t (m := 44) (by rw [← g_in hlt2]; omega)
            clear hc
            go_wp2_with fail
            refine (numeral_any (s.extract f i) _).mono ?_
            rintro e w2 ⟨he, hm2⟩
            have hm3 := hm.trans hm2
            have hown3 := owns_mod hown hm2 (fun _ _ f => f)
            clear hm hm2 hown
            cases hnu : numer (s.extract f i) with
            | none =>
              have HV : Hid (inps s = none) := HBAD.out hnu
              rw [hnu] at he
              simp only [numAns] at he
              subst he
              go_wp2_with fail
              go_ret2
              rw [HV.out]
              exact inpEnd_none hm3
            | some n =>
              have hr := numer_range hnu
              have hsz := hm3.size
              have HI2 : Hid (inpSt s (i + 1) = some (i + 1, l ++ [n])) := HNUM.out n hnu
              rw [hnu] at he
              simp only [numAns] at he
              subst he
              clear hnu HBAD HNUM HI
              go_wp2_with (at_builtin; refine wpList_append_own _ rfl _ _ 29 rfl w.heap.size 3 i0 (.int .i64 0) 1 8 Tryz.underlying29 hi hz0 hz1 hz2 rfl (by decide) _ _ _ rfl (hown3.alloc _) ⟨w2.heap.size, 0, none⟩ 1 1 [.int .i64 n] rfl rfl ?p1 ?p2 ?p3 ?p4 ?p5 ?_)
              case p1 => exact cell_one_new _ _ _
              case p2 => first | rfl | (intro u hu; simp at hu; subst hu; rfl)
              case p3 => unfold maxLen; omega
              case p4 => omega
              case p5 => first | omega | (simp; omega)
              intro v4 w4 hown4 hgrow _
              have hm4 : Mod (fun _ => False) w w4 := (hm3.alloc _).grown hgrow (fun q hq hlt => by have := (hown3.lt q hq).1; omega)
              have hown5 : w4.ownsRow w.heap.size 3 1 v4 (l ++ [n]).length (zvs (l ++ [n])) := by
                have e1 : zvs (l ++ [n]) = zvs l ++ [.int .i64 n] := by simp [zvs]
                rw [e1, List.length_append]; exact hown4
              obtain ⟨oo4, ocap4, rfl, -⟩ := owns_form hown4
              clear hown4 hgrow hown3 hm3
              go_wp2_with fail
              go_roundw
              case rel => exact ⟨i + 1, i + 1, l ++ [n], by omega, by go_num, by go_num, by omega, by simp; omega, hown5, hm4, HI2⟩
              case measure => simp [intOf]; omega
        · have HI2 : Hid (inpSt s (i + 1) = some (f, l)) := inpSt_on HI.out hc
          have hlt2 : i < s.size := by omega
          have hlt3 : (i : Int) < (s.size : Int) := by omega
          have b1 : ((i : Int) == (s.size : Int)) = false := beq_f (by omega)
          have b2 : (((s[i]'hlt2).toNat : Int) == 44) = false := beq_f (m := 44) (by rw [← g_in hlt2]; omega)
          clear HI hc
          go_wp2_with fail
          go_roundw
          case rel => exact ⟨i + 1, f, l, by omega, by go_num, rfl, by omega, by omega, hown, hm, HI2⟩
          case measure => simp [intOf]; omega
      · have hi' : i = s.size + 1 := by omega
        have HV : Hid (inps s = some l) := inps_good H0.out (by rw [← hi']; exact HI.out)
        generalize inps s = ans at *
        clear hi' HI
        go_wp2_with fail
        go_ret2
        rw [HV.out]
        exact inpEnd_some hm hown
end Go.Proofs.YtmnfndpbblpjiabGreatDoor

/- Codes: plain functions: which steps are needed. -/
namespace Go.Proofs.YtmnfndpbblpjiabGreatDoor.Pu

def mark1 (l : List Stp) (k : Nat) (nd : List Bool) (r : Nat) : List Bool := if 0 ≤ setterI l r k then nd.set (setterI l r k).toNat true else nd
def marks (l : List Stp) (k : Nat) (rs : List Nat) (nd : List Bool) : List Bool := rs.foldl (mark1 l k) nd
def isN (l : List Stp) (k : Nat) (nd : List Bool) : Bool := nd[k]?.getD false || decide (6 ≤ (l[k]?.getD ⟨0, 0, 0, 0⟩).op)
def needStep (l : List Stp) (k : Nat) (nd : List Bool) : List Bool :=
  if isN l k nd then marks l k (readsOf (l[k]?.getD ⟨0, 0, 0, 0⟩)) (nd.set k true) else nd
def needFrom (l : List Stp) : Nat → List Bool → List Bool
  | 0, nd => nd
  | k + 1, nd => needFrom l k (needStep l k nd)
def neededL (l : List Stp) : List Bool := needFrom l l.length (List.replicate l.length false)
theorem mark1_len (l : List Stp) (k : Nat) (nd : List Bool) (r : Nat) : (mark1 l k nd r).length = nd.length := by unfold mark1; split <;> simp
theorem marks_len (l : List Stp) (k : Nat) (rs : List Nat) (nd : List Bool) : (marks l k rs nd).length = nd.length := by
  induction rs generalizing nd with
  | nil => rfl
  | cons r rs ih => show (marks l k rs (mark1 l k nd r)).length = _; rw [ih, mark1_len]
theorem needStep_len (l : List Stp) (k : Nat) (nd : List Bool) : (needStep l k nd).length = nd.length := by
  unfold needStep; split
  · rw [marks_len]; simp
  · rfl
theorem needFrom_len (l : List Stp) (k : Nat) (nd : List Bool) : (needFrom l k nd).length = nd.length := by
  induction k generalizing nd with
  | zero => rfl
  | succ k ih => show (needFrom l k (needStep l k nd)).length = _; rw [ih, needStep_len]
theorem neededL_len (l : List Stp) : (neededL l).length = l.length := by unfold neededL; rw [needFrom_len]; simp
theorem marks_take (l : List Stp) (k : Nat) (rs : List Nat) (nd : List Bool) (j : Nat) (hj : j < rs.length) : marks l k (rs.take (j + 1)) nd = mark1 l k (marks l k (rs.take j) nd) rs[j] := by
  unfold marks
  rw [List.take_succ_eq_append_getElem hj, List.foldl_append]
  rfl
theorem isN_at {l : List Stp} {k : Nat} {nd : List Bool} (hk : k < l.length) (hn : k < nd.length) : isN l k nd = (nd[k] || decide (6 ≤ l[k].op)) := by simp [isN, hk, hn]
theorem needStep_yes {l : List Stp} {k : Nat} {nd : List Bool} (hk : k < l.length) (h : isN l k nd = true) : needStep l k nd = marks l k (readsOf l[k]) (nd.set k true) := by simp [needStep, h, hk]
theorem needStep_no {l : List Stp} {k : Nat} {nd : List Bool} (h : isN l k nd = false) : needStep l k nd = nd := by simp [needStep, h]

/-- The steps that are kept, ahead of step k, and how many they are. -/
def bodyTo (s : ByteArray) (nd : List Bool) : Nat → ByteArray
  | 0 => ⟨#[]⟩
  | k + 1 => if nd[k]?.getD false then bodyTo s nd k ++ s.extract (6 + 4 * k) (10 + 4 * k) else bodyTo s nd k
def cntTo (nd : List Bool) : Nat → Nat
  | 0 => 0
  | k + 1 => if nd[k]?.getD false then cntTo nd k + 1 else cntTo nd k
theorem cntTo_le (nd : List Bool) (k : Nat) : cntTo nd k ≤ k := by
  induction k with
  | zero => simp [cntTo]
  | succ k ih => simp only [cntTo]; split <;> omega
theorem bodyTo_yes {s : ByteArray} {nd : List Bool} {k : Nat} (h : k < nd.length) (hb : nd[k] = true) : bodyTo s nd (k + 1) = bodyTo s nd k ++ s.extract (6 + 4 * k) (10 + 4 * k) := by simp [bodyTo, h, hb]
theorem bodyTo_no {s : ByteArray} {nd : List Bool} {k : Nat} (h : k < nd.length) (hb : nd[k] = false) : bodyTo s nd (k + 1) = bodyTo s nd k := by simp [bodyTo, h, hb]
theorem cntTo_yes {nd : List Bool} {k : Nat} (h : k < nd.length) (hb : nd[k] = true) : cntTo nd (k + 1) = cntTo nd k + 1 := by simp [cntTo, h, hb]
theorem cntTo_no {nd : List Bool} {k : Nat} (h : k < nd.length) (hb : nd[k] = false) : cntTo nd (k + 1) = cntTo nd k := by simp [cntTo, h, hb]
theorem bodyTo_size (s : ByteArray) (nd : List Bool) (k : Nat) : (bodyTo s nd k).size ≤ 4 * k := by
  induction k with
  | zero => simp [bodyTo, ByteArray.size]
  | succ k ih =>
    simp only [bodyTo]; split
    · rw [ByteArray.size_append, ByteArray.size_extract]; omega
    · omega
/-- What Shrink answers of a right code. -/
def shr (s : ByteArray) : ByteArray :=
  s.extract 0 4 ++ ⟨#[UInt8.ofNat (cntTo (neededL (steps s)) (nst s) % 256), UInt8.ofNat (cntTo (neededL (steps s)) (nst s) / 256)]⟩ ++ bodyTo s (neededL (steps s)) (nst s)

end Go.Proofs.YtmnfndpbblpjiabGreatDoor.Pu

/- Codes, as the program holds them: what fits, which registers are marked. -/
namespace Go.Proofs.YtmnfndpbblpjiabGreatDoor.Pu

def rz (op : Nat) : Bool := decide (op = 2) || decide (op = 3) || decide (op = 4)
def ry (op : Nat) : Bool := decide (op = 5) || rz op
def opFit (t : Stp) (ins : Nat) : Bool :=
  if t.op = 0 then decide (t.y < ins) && decide (t.z = 0)
  else if t.op = 1 ∨ t.op = 5 then decide (t.z = 0)
  else if t.op = 2 ∨ t.op = 3 ∨ t.op = 4 then true
  else if t.op = 6 then decide (t.y = 0) && decide (t.z = 0)
  else if t.op = 7 then decide (t.y < 3) && decide (t.z < 16)
  else false
def rdFit (M : Nat → Bool) (t : Stp) : Bool := (decide (t.op ≤ 5) || M t.x) && (!(ry t.op) || M t.y) && (!(rz t.op) || M t.z)
def stFit (M : Nat → Bool) (t : Stp) (regs ins : Nat) : Bool := opFit t ins && decide (t.x < regs) && rdFit M t
/-- Which registers a step ahead of k sets. -/
def Set (l : List Stp) (k : Nat) : Nat → Bool := fun r => decide (0 ≤ setterI l r k)
theorem Set_zero (l : List Stp) : Set l 0 = fun _ => false := by funext r; simp [Set, setterI]
theorem Set_yes {l : List Stp} {k : Nat} (hk : k < l.length) (h : l[k].op ≤ 5) : Set l (k + 1) = fun r => if r = l[k].x then true else Set l k r := by
  funext r
  unfold Set
  by_cases e : r = l[k].x
  · subst e; rw [setterI_hit hk ⟨h, rfl⟩, if_pos rfl]; simp
  · rw [setterI_miss hk (fun h2 => e h2.2.symm), if_neg e]
theorem Set_no {l : List Stp} {k : Nat} (hk : k < l.length) (h : ¬ l[k].op ≤ 5) : Set l (k + 1) = Set l k := by
  funext r
  unfold Set
  rw [setterI_miss hk (fun h2 => h h2.1)]
theorem proper_fit (t : Stp) (regs ins : Nat) : properB t regs ins = (opFit t ins && decide (t.x < regs)) := by
  unfold properB opFit
  rcases t with ⟨op, x, y, z⟩
  by_cases hx : regs ≤ x
  · simp [hx]
  · have hx' : x < regs := by omega
    simp only [hx, hx', or_false, decide_true, Bool.and_true]
    by_cases h7 : 7 < op
    · simp [h7, show ¬ op = 0 by omega, show ¬ op = 1 by omega, show ¬ op = 2 by omega, show ¬ op = 3 by omega, show ¬ op = 4 by omega, show ¬ op = 5 by omega, show ¬ op = 6 by omega, show ¬ op = 7 by omega]
    · have : op = 0 ∨ op = 1 ∨ op = 2 ∨ op = 3 ∨ op = 4 ∨ op = 5 ∨ op = 6 ∨ op = 7 := by omega
      rcases this with rfl | rfl | rfl | rfl | rfl | rfl | rfl | rfl <;> simp
      · by_cases hy : ins ≤ y
        · simp [hy, show ¬ y < ins by omega]
        · simp [hy, show y < ins by omega]
theorem right_fit (l : List Stp) (k : Nat) (t : Stp) (regs ins : Nat) (H : ∀ r, Set l k r = true → r < regs) : rightB l k t regs ins = stFit (Set l k) t regs ins := by
  unfold rightB stFit
  rw [proper_fit]
  cases h : opFit t ins && decide (t.x < regs)
  · rfl
  · simp only [Bool.true_and]
    have h7 : t.op ≤ 7 := by
      refine Nat.le_of_not_lt fun hh => ?_
      simp [opFit, show ¬ t.op = 0 by omega, show ¬ t.op = 1 by omega, show ¬ t.op = 2 by omega, show ¬ t.op = 3 by omega, show ¬ t.op = 4 by omega, show ¬ t.op = 5 by omega, show ¬ t.op = 6 by omega, show ¬ t.op = 7 by omega] at h
    have hm : ∀ r, (decide (r < regs) && decide (0 ≤ setterI l r k)) = Set l k r := fun r => by
      have := H r
      unfold Set at *
      by_cases e : 0 ≤ setterI l r k
      · simp [e, this (by simp [e])]
      · simp [e]
    simp only [hm]
    unfold readsOf rdFit ry rz
    have : t.op = 0 ∨ t.op = 1 ∨ t.op = 2 ∨ t.op = 3 ∨ t.op = 4 ∨ t.op = 5 ∨ t.op = 6 ∨ t.op = 7 := by omega
    rcases this with e | e | e | e | e | e | e | e <;> simp [e]
/-- What is set is below REGS, as long as all steps are right. -/
theorem Set_below {l : List Stp} {k regs ins : Nat} (hk : k ≤ l.length) (h : ∀ j (hj : j < k), rightB l j (l[j]'(by omega)) regs ins = true) : ∀ r, Set l k r = true → r < regs := by
  induction k with
  | zero => intro r hr; simp [Set_zero] at hr
  | succ k ih =>
    intro r hr
    have hkl : k < l.length := by omega
    by_cases h5 : l[k].op ≤ 5
    · rw [Set_yes hkl h5] at hr
      by_cases e : r = l[k].x
      · have := h k (by omega)
        unfold rightB at this
        rw [proper_fit] at this
        simp at this
        omega
      · simp only [if_neg e] at hr
        exact ih (by omega) (fun j hj => h j (by omega)) r hr
    · rw [Set_no hkl h5] at hr
      exact ih (by omega) (fun j hj => h j (by omega)) r hr
end Go.Proofs.YtmnfndpbblpjiabGreatDoor.Pu

/- Codes: what is wanted ahead of a step, against who set it. -/
namespace Go.Proofs.YtmnfndpbblpjiabGreatDoor.Pu

def upd (r : Nat) (b : Bool) (W : Nat → Bool) : Nat → Bool := fun i => if i = r then b else W i
def wAhead (t : Stp) (W : Nat → Bool) : Nat → Bool :=
  if rz t.op then upd t.z true (if ry t.op then upd t.y true (upd t.x (!decide (t.op ≤ 5)) W) else upd t.x (!decide (t.op ≤ 5)) W)
  else (if ry t.op then upd t.y true (upd t.x (!decide (t.op ≤ 5)) W) else upd t.x (!decide (t.op ≤ 5)) W)
def pN (t : Stp) (W : Nat → Bool) : Bool := !decide (t.op ≤ 5) || W t.x
theorem wAhead_iff (t : Stp) (W : Nat → Bool) (r : Nat) : wAhead t W r = true ↔ r ∈ readsOf t ∨ (W r = true ∧ ¬ (t.op ≤ 5 ∧ r = t.x)) := by
  obtain ⟨op, x, y, z⟩ := t
  unfold wAhead upd readsOf ry rz
  have h : op = 0 ∨ op = 1 ∨ op = 2 ∨ op = 3 ∨ op = 4 ∨ op = 5 ∨ 5 < op := by omega
  rcases h with rfl | rfl | rfl | rfl | rfl | rfl | h
  · by_cases c : r = x <;> simp [c]
  · by_cases c : r = x <;> simp [c]
  · by_cases a : r = z <;> by_cases b : r = y <;> by_cases c : r = x <;> simp [a, b, c] <;> simp_all
  · by_cases a : r = z <;> by_cases b : r = y <;> by_cases c : r = x <;> simp [a, b, c] <;> simp_all
  · by_cases a : r = z <;> by_cases b : r = y <;> by_cases c : r = x <;> simp [a, b, c] <;> simp_all
  · by_cases b : r = y <;> by_cases c : r = x <;> simp [b, c] <;> simp_all
  · by_cases c : r = x <;> simp [c, show ¬ op = 2 by omega, show ¬ op = 3 by omega, show ¬ op = 4 by omega, show ¬ op = 5 by omega, show ¬ op ≤ 5 by omega, show ¬ op ≤ 4 by omega, show 6 ≤ op by omega]
theorem mark1_get (l : List Stp) (k : Nat) (nd : List Bool) (r j : Nat) : (mark1 l k nd r)[j]? = some true ↔ nd[j]? = some true ∨ (j < nd.length ∧ setterI l r k = (j : Int)) := by
  unfold mark1
  by_cases h : 0 ≤ setterI l r k
  · rw [if_pos h, List.getElem?_set]
    by_cases e : (setterI l r k).toNat = j
    · have : setterI l r k = (j : Int) := by omega
      rw [if_pos e]
      by_cases hl : j < nd.length
      · simp [hl, this]
      · simp [e, hl]
    · have : setterI l r k ≠ (j : Int) := by omega
      rw [if_neg e]
      simp [this]
  · rw [if_neg h]
    have : setterI l r k ≠ (j : Int) := by omega
    simp [this]
theorem marks_get (l : List Stp) (k : Nat) (rs : List Nat) (nd : List Bool) (j : Nat) : (marks l k rs nd)[j]? = some true ↔ nd[j]? = some true ∨ (j < nd.length ∧ ∃ r ∈ rs, setterI l r k = (j : Int)) := by
  induction rs generalizing nd with
  | nil => simp [marks]
  | cons r rs ih =>
    show (marks l k rs (mark1 l k nd r))[j]? = some true ↔ _
    rw [ih, mark1_get, mark1_len]
    constructor
    · rintro ((h | ⟨h1, h2⟩) | ⟨h1, r', h2, h3⟩)
      · exact .inl h
      · exact .inr ⟨h1, r, by simp, h2⟩
      · exact .inr ⟨h1, r', by simp [h2], h3⟩
    · rintro (h | ⟨h1, r', h2, h3⟩)
      · exact .inl (.inl h)
      · rcases List.mem_cons.1 h2 with rfl | h2
        · exact .inl (.inr ⟨h1, h3⟩)
        · exact .inr ⟨h1, r', h2, h3⟩
theorem mark1_keep (l : List Stp) (k : Nat) (nd : List Bool) (r j : Nat) (hj : k ≤ j) : (mark1 l k nd r)[j]? = nd[j]? := by
  unfold mark1
  have := setterI_lt l r k
  split
  · rw [List.getElem?_set, if_neg (by omega)]
  · rfl
theorem marks_keep (l : List Stp) (k : Nat) (rs : List Nat) (nd : List Bool) (j : Nat) (hj : k ≤ j) : (marks l k rs nd)[j]? = nd[j]? := by
  induction rs generalizing nd with
  | nil => rfl
  | cons r rs ih => show (marks l k rs (mark1 l k nd r))[j]? = _; rw [ih, mark1_keep _ _ _ _ _ hj]
theorem needStep_keep (l : List Stp) (k : Nat) (nd : List Bool) (j : Nat) (hj : k < j) : (needStep l k nd)[j]? = nd[j]? := by
  unfold needStep
  split
  · rw [marks_keep _ _ _ _ _ (by omega), List.getElem?_set, if_neg (by omega)]
  · rfl
theorem needFrom_keep (l : List Stp) (k : Nat) (nd : List Bool) (j : Nat) (hj : k ≤ j) : (needFrom l k nd)[j]? = nd[j]? := by
  induction k generalizing nd with
  | zero => rfl
  | succ k ih => show (needFrom l k (needStep l k nd))[j]? = _; rw [ih _ (by omega), needStep_keep _ _ _ _ (by omega)]
/-- Having come down to step k. -/
structure NInv (l : List Stp) (k : Nat) (nd : List Bool) (W : Nat → Bool) : Prop where
  len : nd.length = l.length
  ahead : ∀ j, j < k → (nd[j]? = some true ↔ ∃ r, W r = true ∧ setterI l r k = (j : Int))
  fin : needFrom l k nd = neededL l
theorem NInv.start (l : List Stp) : NInv l l.length (List.replicate l.length false) (fun _ => false) :=
  ⟨by simp, fun j hj => by simp [hj], rfl⟩
theorem NInv.isn {l : List Stp} {k : Nat} {nd : List Bool} {W : Nat → Bool} (h : NInv l (k + 1) nd W) (hk : k < l.length) : isN l k nd = pN l[k] W := by
  rw [isN_at hk (by rw [h.len]; exact hk)]
  have ha := h.ahead k (by omega)
  rw [List.getElem?_eq_getElem (by rw [h.len]; exact hk)] at ha
  unfold pN
  by_cases h5 : l[k].op ≤ 5
  · simp only [h5, decide_true, Bool.not_true, Bool.false_or, show ¬ 6 ≤ l[k].op by omega, decide_false, Bool.or_false]
    rw [Bool.eq_iff_iff]
    constructor
    · intro hn
      obtain ⟨r, h1, h2⟩ := ha.1 (by rw [hn])
      by_cases e : l[k].x = r
      · rw [e]; exact h1
      · rw [setterI_miss hk (fun h => e h.2)] at h2
        have := setterI_lt l r k
        omega
    · intro hw
      have := ha.2 ⟨l[k].x, hw, setterI_hit hk ⟨h5, rfl⟩⟩
      simpa using this
  · simp [h5, show 6 ≤ l[k].op by omega]
theorem NInv.val {l : List Stp} {k : Nat} {nd : List Bool} {W : Nat → Bool} (h : NInv l (k + 1) nd W) (hk : k < l.length) : (neededL l)[k]? = some (pN l[k] W) := by
  have hi := h.isn hk
  rw [← h.fin]
  show (needFrom l k (needStep l k nd))[k]? = _
  rw [needFrom_keep _ _ _ _ (Nat.le_refl k)]
  have hl : k < nd.length := by rw [h.len]; exact hk
  cases hp : isN l k nd with
  | true =>
    rw [needStep_yes hk hp, marks_keep _ _ _ _ _ (Nat.le_refl k), ← hi, hp]
    simp [hl]
  | false =>
    rw [needStep_no hp, ← hi, hp]
    rw [isN_at hk hl] at hp
    simp at hp
    simp [hl, hp.1]
theorem NInv.yes {l : List Stp} {k : Nat} {nd : List Bool} {W : Nat → Bool} (h : NInv l (k + 1) nd W) (hk : k < l.length) (hp : pN l[k] W = true) : NInv l k (needStep l k nd) (wAhead l[k] W) := by
  have hi := h.isn hk
  rw [hp] at hi
  refine ⟨by rw [needStep_len]; exact h.len, fun j hj => ?_, h.fin⟩
  rw [needStep_yes hk hi, marks_get, List.getElem?_set, if_neg (by omega), h.ahead j (by omega)]
  have hl : j < (nd.set k true).length := by simp; rw [h.len]; omega
  constructor
  · rintro (⟨r, h1, h2⟩ | ⟨_, r, h1, h2⟩)
    · by_cases e : l[k].op ≤ 5 ∧ l[k].x = r
      · rw [setterI_hit hk e] at h2; omega
      · rw [setterI_miss hk e] at h2
        exact ⟨r, (wAhead_iff _ _ _).2 (.inr ⟨h1, fun h => e ⟨h.1, h.2.symm⟩⟩), h2⟩
    · exact ⟨r, (wAhead_iff _ _ _).2 (.inl h1), h2⟩
  · rintro ⟨r, h1, h2⟩
    rcases (wAhead_iff _ _ _).1 h1 with h1 | ⟨h1, h3⟩
    · exact .inr ⟨hl, r, h1, h2⟩
    · exact .inl ⟨r, h1, by rw [setterI_miss hk (fun h => h3 ⟨h.1, h.2.symm⟩)]; exact h2⟩
theorem NInv.no {l : List Stp} {k : Nat} {nd : List Bool} {W : Nat → Bool} (h : NInv l (k + 1) nd W) (hk : k < l.length) (hp : pN l[k] W = false) : NInv l k (needStep l k nd) W := by
  have hi := h.isn hk
  rw [hp] at hi
  simp [pN] at hp
  refine ⟨by rw [needStep_len]; exact h.len, fun j hj => ?_, h.fin⟩
  rw [needStep_no hi, h.ahead j (by omega)]
  have hr : ∀ r, W r = true → setterI l r (k + 1) = setterI l r k := fun r hr => setterI_miss hk (fun h => by rw [h.2] at hp; simp [hr] at hp)
  constructor
  · rintro ⟨r, h1, h2⟩; exact ⟨r, h1, by rw [← hr r h1]; exact h2⟩
  · rintro ⟨r, h1, h2⟩; exact ⟨r, h1, by rw [hr r h1]; exact h2⟩
/-- What the program has told of the steps, having come down to k. -/
def toldTo (l : List Stp) (k : Nat) : List Bool := List.replicate k false ++ (neededL l).drop k
theorem toldTo_len (l : List Stp) (k : Nat) (hk : k ≤ l.length) : (toldTo l k).length = l.length := by simp [toldTo, neededL_len]; omega
theorem toldTo_start (l : List Stp) : toldTo l l.length = List.replicate l.length false := by
  unfold toldTo; rw [List.drop_of_length_le (by rw [neededL_len]; exact Nat.le_refl _)]; simp
theorem toldTo_zero (l : List Stp) : toldTo l 0 = neededL l := by simp [toldTo]
theorem toldTo_step {l : List Stp} {k : Nat} {b : Bool} (_hk : k < l.length) (h : (neededL l)[k]? = some b) : (toldTo l (k + 1)).set k b = toldTo l k := by
  apply List.ext_getElem?
  intro j
  have hn : (neededL l).length = l.length := neededL_len l
  unfold toldTo
  rw [List.getElem?_set]
  by_cases e : k = j
  · subst e
    rw [if_pos rfl]
    simp [List.getElem?_append, h]; omega
  · rw [if_neg e]
    by_cases hj : j < k
    · simp [List.getElem?_append, hj, show j < k + 1 by omega]
    · simp [List.getElem?_append, hj, show ¬ j < k + 1 by omega]
      congr 1
      omega
end Go.Proofs.YtmnfndpbblpjiabGreatDoor.Pu

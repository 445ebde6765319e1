/- The document's Check. -/
import Derived.Test.YtmnfndpbblpjiabGreatDoorZc29
namespace Go.Proofs.YtmnfndpbblpjiabGreatDoor
open Go.RowKit Pu
theorem Pu.whole_head {s : ByteArray} (h : Whole s) : g s 0 ≠ 61 := by
 obtain ⟨x,hx,_⟩ := h
 by_cases h0 : s.size = 0
 ·rw [g_out (by omega)]; decide
 ·obtain ⟨d,hd⟩ : ∃ d,s.size = 1 + d := ⟨s.size - 1,by omega⟩
  rw [hd] at hx
  obtain ⟨y,hy⟩ := stA_le hx
  intro he
  simp [stA,nx,he,isL] at hy
set_option maxHeartbeats 400000 in
theorem rcheck_long (s : ByteArray) (w : World) (hs : 300 < s.size) (hm : s.size ≤ maxLen) : Calls Tryz.prog 59 #[.string s] w fun e w' => e = .returned (.tuple #[.int .i64 1,.int .i64 0]) ∧ w = w' := by
 unfold maxLen at hm
 go_enter Tryz.func59,Tryz.ntmps59
 go_wp2_with fail
 go_ret2
 exact ⟨rfl,rfl⟩
set_option maxHeartbeats 1000000 in
set_option maxRecDepth 100000 in
theorem rcheck_any (s : ByteArray) (w : World) (hs : s.size ≤ 300) : Calls Tryz.prog 59 #[.string s] w fun e w' => (∃ a b : Nat,Ans s a b ∧ e = .returned (.tuple #[.int .i64 a,.int .i64 b])) ∧ Mod (fun _ => False) w w' := by
 go_enter Tryz.func59,Tryz.ntmps59
 go_wp2_with fail
 refine (place_any s w hs).mono ?_
 rintro e w1 ⟨hm1,⟨rfl,hw⟩ | ⟨k,rfl,hst⟩⟩
 ·go_wp2_with fail
  refine (stmts_any s w1 hs (whole_head hw)).mono ?_
  rintro e w2 ⟨hm2,v,rfl,hL⟩
  have hll := (ga_len s s.size).1
  have HAns : Hid (∀ (a b : Nat) (p : List (St × Nat)) (hk : b < (gaA s s.size).l.length),Ok p → sts p = (gaA s s.size).l.take b → err p (gaA s s.size).l[b] ≠ 0 → a = err p (gaA s s.size).l[b] → Ans s a b) := fun a b p hk h1 h2 h3 h4 => .inr (.inl ⟨hw,p,hk,h1,h2,h3,h4⟩)
  have HOk : Hid (∀ p,Ok p → sts p = (gaA s s.size).l → Ans s 0 0) := fun p h1 h2 => .inr (.inr ⟨hw,rfl,rfl,p,h1,h2⟩)
  generalize (gaA s s.size).l = l at *
  have hm := hm1.trans hm2
  clear hm1 hm2
  obtain ⟨ao,cap,rfl,-⟩ := owns_form hL
  go_wp2_with fail
  go_loopw [6] (fun i wr => ∃ (k : Nat) (p : List (St × Nat)),k ≤ l.length ∧ i = .int .i64 k ∧ p.length = k ∧ Ok p ∧ sts p = l.take p.length ∧ RLst wr w1.heap.size (.slice ao l.length cap) l ∧ Mod (fun _ => False) w wr) (fun i _ => l.length - (intOf i).toNat)
  case atStart => exact ⟨0,[],by omega,rfl,rfl,Ok.nil,rfl,hL,hm⟩
  case round =>
   clear hL hm
   obtain ⟨k,p,hk,rfl,rfl,hok,hp,hL,hm⟩ := hrel
   have HP : Hid (sts p = l.take p.length) := hp
   clear hp
   by_cases hlt : p.length < l.length
   ·by_cases he : err p l[p.length] = 0
    ·have HE : Hid (err p l[p.length] = 0) := he
     clear he
     go_wp2_with fail
     have hF := fault_any _ l w1.heap.size wr p (by omega) hL hok HP.out hlt
     rw [HE.out] at hF
     refine hF.mono ?_
     clear hF
     rintro e w3 ⟨rfl,hm3⟩
     have hL3 := hL.mod hm3
     have hm4 := hm.trans hm3
     clear hL hm hm3
     go_wp2_with fail
     go_roundw
     case rel => exact ⟨p.length + 1,p ++ [(l[p.length],wgh p l[p.length])],by omega,by go_num,by simp,hok.snoc HE.out,by
      rw [List.length_append]; simp only [sts,List.map_append]; rw [show (p.map Prod.fst) = l.take p.length from HP.out]; exact (take_snoc' l p.length hlt).symm,hL3,hm4⟩
     case measure => simp [intOf]; omega
    ·have hF := fault_any _ l w1.heap.size wr p (by omega) hL hok HP.out hlt
     have HF : Hid (Calls Tryz.prog 100 #[.slice ao l.length cap,.int .i64 p.length] wr fun e w' => e = .returned (.int .i64 (err p l[p.length])) ∧ Mod (fun _ => False) wr w') := hF
     have HA : Hid (Ans s (err p l[p.length]) p.length) := HAns.out _ _ p hlt hok HP.out he rfl
     clear hF HAns HOk
     generalize err p l[p.length] = er at *
     have hb : ((er : Int) != 0) = true := by rw [bne_iff_ne]; omega
     go_wp2_with fail
     refine HF.out.mono ?_
     rintro e w3 ⟨rfl,hm3⟩
     go_wp2_with fail
     go_ret2
     exact ⟨⟨er,p.length,HA.out,rfl⟩,hm.trans hm3⟩
   ·have HA : Hid (Ans s 0 0) := HOk.out p hok (by rw [HP.out,List.take_of_length_le (by omega)])
    go_wp2_with fail
    go_ret2
    exact ⟨⟨0,0,HA.out,rfl⟩,hm⟩
 ·go_wp2_with fail
  go_ret2
  exact ⟨⟨2,k,.inl ⟨hst,rfl⟩,rfl⟩,hm1⟩
def ptR (x : St) : Nat := if (x.name != 0 && x.word == [112,116]) = true then 2 else 0
def ndR (l : List St) : Nat := (l.map ptR).sum
theorem ndR_snoc (l : List St) (x : St) : ndR (l ++ [x]) = ndR l + ptR x := by simp [ndR]
theorem ndR_le (l : List St) : ndR l ≤ 2 * l.length := by
 induction l with
 | nil => simp [ndR]
 | cons x l ih =>
  simp only [ndR,List.map_cons,List.sum_cons,List.length_cons] at *
  have : ptR x ≤ 2 := by unfold ptR; split <;> omega
  omega
theorem Ans.zero {s : ByteArray} {b : Nat} (h : Ans s 0 b) : Whole s ∧ b = 0 ∧ ∃ p,Ok p ∧ sts p = (gaA s s.size).l := by
 rcases h with ⟨_,h⟩ | ⟨_,p,hk,_,_,he,h⟩ | ⟨hw,_,hb,p,hok,hp⟩
 ·omega
 ·exact absurd h.symm he
 ·exact ⟨hw,hb,p,hok,hp⟩
set_option maxHeartbeats 800000 in
set_option maxRecDepth 100000 in
theorem rneed_any (v : Value) (l : List St) (base : Nat) (w : World) (hl : l.length ≤ 1000) (hL : RLst w base v l) : Calls Tryz.prog 70 #[v] w fun e w' => e = .returned (.int .i64 (ndR l)) ∧ w = w' := by
 obtain ⟨ao,cap,rfl,-⟩ := owns_form hL
 go_enter Tryz.func70,Tryz.ntmps70
 go_wp2_with fail
 go_loop [3,4] (fun a i => ∃ k : Nat,k ≤ l.length ∧ i = .int .i64 k ∧ a = .int .i64 (ndR (l.take k))) (fun _ i => l.length - (intOf i).toNat)
 case atStart => exact ⟨0,by omega,rfl,rfl⟩
 case round =>
  obtain ⟨k,hk,rfl,rfl⟩ := hrel
  have b1 := ndR_le (l.take k)
  have b2 : (l.take k).length ≤ k := List.length_take_le _ _
  by_cases hlt : k < l.length
  ·have HT : Hid (l.take (k + 1) = l.take k ++ [l[k]]) := take_snoc' _ _ hlt
   obtain ⟨gb,rfl,c0,c1,-⟩ := hL.cell hlt
   by_cases hn : l[k].name = 0
   ·have HP : Hid (ptR l[k] = 0) := show ptR l[k] = 0 by simp [ptR,hn]
    have hb : ((l[k].name : Int) != 0) = false := by rw [hn]; rfl
    clear hn
    go_wp2_with fail
    go_round
    case rel => exact ⟨k + 1,by omega,by go_num,by rw [HT.out,ndR_snoc,HP.out]; rfl⟩
    case measure => simp [intOf]; omega
   ·have hb : ((l[k].name : Int) != 0) = true := by rw [bne_iff_ne]; omega
    cases hpt : (l[k].word == [112,116]) with
    | true =>
     have HP : Hid (ptR l[k] = 2) := show ptR l[k] = 2 by simp [ptR,hpt,hn]
     go_wp2_with fail
     go_round
     case rel => exact ⟨k + 1,by omega,by go_num,by rw [HT.out,ndR_snoc,HP.out]; go_num⟩
     case measure => simp [intOf]; omega
    | false =>
     have HP : Hid (ptR l[k] = 0) := show ptR l[k] = 0 by simp [ptR,hpt]
     go_wp2_with fail
     go_round
     case rel => exact ⟨k + 1,by omega,by go_num,by rw [HT.out,ndR_snoc,HP.out]; rfl⟩
     case measure => simp [intOf]; omega
  ·have HT : Hid (l.take k = l) := List.take_of_length_le (by omega)
   go_wp2_with fail
   go_ret
   exact ⟨by rw [HT.out]; rfl,rfl⟩
end Go.Proofs.YtmnfndpbblpjiabGreatDoor

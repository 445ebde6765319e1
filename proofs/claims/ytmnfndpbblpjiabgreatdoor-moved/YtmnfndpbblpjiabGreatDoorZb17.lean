/- The maker's guard and keep, word by word. -/
import Derived.Test.YtmnfndpbblpjiabGreatDoorZb16
import Derived.Test.YtmnfndpbblpjiabGreatDoorZb06
import Derived.Test.YtmnfndpbblpjiabGreatDoorZb01
namespace Go.Proofs.YtmnfndpbblpjiabGreatDoor
open Go.RowKit Pu

set_option maxHeartbeats 800000 in
theorem mgrd_line (mb : Nat) (L : List Stp) (s i : Nat) (m : Tr) (k : Nat) (w : World) (hM : Mkr w mb L s i) (hroom : Room L s 4) (h8 : S8 m) (hk : k < 16) :
    Calls Tryz.prog 51 #[mP mb, S [108, 105, 110, 101], trV m, .int .i64 k] w fun e w' => e = .returned (.tuple #[]) ∧ MkEnd w w' mb (L ++ (prodS s m.x m.x m.y m.y ++ [⟨7, s + 2, 0, k⟩])) (s + 3) i := by
  have r2 := hroom.2
  have wk : IntKind.u8.wrap (k : Int) = (k : Int) := by simp [IntKind.wrap, IntKind.signed, IntKind.bits]; omega
  have E0 : MkEnd w (w.alloc (trO m)) mb L s i := MkEnd.al (show MkEnd w w mb L s i from ⟨Kp.refl mb w, hM⟩) _
  have f_m : AtT (w.alloc (trO m)) w.heap.size m := heap_alloc_new w _
  obtain ⟨c0, c1, c2⟩ := cells3 f_m
  have HH : Hid _ := And.intro E0 f_m
  clear E0 f_m hM
  go_enter Tryz.func51, Tryz.ntmps51
  go_wp2_with fail
  generalize w.alloc (.cells #[rV m.x, rV m.y, rV m.w] 84) = w0 at *
  clear c0 c1 c2
  obtain ⟨E0, f_m⟩ := HH.out
  clear HH
  refine (mpS_any mb _ s i m.x m.x m.y m.y w0 E0.2 (hroom.mono (by omega)) h8.1 h8.1 h8.2.1 h8.2.1).mono ?_
  rintro e w1 ⟨he, k1⟩
  obtain ⟨v, hv⟩ : ∃ x : Nat, x = s + 2 := ⟨_, rfl⟩
  have he2 : e = .returned (rV v) := by rw [hv]; exact he
  have b_v : v < 256 := by omega
  have Hv : Hid (v = s + 2) := hv
  clear he hv
  subst he2
  have E1 := MkEnd.trans E0 k1
  have HH : Hid _ := E1
  clear k1 E0 E1 f_m
  go_wp2_with fail
  have E1 := HH.out
  clear HH
  refine (madd_any mb _ (s + 3) i ⟨7, v, 0, k⟩ w1 E1.2 (by have := hroom.1; simp [prodS]; omega) ⟨by show 7 < 256; omega, b_v, by show 0 < 256; omega, by show k < 256; omega⟩).mono ?_
  rintro e w2 ⟨rfl, k2, m2⟩
  have HE : Hid _ := MkEnd.trans E1 (show MkEnd w1 w2 mb _ (s + 3) i from ⟨k2, m2⟩)
  clear k2 m2 E1
  go_wp2_with fail
  have hL : L ++ prodS s m.x m.x m.y m.y ++ [⟨7, v, 0, k⟩] = L ++ (prodS s m.x m.x m.y m.y ++ [⟨7, s + 2, 0, k⟩]) := by rw [Hv.out, List.append_assoc]
  exact bodyPost_end (v := .tuple #[]) (by simp [results, Tryz.results51]) rfl ⟨rfl, by rw [← hL]; exact HE.out⟩

set_option maxHeartbeats 800000 in
theorem mgrd_meet (mb : Nat) (L : List Stp) (s i : Nat) (m : Tr) (k : Nat) (w : World) (hM : Mkr w mb L s i) (hroom : Room L s 4) (h8 : S8 m) (hk : k < 16) :
    Calls Tryz.prog 51 #[mP mb, S [109, 101, 101, 116], trV m, .int .i64 k] w fun e w' => e = .returned (.tuple #[]) ∧ MkEnd w w' mb (L ++ [⟨7, m.w, 1, k⟩]) (s + 0) i := by
  have r2 := hroom.2
  have wk : IntKind.u8.wrap (k : Int) = (k : Int) := by simp [IntKind.wrap, IntKind.signed, IntKind.bits]; omega
  have E0 : MkEnd w (w.alloc (trO m)) mb L s i := MkEnd.al (show MkEnd w w mb L s i from ⟨Kp.refl mb w, hM⟩) _
  have f_m : AtT (w.alloc (trO m)) w.heap.size m := heap_alloc_new w _
  obtain ⟨c0, c1, c2⟩ := cells3 f_m
  have HH : Hid _ := And.intro E0 f_m
  clear E0 f_m hM
  go_enter Tryz.func51, Tryz.ntmps51
  go_wp2_with fail
  generalize w.alloc (.cells #[rV m.x, rV m.y, rV m.w] 84) = w0 at *
  clear c0 c1 c2
  obtain ⟨E0, f_m⟩ := HH.out
  clear HH
  refine (madd_any mb _ s i ⟨7, m.w, 1, k⟩ w0 E0.2 (by have := hroom.1; omega) ⟨by show 7 < 256; omega, h8.2.2, by show 1 < 256; omega, by show k < 256; omega⟩).mono ?_
  rintro e w1 ⟨rfl, k1, m1⟩
  have HE : Hid _ := MkEnd.trans E0 (show MkEnd w0 w1 mb _ s i from ⟨k1, m1⟩)
  clear k1 m1 E0 f_m
  go_wp2_with fail
  exact bodyPost_end (v := .tuple #[]) (by simp [results, Tryz.results51]) rfl ⟨rfl, HE.out⟩

set_option maxHeartbeats 800000 in
theorem mgrd_centre (mb : Nat) (L : List Stp) (s i : Nat) (m : Tr) (k : Nat) (w : World) (hM : Mkr w mb L s i) (hroom : Room L s 4) (h8 : S8 m) (hk : k < 16) :
    Calls Tryz.prog 51 #[mP mb, S [99, 101, 110, 116, 114, 101], trV m, .int .i64 k] w fun e w' => e = .returned (.tuple #[]) ∧ MkEnd w w' mb (L ++ [⟨7, m.w, 2, k⟩]) (s + 0) i := by
  have r2 := hroom.2
  have wk : IntKind.u8.wrap (k : Int) = (k : Int) := by simp [IntKind.wrap, IntKind.signed, IntKind.bits]; omega
  have E0 : MkEnd w (w.alloc (trO m)) mb L s i := MkEnd.al (show MkEnd w w mb L s i from ⟨Kp.refl mb w, hM⟩) _
  have f_m : AtT (w.alloc (trO m)) w.heap.size m := heap_alloc_new w _
  obtain ⟨c0, c1, c2⟩ := cells3 f_m
  have HH : Hid _ := And.intro E0 f_m
  clear E0 f_m hM
  go_enter Tryz.func51, Tryz.ntmps51
  go_wp2_with fail
  generalize w.alloc (.cells #[rV m.x, rV m.y, rV m.w] 84) = w0 at *
  clear c0 c1 c2
  obtain ⟨E0, f_m⟩ := HH.out
  clear HH
  refine (madd_any mb _ s i ⟨7, m.w, 2, k⟩ w0 E0.2 (by have := hroom.1; omega) ⟨by show 7 < 256; omega, h8.2.2, by show 2 < 256; omega, by show k < 256; omega⟩).mono ?_
  rintro e w1 ⟨rfl, k1, m1⟩
  have HE : Hid _ := MkEnd.trans E0 (show MkEnd w0 w1 mb _ s i from ⟨k1, m1⟩)
  clear k1 m1 E0 f_m
  go_wp2_with fail
  exact bodyPost_end (v := .tuple #[]) (by simp [results, Tryz.results51]) rfl ⟨rfl, HE.out⟩

set_option maxHeartbeats 800000 in
theorem mgrd_0 (wd : List UInt8) (hw : wd = [112, 116] ∨ wd = [109, 105, 100] ∨ wd = [112, 97, 114] ∨ wd = [112, 101, 114, 112] ∨ wd = [102, 111, 111, 116] ∨ wd = [109, 105, 114, 114, 111, 114]) (mb : Nat) (L : List Stp) (s i : Nat) (m : Tr) (k : Nat) (w : World) (hM : Mkr w mb L s i) (_hroom : Room L s 4) (_h8 : S8 m) (_hk : k < 16) :
    Calls Tryz.prog 51 #[mP mb, S wd, trV m, .int .i64 k] w fun e w' => e = .returned (.tuple #[]) ∧ MkEnd w w' mb (L ++ []) (s + 0) i := by
  rcases hw with rfl | rfl | rfl | rfl | rfl | rfl
  all_goals
    have E0 : MkEnd w (w.alloc (trO m)) mb L s i := MkEnd.al (show MkEnd w w mb L s i from ⟨Kp.refl mb w, hM⟩) _
    have f_m : AtT (w.alloc (trO m)) w.heap.size m := heap_alloc_new w _
    obtain ⟨c0, c1, c2⟩ := cells3 f_m
    have HH : Hid _ := And.intro E0 f_m
    clear E0 f_m hM
    go_enter Tryz.func51, Tryz.ntmps51
    go_wp2_with fail
    generalize w.alloc (.cells #[rV m.x, rV m.y, rV m.w] 84) = w0 at *
    clear c0 c1 c2
    obtain ⟨E0, f_m⟩ := HH.out
    clear HH
    exact bodyPost_end (v := .tuple #[]) (by simp [results, Tryz.results51]) rfl ⟨rfl, by rw [List.append_nil]; exact E0⟩
theorem mgrd_pt (mb : Nat) (L : List Stp) (s i : Nat) (m : Tr) (k : Nat) (w : World) (hM : Mkr w mb L s i) (_hroom : Room L s 4) (_h8 : S8 m) (_hk : k < 16) : Calls Tryz.prog 51 #[mP mb, S [112, 116], trV m, .int .i64 k] w fun e w' => e = .returned (.tuple #[]) ∧ MkEnd w w' mb (L ++ []) (s + 0) i := mgrd_0 _ (.inl rfl) mb L s i m k w hM _hroom _h8 _hk
theorem mgrd_mid (mb : Nat) (L : List Stp) (s i : Nat) (m : Tr) (k : Nat) (w : World) (hM : Mkr w mb L s i) (_hroom : Room L s 4) (_h8 : S8 m) (_hk : k < 16) : Calls Tryz.prog 51 #[mP mb, S [109, 105, 100], trV m, .int .i64 k] w fun e w' => e = .returned (.tuple #[]) ∧ MkEnd w w' mb (L ++ []) (s + 0) i := mgrd_0 _ (.inr (.inl rfl)) mb L s i m k w hM _hroom _h8 _hk
theorem mgrd_par (mb : Nat) (L : List Stp) (s i : Nat) (m : Tr) (k : Nat) (w : World) (hM : Mkr w mb L s i) (_hroom : Room L s 4) (_h8 : S8 m) (_hk : k < 16) : Calls Tryz.prog 51 #[mP mb, S [112, 97, 114], trV m, .int .i64 k] w fun e w' => e = .returned (.tuple #[]) ∧ MkEnd w w' mb (L ++ []) (s + 0) i := mgrd_0 _ (.inr (.inr (.inl rfl))) mb L s i m k w hM _hroom _h8 _hk
theorem mgrd_perp (mb : Nat) (L : List Stp) (s i : Nat) (m : Tr) (k : Nat) (w : World) (hM : Mkr w mb L s i) (_hroom : Room L s 4) (_h8 : S8 m) (_hk : k < 16) : Calls Tryz.prog 51 #[mP mb, S [112, 101, 114, 112], trV m, .int .i64 k] w fun e w' => e = .returned (.tuple #[]) ∧ MkEnd w w' mb (L ++ []) (s + 0) i := mgrd_0 _ (.inr (.inr (.inr (.inl rfl)))) mb L s i m k w hM _hroom _h8 _hk
theorem mgrd_foot (mb : Nat) (L : List Stp) (s i : Nat) (m : Tr) (k : Nat) (w : World) (hM : Mkr w mb L s i) (_hroom : Room L s 4) (_h8 : S8 m) (_hk : k < 16) : Calls Tryz.prog 51 #[mP mb, S [102, 111, 111, 116], trV m, .int .i64 k] w fun e w' => e = .returned (.tuple #[]) ∧ MkEnd w w' mb (L ++ []) (s + 0) i := mgrd_0 _ (.inr (.inr (.inr (.inr (.inl rfl))))) mb L s i m k w hM _hroom _h8 _hk
theorem mgrd_mirror (mb : Nat) (L : List Stp) (s i : Nat) (m : Tr) (k : Nat) (w : World) (hM : Mkr w mb L s i) (_hroom : Room L s 4) (_h8 : S8 m) (_hk : k < 16) : Calls Tryz.prog 51 #[mP mb, S [109, 105, 114, 114, 111, 114], trV m, .int .i64 k] w fun e w' => e = .returned (.tuple #[]) ∧ MkEnd w w' mb (L ++ []) (s + 0) i := mgrd_0 _ (.inr (.inr (.inr (.inr (.inr (rfl)))))) mb L s i m k w hM _hroom _h8 _hk

set_option maxHeartbeats 400000 in
theorem home_any (k : Nat) (hk : k < 16) (w : World) : Calls Tryz.prog 78 #[.int .i64 k] w fun e w' => e = .returned (trV (hm k)) ∧ Mod (fun _ => False) w w' := by
  obtain ⟨m, hm0⟩ : ∃ m : Nat, m = 3 * k := ⟨_, rfl⟩
  obtain ⟨m1, hm1⟩ : ∃ m1 : Nat, m1 = m + 1 := ⟨_, rfl⟩
  obtain ⟨m2, hm2⟩ : ∃ m2 : Nat, m2 = m + 2 := ⟨_, rfl⟩
  have w0 : IntKind.i64.wrap (3 * (k : Int)) = (m : Int) := by simp [IntKind.wrap, IntKind.signed, IntKind.bits]; omega
  have w1 : IntKind.u8.wrap (m : Int) = (m : Int) := by simp [IntKind.wrap, IntKind.signed, IntKind.bits]; omega
  have w2 : IntKind.u8.wrap ((m : Int) + 1) = (m1 : Int) := by simp [IntKind.wrap, IntKind.signed, IntKind.bits]; omega
  have w3 : IntKind.u8.wrap ((m : Int) + 2) = (m2 : Int) := by simp [IntKind.wrap, IntKind.signed, IntKind.bits]; omega
  have HR : Hid ((.agg #[rV m, rV m1, rV m2] : Value) = trV (hm k)) := by show _ = _; rw [hm2, hm1, hm0]; rfl
  clear hm0 hm1 hm2 hk
  go_enter Tryz.func78, Tryz.ntmps78
  go_wp2_with fail
  exact bodyPost_ret (v := .agg #[rV m, rV m1, rV m2]) (by simp [results, Tryz.results78, go_sem]) rfl ⟨by rw [HR.out], (Mod.refl _ w).alloc _⟩

set_option maxHeartbeats 800000 in
theorem mfac_P (wd : List UInt8) (hw : wd = [112, 116] ∨ wd = [109, 105, 100] ∨ wd = [109, 101, 101, 116] ∨ wd = [102, 111, 111, 116] ∨ wd = [109, 105, 114, 114, 111, 114] ∨ wd = [99, 101, 110, 116, 114, 101]) (mb : Nat) (L : List Stp) (s i : Nat) (m : Tr) (w : World) (hM : Mkr w mb L s i) (hroom : Room L s 4) (h8 : S8 m) :
    Calls Tryz.prog 92 #[mP mb, S wd, trV m] w fun e w' => e = .returned (rV s) ∧ MkEnd w w' mb (L ++ [⟨5, s, m.w, 0⟩]) (s + 1) i := by
  rcases hw with rfl | rfl | rfl | rfl | rfl | rfl
  all_goals
    have E0 : MkEnd w (w.alloc (trO m)) mb L s i := MkEnd.al (show MkEnd w w mb L s i from ⟨Kp.refl mb w, hM⟩) _
    have f_m : AtT (w.alloc (trO m)) w.heap.size m := heap_alloc_new w _
    obtain ⟨c0, c1, c2⟩ := cells3 f_m
    have HH : Hid _ := E0
    clear E0 f_m hM
    go_enter Tryz.func92, Tryz.ntmps92
    go_wp2_with (go_at_call 122; go_in)
    generalize w.alloc (.cells #[rV m.x, rV m.y, rV m.w] 84) = w0 at *
    clear c0 c1 c2
    have E0 := HH.out
    clear HH
    refine (msgn_any mb _ s i m.w w0 E0.2 (hroom.mono (by omega)) h8.2.2).mono ?_
    rintro e w1 ⟨rfl, k1⟩
    have HE : Hid _ := MkEnd.trans E0 k1
    clear k1 E0
    go_wp2_with fail
    go_ret
    exact ⟨rfl, HE.out⟩
theorem mfac_pt (mb : Nat) (L : List Stp) (s i : Nat) (m : Tr) (w : World) (hM : Mkr w mb L s i) (hroom : Room L s 4) (h8 : S8 m) : Calls Tryz.prog 92 #[mP mb, S [112, 116], trV m] w fun e w' => e = .returned (rV s) ∧ MkEnd w w' mb (L ++ [⟨5, s, m.w, 0⟩]) (s + 1) i := mfac_P _ (.inl rfl) mb L s i m w hM hroom h8
theorem mfac_mid (mb : Nat) (L : List Stp) (s i : Nat) (m : Tr) (w : World) (hM : Mkr w mb L s i) (hroom : Room L s 4) (h8 : S8 m) : Calls Tryz.prog 92 #[mP mb, S [109, 105, 100], trV m] w fun e w' => e = .returned (rV s) ∧ MkEnd w w' mb (L ++ [⟨5, s, m.w, 0⟩]) (s + 1) i := mfac_P _ (.inr (.inl rfl)) mb L s i m w hM hroom h8
theorem mfac_meet (mb : Nat) (L : List Stp) (s i : Nat) (m : Tr) (w : World) (hM : Mkr w mb L s i) (hroom : Room L s 4) (h8 : S8 m) : Calls Tryz.prog 92 #[mP mb, S [109, 101, 101, 116], trV m] w fun e w' => e = .returned (rV s) ∧ MkEnd w w' mb (L ++ [⟨5, s, m.w, 0⟩]) (s + 1) i := mfac_P _ (.inr (.inr (.inl rfl))) mb L s i m w hM hroom h8
theorem mfac_foot (mb : Nat) (L : List Stp) (s i : Nat) (m : Tr) (w : World) (hM : Mkr w mb L s i) (hroom : Room L s 4) (h8 : S8 m) : Calls Tryz.prog 92 #[mP mb, S [102, 111, 111, 116], trV m] w fun e w' => e = .returned (rV s) ∧ MkEnd w w' mb (L ++ [⟨5, s, m.w, 0⟩]) (s + 1) i := mfac_P _ (.inr (.inr (.inr (.inl rfl)))) mb L s i m w hM hroom h8
theorem mfac_mirror (mb : Nat) (L : List Stp) (s i : Nat) (m : Tr) (w : World) (hM : Mkr w mb L s i) (hroom : Room L s 4) (h8 : S8 m) : Calls Tryz.prog 92 #[mP mb, S [109, 105, 114, 114, 111, 114], trV m] w fun e w' => e = .returned (rV s) ∧ MkEnd w w' mb (L ++ [⟨5, s, m.w, 0⟩]) (s + 1) i := mfac_P _ (.inr (.inr (.inr (.inr (.inl rfl))))) mb L s i m w hM hroom h8
theorem mfac_centre (mb : Nat) (L : List Stp) (s i : Nat) (m : Tr) (w : World) (hM : Mkr w mb L s i) (hroom : Room L s 4) (h8 : S8 m) : Calls Tryz.prog 92 #[mP mb, S [99, 101, 110, 116, 114, 101], trV m] w fun e w' => e = .returned (rV s) ∧ MkEnd w w' mb (L ++ [⟨5, s, m.w, 0⟩]) (s + 1) i := mfac_P _ (.inr (.inr (.inr (.inr (.inr (rfl)))))) mb L s i m w hM hroom h8

set_option maxHeartbeats 800000 in
theorem mfac_L (wd : List UInt8) (hw : wd = [108, 105, 110, 101] ∨ wd = [112, 97, 114] ∨ wd = [112, 101, 114, 112]) (mb : Nat) (L : List Stp) (s i : Nat) (m : Tr) (w : World) (hM : Mkr w mb L s i) (hroom : Room L s 4) (_h8 : S8 m) :
    Calls Tryz.prog 92 #[mP mb, S wd, trV m] w fun e w' => e = .returned (rV s) ∧ MkEnd w w' mb (L ++ [⟨1, s, 1, 0⟩]) (s + 1) i := by
  rcases hw with rfl | rfl | rfl
  all_goals
    have E0 : MkEnd w (w.alloc (trO m)) mb L s i := MkEnd.al (show MkEnd w w mb L s i from ⟨Kp.refl mb w, hM⟩) _
    have f_m : AtT (w.alloc (trO m)) w.heap.size m := heap_alloc_new w _
    obtain ⟨c0, c1, c2⟩ := cells3 f_m
    have HH : Hid _ := E0
    clear E0 f_m hM
    go_enter Tryz.func92, Tryz.ntmps92
    go_wp2_with (go_at_call 122; go_in)
    generalize w.alloc (.cells #[rV m.x, rV m.y, rV m.w] 84) = w0 at *
    clear c0 c1 c2
    have E0 := HH.out
    clear HH
    refine (mcon_any mb _ s i 1 w0 E0.2 (hroom.mono (by omega)) (by omega)).mono ?_
    rintro e w1 ⟨rfl, k1⟩
    have HE : Hid _ := MkEnd.trans E0 k1
    clear k1 E0
    go_wp2_with fail
    go_ret
    exact ⟨rfl, HE.out⟩
theorem mfac_line (mb : Nat) (L : List Stp) (s i : Nat) (m : Tr) (w : World) (hM : Mkr w mb L s i) (hroom : Room L s 4) (_h8 : S8 m) : Calls Tryz.prog 92 #[mP mb, S [108, 105, 110, 101], trV m] w fun e w' => e = .returned (rV s) ∧ MkEnd w w' mb (L ++ [⟨1, s, 1, 0⟩]) (s + 1) i := mfac_L _ (.inl rfl) mb L s i m w hM hroom _h8
theorem mfac_par (mb : Nat) (L : List Stp) (s i : Nat) (m : Tr) (w : World) (hM : Mkr w mb L s i) (hroom : Room L s 4) (_h8 : S8 m) : Calls Tryz.prog 92 #[mP mb, S [112, 97, 114], trV m] w fun e w' => e = .returned (rV s) ∧ MkEnd w w' mb (L ++ [⟨1, s, 1, 0⟩]) (s + 1) i := mfac_L _ (.inr (.inl rfl)) mb L s i m w hM hroom _h8
theorem mfac_perp (mb : Nat) (L : List Stp) (s i : Nat) (m : Tr) (w : World) (hM : Mkr w mb L s i) (hroom : Room L s 4) (_h8 : S8 m) : Calls Tryz.prog 92 #[mP mb, S [112, 101, 114, 112], trV m] w fun e w' => e = .returned (rV s) ∧ MkEnd w w' mb (L ++ [⟨1, s, 1, 0⟩]) (s + 1) i := mfac_L _ (.inr (.inr (rfl))) mb L s i m w hM hroom _h8

end Go.Proofs.YtmnfndpbblpjiabGreatDoor

/- The maker's keep, word by word. -/
namespace Go.Proofs.YtmnfndpbblpjiabGreatDoor
open Go.RowKit Pu

set_option maxHeartbeats 1600000 in
theorem mkeep_w (wd : List UInt8) (t : Stp) (mb : Nat) (L K : List Stp) (s i : Nat) (m : Tr) (k : Nat) (w : World) (hM : Mkr w mb L s i) (hroom : Room L s 4) (h8 : S8 m) (hk : k < 16) (hf : ∀ W, Mkr W mb L s i → Calls Tryz.prog 92 #[mP mb, S wd, trV m] W fun e w' => e = .returned (rV s) ∧ MkEnd W w' mb (L ++ [t]) (s + 1) i) (hK : K = [t, ⟨4, (hm k).x, m.x, s⟩, ⟨4, (hm k).y, m.y, s⟩, ⟨4, (hm k).w, m.w, s⟩]) :
    Calls Tryz.prog 52 #[mP mb, S wd, trV m, .int .i64 k] w fun e w' => e = .returned (.tuple #[]) ∧ MkEnd w w' mb (L ++ K) (s + 1) i := by
  have hL : L ++ K = L ++ [t] ++ [⟨4, (hm k).x, m.x, s⟩] ++ [⟨4, (hm k).y, m.y, s⟩] ++ [⟨4, (hm k).w, m.w, s⟩] := by simp [hK]
  have HL : Hid _ := hL
  clear hL hK
  have r1 := hroom.1
  have r2 := hroom.2
  have E0 : MkEnd w (w.alloc (trO m)) mb L s i := MkEnd.al (show MkEnd w w mb L s i from ⟨Kp.refl mb w, hM⟩) _
  have f_m : AtT (w.alloc (trO m)) w.heap.size m := heap_alloc_new w _
  have HH : Hid _ := And.intro E0 f_m
  clear E0 f_m hM
  go_enter Tryz.func52, Tryz.ntmps52
  go_wp2_with fail
  generalize w.alloc (.cells #[rV m.x, rV m.y, rV m.w] 84) = w0 at *
  obtain ⟨E0, f_m⟩ := HH.out
  clear HH
  refine (home_any k hk w0).mono ?_
  rintro e w1 ⟨rfl, k1⟩
  have E1 := MkEnd.al (E0.md k1) (.cells #[rV (hm k).x, rV (hm k).y, rV (hm k).w] 84)
  have f_h : AtT (w1.alloc (.cells #[rV (hm k).x, rV (hm k).y, rV (hm k).w] 84)) w1.heap.size (hm k) := heap_alloc_new w1 _
  replace f_m := At3.al (At3.md f_m k1) (.cells #[rV (hm k).x, rV (hm k).y, rV (hm k).w] 84)
  obtain ⟨q0, q1, q2⟩ := cells3 f_m
  have HH : Hid _ := And.intro E1 (And.intro f_m f_h)
  clear k1 E0 E1 f_m f_h
  go_wp2_with fail
  generalize w1.alloc (.cells #[rV (hm k).x, rV (hm k).y, rV (hm k).w] 84) = w1b at *
  clear q0 q1 q2
  obtain ⟨E1, f_m, f_h⟩ := HH.out
  clear HH
  refine (hf _ E1.2).mono ?_
  rintro e w2 ⟨rfl, k2⟩
  have E2 : MkEnd w w2 mb (L ++ [t]) (s + 1) i := MkEnd.trans E1 k2
  replace f_m := At3.kp f_m k2.1
  replace f_h := At3.kp f_h k2.1
  clear k2 E1
  obtain ⟨q0, q1, q2⟩ := cells3 f_m
  obtain ⟨p0, p1, p2⟩ := cells3 f_h
  have HH : Hid _ := And.intro E2 (And.intro f_m f_h)
  clear E2 f_m f_h
  go_wp2_with fail
  clear q0 q1 q2 p0 p1 p2
  obtain ⟨E2, f_m, f_h⟩ := HH.out
  clear HH
  refine (madd_any mb _ (s + 1) i ⟨4, (hm k).x, m.x, s⟩ w2 E2.2 (by simp; omega) ⟨by show 4 < 256; omega, by show 3 * k < 256; omega, h8.1, by show s < 256; omega⟩).mono ?_
  rintro e w3 ⟨rfl, k3, m3⟩
  have E3 : MkEnd w w3 mb (L ++ [t] ++ [⟨4, (hm k).x, m.x, s⟩]) (s + 1) i := MkEnd.trans E2 (show MkEnd w2 w3 mb _ (s + 1) i from ⟨k3, m3⟩)
  replace f_m := At3.kp f_m k3
  replace f_h := At3.kp f_h k3
  clear k3 m3 E2
  obtain ⟨q0, q1, q2⟩ := cells3 f_m
  obtain ⟨p0, p1, p2⟩ := cells3 f_h
  have HH : Hid _ := And.intro E3 (And.intro f_m f_h)
  clear E3 f_m f_h
  go_wp2_with fail
  clear q0 q1 q2 p0 p1 p2
  obtain ⟨E3, f_m, f_h⟩ := HH.out
  clear HH
  refine (madd_any mb _ (s + 1) i ⟨4, (hm k).y, m.y, s⟩ w3 E3.2 (by simp; omega) ⟨by show 4 < 256; omega, by show 3 * k + 1 < 256; omega, h8.2.1, by show s < 256; omega⟩).mono ?_
  rintro e w4 ⟨rfl, k4, m4⟩
  have E4 : MkEnd w w4 mb (L ++ [t] ++ [⟨4, (hm k).x, m.x, s⟩] ++ [⟨4, (hm k).y, m.y, s⟩]) (s + 1) i := MkEnd.trans E3 (show MkEnd w3 w4 mb _ (s + 1) i from ⟨k4, m4⟩)
  replace f_m := At3.kp f_m k4
  replace f_h := At3.kp f_h k4
  clear k4 m4 E3
  obtain ⟨q0, q1, q2⟩ := cells3 f_m
  obtain ⟨p0, p1, p2⟩ := cells3 f_h
  have HH : Hid _ := And.intro E4 (And.intro f_m f_h)
  clear E4 f_m f_h
  go_wp2_with fail
  clear q0 q1 q2 p0 p1 p2
  obtain ⟨E4, f_m, f_h⟩ := HH.out
  clear HH
  refine (madd_any mb _ (s + 1) i ⟨4, (hm k).w, m.w, s⟩ w4 E4.2 (by simp; omega) ⟨by show 4 < 256; omega, by show 3 * k + 2 < 256; omega, h8.2.2, by show s < 256; omega⟩).mono ?_
  rintro e w5 ⟨rfl, k5, m5⟩
  have E5 : MkEnd w w5 mb (L ++ [t] ++ [⟨4, (hm k).x, m.x, s⟩] ++ [⟨4, (hm k).y, m.y, s⟩] ++ [⟨4, (hm k).w, m.w, s⟩]) (s + 1) i := MkEnd.trans E4 (show MkEnd w4 w5 mb _ (s + 1) i from ⟨k5, m5⟩)
  replace f_m := At3.kp f_m k5
  replace f_h := At3.kp f_h k5
  clear k5 m5 E4
  have HE : Hid _ := E5
  clear E5 f_m f_h
  go_wp2_with fail
  exact bodyPost_end (v := .tuple #[]) (by simp [results, Tryz.results52]) rfl ⟨rfl, by rw [HL.out]; exact HE.out⟩
theorem mkeep_pt (mb : Nat) (L : List Stp) (s i : Nat) (m : Tr) (k : Nat) (w : World) (hM : Mkr w mb L s i) (hroom : Room L s 4) (h8 : S8 m) (hk : k < 16) : Calls Tryz.prog 52 #[mP mb, S [112, 116], trV m, .int .i64 k] w fun e w' => e = .returned (.tuple #[]) ∧ MkEnd w w' mb (L ++ kpP s m k) (s + 1) i := mkeep_w _ _ mb L _ s i m k w hM hroom h8 hk (fun W h => mfac_pt mb L s i m W h hroom h8) rfl
theorem mkeep_mid (mb : Nat) (L : List Stp) (s i : Nat) (m : Tr) (k : Nat) (w : World) (hM : Mkr w mb L s i) (hroom : Room L s 4) (h8 : S8 m) (hk : k < 16) : Calls Tryz.prog 52 #[mP mb, S [109, 105, 100], trV m, .int .i64 k] w fun e w' => e = .returned (.tuple #[]) ∧ MkEnd w w' mb (L ++ kpP s m k) (s + 1) i := mkeep_w _ _ mb L _ s i m k w hM hroom h8 hk (fun W h => mfac_mid mb L s i m W h hroom h8) rfl
theorem mkeep_meet (mb : Nat) (L : List Stp) (s i : Nat) (m : Tr) (k : Nat) (w : World) (hM : Mkr w mb L s i) (hroom : Room L s 4) (h8 : S8 m) (hk : k < 16) : Calls Tryz.prog 52 #[mP mb, S [109, 101, 101, 116], trV m, .int .i64 k] w fun e w' => e = .returned (.tuple #[]) ∧ MkEnd w w' mb (L ++ kpP s m k) (s + 1) i := mkeep_w _ _ mb L _ s i m k w hM hroom h8 hk (fun W h => mfac_meet mb L s i m W h hroom h8) rfl
theorem mkeep_foot (mb : Nat) (L : List Stp) (s i : Nat) (m : Tr) (k : Nat) (w : World) (hM : Mkr w mb L s i) (hroom : Room L s 4) (h8 : S8 m) (hk : k < 16) : Calls Tryz.prog 52 #[mP mb, S [102, 111, 111, 116], trV m, .int .i64 k] w fun e w' => e = .returned (.tuple #[]) ∧ MkEnd w w' mb (L ++ kpP s m k) (s + 1) i := mkeep_w _ _ mb L _ s i m k w hM hroom h8 hk (fun W h => mfac_foot mb L s i m W h hroom h8) rfl
theorem mkeep_mirror (mb : Nat) (L : List Stp) (s i : Nat) (m : Tr) (k : Nat) (w : World) (hM : Mkr w mb L s i) (hroom : Room L s 4) (h8 : S8 m) (hk : k < 16) : Calls Tryz.prog 52 #[mP mb, S [109, 105, 114, 114, 111, 114], trV m, .int .i64 k] w fun e w' => e = .returned (.tuple #[]) ∧ MkEnd w w' mb (L ++ kpP s m k) (s + 1) i := mkeep_w _ _ mb L _ s i m k w hM hroom h8 hk (fun W h => mfac_mirror mb L s i m W h hroom h8) rfl
theorem mkeep_centre (mb : Nat) (L : List Stp) (s i : Nat) (m : Tr) (k : Nat) (w : World) (hM : Mkr w mb L s i) (hroom : Room L s 4) (h8 : S8 m) (hk : k < 16) : Calls Tryz.prog 52 #[mP mb, S [99, 101, 110, 116, 114, 101], trV m, .int .i64 k] w fun e w' => e = .returned (.tuple #[]) ∧ MkEnd w w' mb (L ++ kpP s m k) (s + 1) i := mkeep_w _ _ mb L _ s i m k w hM hroom h8 hk (fun W h => mfac_centre mb L s i m W h hroom h8) rfl
theorem mkeep_line (mb : Nat) (L : List Stp) (s i : Nat) (m : Tr) (k : Nat) (w : World) (hM : Mkr w mb L s i) (hroom : Room L s 4) (h8 : S8 m) (hk : k < 16) : Calls Tryz.prog 52 #[mP mb, S [108, 105, 110, 101], trV m, .int .i64 k] w fun e w' => e = .returned (.tuple #[]) ∧ MkEnd w w' mb (L ++ kpL s m k) (s + 1) i := mkeep_w _ _ mb L _ s i m k w hM hroom h8 hk (fun W h => mfac_line mb L s i m W h hroom h8) rfl
theorem mkeep_par (mb : Nat) (L : List Stp) (s i : Nat) (m : Tr) (k : Nat) (w : World) (hM : Mkr w mb L s i) (hroom : Room L s 4) (h8 : S8 m) (hk : k < 16) : Calls Tryz.prog 52 #[mP mb, S [112, 97, 114], trV m, .int .i64 k] w fun e w' => e = .returned (.tuple #[]) ∧ MkEnd w w' mb (L ++ kpL s m k) (s + 1) i := mkeep_w _ _ mb L _ s i m k w hM hroom h8 hk (fun W h => mfac_par mb L s i m W h hroom h8) rfl
theorem mkeep_perp (mb : Nat) (L : List Stp) (s i : Nat) (m : Tr) (k : Nat) (w : World) (hM : Mkr w mb L s i) (hroom : Room L s 4) (h8 : S8 m) (hk : k < 16) : Calls Tryz.prog 52 #[mP mb, S [112, 101, 114, 112], trV m, .int .i64 k] w fun e w' => e = .returned (.tuple #[]) ∧ MkEnd w w' mb (L ++ kpL s m k) (s + 1) i := mkeep_w _ _ mb L _ s i m k w hM hroom h8 hk (fun W h => mfac_perp mb L s i m W h hroom h8) rfl
end Go.Proofs.YtmnfndpbblpjiabGreatDoor

/- The reader's small steps: peek, take, takeLetter. -/
namespace Go.Proofs.YtmnfndpbblpjiabGreatDoor
set_option linter.unusedVariables false
open Go.RowKit Pu

set_option maxHeartbeats 400000 in
theorem peek_any (rb : Nat) (s : ByteArray) (k : Nat) (w : World) (hs : s.size ≤ 300) (hk : k ≤ s.size) (hr : Rd w rb s k) :
    Calls Tryz.prog 138 #[.pointer (some ⟨rb, 0, none⟩)] w fun e w' => e = .returned (.int .u8 (g s k)) ∧ ∃ n, w' = w.drewN n := by
  have h0 := hr.c0
  have h1 := hr.c1
  clear hr
  have hg : decide ((k : Int) < 0) = false := by simp
  by_cases hlt : k < s.size
  · have HG : Hid (s[k].toNat = g s k) := (g_in hlt).symm
    go_enter Tryz.func138, Tryz.ntmps138
    go_wp2
    go_quiet (fail)
    go_wp2
    go_quiet (fail)
    go_wp2
    go_ret
    exact ⟨by rw [← HG.out]; rfl, _, World.drewN_drewN ..⟩
  · have HG : Hid (g s k = 0) := g_out (by omega)
    go_enter Tryz.func138, Tryz.ntmps138
    go_wp2
    go_quiet (fail)
    go_wp2
    go_ret
    exact ⟨by rw [HG.out]; rfl, _, rfl⟩

set_option maxHeartbeats 400000 in
theorem take_yes (rb : Nat) (s : ByteArray) (k c : Nat) (w : World) (hs : s.size ≤ 300) (hk : k ≤ s.size) (hr : Rd w rb s k) (hc0 : 0 < c) (hc : g s k = c) :
    Calls Tryz.prog 96 #[.pointer (some ⟨rb, 0, none⟩), .int .u8 c] w fun e w' => e = .returned (.bool true) ∧ Rd w' rb s (k + 1) ∧ k + 1 ≤ s.size ∧ Mod (fun i => i = rb) w w' := by
  have hlt : k < s.size := lt_of_g (by omega)
  have h1 := hr.c1
  have hf := hr.f1
  have hb : ((g s k : Int) != (c : Int)) = false := by simp [hc]
  have HC : Hid (g s k = c) := hc
  clear hc
  go_enter Tryz.func96, Tryz.ntmps96
  go_wp2_with (go_at_call 138; refine (peek_any rb s k _ hs hk hr).mono ?_; rintro e w' ⟨rfl, n, rfl⟩)
  go_ret
  exact ⟨rfl, by have := (hr.drewN n).set (k + 1); simpa using this, hlt, (Mod.same n _ w).setCell _ _ (fun _ => rfl)⟩

set_option maxHeartbeats 400000 in
theorem take_no (rb : Nat) (s : ByteArray) (k c : Nat) (w : World) (hs : s.size ≤ 300) (hk : k ≤ s.size) (hr : Rd w rb s k) (hc : g s k ≠ c) :
    Calls Tryz.prog 96 #[.pointer (some ⟨rb, 0, none⟩), .int .u8 c] w fun e w' => e = .returned (.bool false) ∧ Rd w' rb s k ∧ Mod (fun i => i = rb) w w' := by
  have hb : ((g s k : Int) != (c : Int)) = true := by simp; omega
  go_enter Tryz.func96, Tryz.ntmps96
  go_wp2_with (go_at_call 138; refine (peek_any rb s k _ hs hk hr).mono ?_; rintro e w' ⟨rfl, n, rfl⟩)
  go_ret
  exact ⟨rfl, hr.drewN n, Mod.same n _ w⟩

set_option maxHeartbeats 400000 in
theorem letter_yes (rb : Nat) (s : ByteArray) (k : Nat) (w : World) (hs : s.size ≤ 300) (hk : k ≤ s.size) (hr : Rd w rb s k) (hc : isL (g s k) = true) :
    Calls Tryz.prog 173 #[.pointer (some ⟨rb, 0, none⟩)] w fun e w' => e = .returned (.int .u8 (g s k)) ∧ Rd w' rb s (k + 1) ∧ k + 1 ≤ s.size ∧ Mod (fun i => i = rb) w w' := by
  obtain ⟨ha, hz⟩ := (isL_iff _).1 hc
  have hlt : k < s.size := lt_of_g (by omega)
  have h1 := hr.c1
  have hf := hr.f1
  clear hc
  go_enter Tryz.func173, Tryz.ntmps173
  go_wp2_with (go_at_call 138; refine (peek_any rb s k _ hs hk hr).mono ?_; rintro e w' ⟨rfl, n, rfl⟩)
  go_ret
  exact ⟨rfl, by have := (hr.drewN n).set (k + 1); simpa using this, hlt, (Mod.same n _ w).setCell _ _ (fun _ => rfl)⟩

set_option maxHeartbeats 400000 in
theorem letter_no (rb : Nat) (s : ByteArray) (k : Nat) (w : World) (hs : s.size ≤ 300) (hk : k ≤ s.size) (hr : Rd w rb s k) (hc : isL (g s k) = false) :
    Calls Tryz.prog 173 #[.pointer (some ⟨rb, 0, none⟩)] w fun e w' => e = .returned (.int .u8 0) ∧ Rd w' rb s k ∧ Mod (fun i => i = rb) w w' := by
  have hl : ¬ (97 ≤ g s k ∧ g s k ≤ 122) := fun h => by rw [(isL_iff _).2 h] at hc; cases hc
  clear hc
  by_cases h9 : g s k < 97
  all_goals
    go_enter Tryz.func173, Tryz.ntmps173
    go_wp2_with (go_at_call 138; refine (peek_any rb s k _ hs hk hr).mono ?_; rintro e w' ⟨rfl, n, rfl⟩)
    go_ret
    exact ⟨rfl, hr.drewN n, Mod.same n _ w⟩
end Go.Proofs.YtmnfndpbblpjiabGreatDoor

/- readHead: a name and the sign of equality, or the sign of a question. -/
namespace Go.Proofs.YtmnfndpbblpjiabGreatDoor
open Go.RowKit Pu

def NoArgs : Value := .slice none 0 0

set_option maxHeartbeats 400000 in
theorem head_any (rb sb : Nat) (s : ByteArray) (k n le ar : Nat) (l : List St) (w : World) (hs : s.size ≤ 300) (hk : k < s.size) (hr : Rd w rb s k) (hS : Se w sb 0 [] NoArgs 0)
    (hA : At s k 0 n le ar l ⟨0, [], []⟩ false) (hn : n ≠ 16) :
    Calls Tryz.prog 117 #[.pointer (some ⟨rb, 0, none⟩), .pointer (some ⟨sb, 0, none⟩)] w fun e w' => Mod (fun i => i = rb ∨ i = sb) w w' ∧ ∃ k', k' ≤ s.size ∧ Rd w' rb s k' ∧
      ((e = .returned (.bool true) ∧ ∃ nm, At s k' 2 n le ar l ⟨nm, [], []⟩ false ∧ Se w' sb nm [] NoArgs 0) ∨ (e = .returned (.bool false) ∧ Stuck s k')) := by
  have hne := hS.ne hr
  by_cases h63 : g s k = 63
  · have HA : Hid (At s k 0 n le ar l ⟨0, [], []⟩ false) := hA; have HS : Hid (Se w sb 0 [] NoArgs 0) := hS; clear hA hS
    have H63 : Hid (g s k = 63) := h63
    clear h63
    go_enter Tryz.func117, Tryz.ntmps117
    go_wp2_with fail
    refine (take_yes rb s k 63 _ hs (by omega) hr (by omega) H63.out).mono ?_
    rintro e w1 ⟨rfl, hr1, hk1, hm1⟩
    go_wp2
    go_ret
    exact ⟨hm1.mono (fun _ _ h => .inl h), k + 1, hk1, hr1, .inl ⟨rfl, 0, at_ask HA.out hn H63.out, HS.out.keep hm1 (fun h => hne h.symm)⟩⟩
  · have HA : Hid (At s k 0 n le ar l ⟨0, [], []⟩ false) := hA; have HS : Hid (Se w sb 0 [] NoArgs 0) := hS; clear hA hS
    by_cases hL : isL (g s k) = true
    · have hl := (isL_iff _).1 hL
      by_cases h61 : g s (k + 1) = 61
      · have H61 : Hid (g s (k + 1) = 61) := h61
        clear h61
        have HL : Hid (isL (g s k) = true) := hL
        clear hL
        go_enter Tryz.func117, Tryz.ntmps117
        go_wp2_with fail
        refine (take_no rb s k 63 _ hs (by omega) hr h63).mono ?_
        rintro e w1 ⟨rfl, hr1, hm1⟩
        go_wp2_with fail
        refine (letter_yes rb s k _ hs (by omega) hr1 HL.out).mono ?_
        rintro e w2 ⟨rfl, hr2, hk2, hm2⟩
        have hS2 := (HS.out.keep hm1 (fun h => hne h.symm)).keep hm2 (fun h => hne h.symm)
        have cc := hS2.c0
        have cf := hS2.fz 0
        have hz : ((g s k : Int) == 0) = false := by simp; omega
        go_wp2_with fail
        have hS3 := hS2.set0 (g s k)
        have hm3 : Mod (fun i => i = rb ∨ i = sb) w (w2.setCell ⟨sb, 0, none⟩ (.int .u8 (g s k))) := ((hm1.trans hm2).mono (fun _ _ h => .inl h)).setCell _ _ (fun _ => .inr rfl)
        have hr3 : Rd (w2.setCell ⟨sb, 0, none⟩ (.int .u8 (g s k))) rb s (k + 1) := hr2.keep ((Mod.refl (fun i => i = sb) w2).setCell _ _ (fun _ => rfl)) hne
        clear cc cf hS2
        refine (take_yes rb s (k + 1) 61 _ hs (by omega) hr3 (by omega) H61.out).mono ?_
        rintro e w4 ⟨rfl, hr4, hk4, hm4⟩
        go_wp2
        go_ret
        exact ⟨hm3.trans (hm4.mono (fun _ _ h => .inl h)), k + 2, hk4, hr4, .inl ⟨rfl, g s k, by have := at_equal (at_name HA.out hn HL.out) H61.out; simpa using this, hS3.keep hm4 (fun h => hne h.symm)⟩⟩
      · have HL : Hid (isL (g s k) = true) := hL
        clear hL
        go_enter Tryz.func117, Tryz.ntmps117
        go_wp2_with fail
        refine (take_no rb s k 63 _ hs (by omega) hr h63).mono ?_
        rintro e w1 ⟨rfl, hr1, hm1⟩
        go_wp2_with fail
        refine (letter_yes rb s k _ hs (by omega) hr1 HL.out).mono ?_
        rintro e w2 ⟨rfl, hr2, hk2, hm2⟩
        have hS2 := (HS.out.keep hm1 (fun h => hne h.symm)).keep hm2 (fun h => hne h.symm)
        have cc := hS2.c0
        have cf := hS2.fz 0
        have hz : ((g s k : Int) == 0) = false := by simp; omega
        go_wp2_with fail
        have hm3 : Mod (fun i => i = rb ∨ i = sb) w (w2.setCell ⟨sb, 0, none⟩ (.int .u8 (g s k))) := ((hm1.trans hm2).mono (fun _ _ h => .inl h)).setCell _ _ (fun _ => .inr rfl)
        have hr3 : Rd (w2.setCell ⟨sb, 0, none⟩ (.int .u8 (g s k))) rb s (k + 1) := hr2.keep ((Mod.refl (fun i => i = sb) w2).setCell _ _ (fun _ => rfl)) hne
        clear cc cf hS2
        refine (take_no rb s (k + 1) 61 _ hs (by omega) hr3 h61).mono ?_
        rintro e w4 ⟨rfl, hr4, hm4⟩
        go_wp2
        go_ret
        exact ⟨hm3.trans (hm4.mono (fun _ _ h => .inl h)), k + 1, hk2, hr4, .inr ⟨rfl, stuck_of (at_name HA.out hn HL.out) hk2 (.inl (by omega)) (by simp [nx, h61])⟩⟩
    · have hL' : isL (g s k) = false := by simpa using hL
      have HL : Hid (isL (g s k) = false) := hL'
      clear hL hL'
      go_enter Tryz.func117, Tryz.ntmps117
      go_wp2_with fail
      refine (take_no rb s k 63 _ hs (by omega) hr h63).mono ?_
      rintro e w1 ⟨rfl, hr1, hm1⟩
      go_wp2_with fail
      refine (letter_no rb s k _ hs (by omega) hr1 HL.out).mono ?_
      rintro e w2 ⟨rfl, hr2, hm2⟩
      have hS2 := (HS.out.keep hm1 (fun h => hne h.symm)).keep hm2 (fun h => hne h.symm)
      have cc := hS2.c0
      have cf := hS2.fz 0
      go_wp2
      go_ret
      exact ⟨((hm1.trans hm2).mono (fun _ _ h => .inl h)).setCell _ _ (fun _ => .inr rfl), k, by omega, hr2.keep ((Mod.refl (fun i => i = sb) w2).setCell _ _ (fun _ => rfl)) hne,
        .inr ⟨rfl, stuck_of HA.out (by omega) (.inr hk) (by simp [nx, hn, h63, HL.out])⟩⟩
end Go.Proofs.YtmnfndpbblpjiabGreatDoor

/- readWord: up to six letters. -/
namespace Go.Proofs.YtmnfndpbblpjiabGreatDoor
open Go.RowKit Pu

theorem Tryz.info5 : (Tryz.prog.info? 5).map (fun i => (i.zero, i.size, i.bytes)) = some (some (.int .u8 0), 1, 1) := by kernel_rfl

def WAt (s : ByteArray) (k n le ar : Nat) (l : List St) (nm : Nat) (wd : List UInt8) : Prop :=
  (wd = [] ∧ At s k 2 n le ar l ⟨nm, [], []⟩ false) ∨ (wd ≠ [] ∧ At s k 3 n wd.length ar l ⟨nm, wd, []⟩ false)
theorem WAt.step {s : ByteArray} {k n le ar : Nat} {l : List St} {nm : Nat} {wd : List UInt8} (h : WAt s k n le ar l nm wd) (hl : wd.length < 6) (hc : isL (g s k) = true) : WAt s (k + 1) n le ar l nm (wd ++ [bt s k]) := by
  rcases h with ⟨rfl, h⟩ | ⟨hn, h⟩
  · exact .inr ⟨by simp, by simpa using at_first h hc⟩
  · exact .inr ⟨by simp, by simpa using at_more h hl hc⟩

theorem word_end {s : ByteArray} {k n le ar : Nat} {l : List St} {nm sb : Nat} {wd : List UInt8} {w : World} {b : Bool} (h : WAt s k n le ar l nm wd) (hk : k ≤ s.size) (hS : Se w sb nm wd NoArgs 0) (h6 : wd.length = 6 ∨ isL (g s k) = false)
    (hb : b = decide (0 < wd.length) := by rfl) :
    (Ending.returned (.bool b) = .returned (.bool true) ∧ ∃ wd le', At s k 3 n le' ar l ⟨nm, wd, []⟩ false ∧ Se w sb nm wd NoArgs 0 ∧ (le' = 6 ∨ isL (g s k) = false)) ∨ (Ending.returned (.bool b) = .returned (.bool false) ∧ Stuck s k) := by
  subst hb
  rcases h with ⟨rfl, h⟩ | ⟨hn, h⟩
  · refine .inr ⟨by simp, stuck_of h hk (.inl (by omega)) ?_⟩
    rcases h6 with h6 | h6
    · simp at h6
    · simp [nx, h6]
  · refine .inl ⟨?_, wd, wd.length, h, hS, h6⟩
    have : 0 < wd.length := List.length_pos_iff.2 hn
    simp [this]

set_option maxHeartbeats 800000 in
set_option maxRecDepth 100000 in
theorem word_any (rb sb : Nat) (s : ByteArray) (k n le ar : Nat) (l : List St) (nm : Nat) (w : World) (hs : s.size ≤ 300) (hk : k ≤ s.size) (hr : Rd w rb s k) (hS : Se w sb nm [] NoArgs 0)
    (hA : At s k 2 n le ar l ⟨nm, [], []⟩ false) :
    Calls Tryz.prog 118 #[.pointer (some ⟨rb, 0, none⟩), .pointer (some ⟨sb, 0, none⟩)] w fun e w' => Mod (fun i => i = rb ∨ i = sb) w w' ∧ ∃ k', k' ≤ s.size ∧ Rd w' rb s k' ∧
      ((e = .returned (.bool true) ∧ ∃ wd le', At s k' 3 n le' ar l ⟨nm, wd, []⟩ false ∧ Se w' sb nm wd NoArgs 0 ∧ (le' = 6 ∨ isL (g s k') = false)) ∨ (e = .returned (.bool false) ∧ Stuck s k')) := by
  have hne := hS.ne hr
  have hrl := hr.lt
  have hsl := hS.lt
  obtain ⟨i0, hi, hz0, hz1, hz2⟩ := info_parts Tryz.info5
  go_enter Tryz.func118, Tryz.ntmps118
  go_wp2
  go_loopw [5] (fun v wr => ∃ (k' : Nat) (wd : List UInt8), wd.length ≤ 6 ∧ wr.ownsRow w.heap.size 5 1 v wd.length (bvs wd) ∧ Rd wr rb s k' ∧ WAt s k' n le ar l nm wd ∧ Se wr sb nm [] NoArgs 0 ∧ Mod (fun i => i = rb ∨ i = sb) w wr ∧ k' ≤ s.size)
    (fun v _ => 6 - sliceLen v)
  case atStart => exact ⟨k, [], by simp, World.ownsRow_nil _ _ _ _, hr, .inl ⟨rfl, hA⟩, hS, Mod.refl _ _, hk⟩
  case round =>
    obtain ⟨k', wd, hlen, hown, hr', hW, hS', hm, hk'⟩ := hrel
    obtain ⟨ao, cap, rfl, -⟩ := owns_form hown
    have hsz := hm.size
    by_cases hl6 : wd.length < 6
    · by_cases hL : isL (g s k') = true
      · have hc := (isL_iff _).1 hL
        have HL : Hid (isL (g s k') = true) := hL
        clear hL hS hr
        go_wp2_with fail
        refine (letter_yes rb s k' _ hs hk' hr' HL.out).mono ?_
        rintro e w2 ⟨rfl, hr2, hk2, hm2⟩
        have hown2 := owns_mod hown hm2 (fun q hq he => by omega)
        have hS2 := hS'.keep hm2 (fun h => hne h.symm)
        have hm3 := hm.trans (hm2.mono (q := fun i => i = rb ∨ i = sb) (fun _ _ h => .inl h))
        have hsz3 := hm3.size
        clear hown hr' hS' hm hm2
        go_wp2_with (at_builtin; refine wpList_append_own _ rfl _ _ 70 rfl w.heap.size 5 i0 (.int .u8 0) 1 1 Tryz.underlying70 hi hz0 hz1 hz2 rfl (by decide) _ _ _ rfl (hown2.alloc _) ⟨w2.heap.size, 0, none⟩ 1 1 [.int .u8 (g s k')] rfl rfl ?c1 ?c2 ?c3 ?c4 ?c5 ?_)
        case c1 => exact cell_one_new _ _ _
        case c2 => intro u hu; simp at hu; subst hu; rfl
        case c3 => unfold maxLen; omega
        case c4 => omega
        case c5 => simp; omega
        intro v' w4 hown4 hgrow _
        have hW' := hW.step hl6 HL.out
        have hm5 := (hm3.alloc _).grown hgrow (fun q hq hlt => by have := (hown2.lt q hq).1; omega)
        have hg2 : Mod (fun q => w.heap.size ≤ q) w2 w4 := ((Mod.refl _ w2).alloc _).grown hgrow (fun q hq _ => (hown2.lt q hq).1)
        have hr4 := hr2.keep hg2 (by omega)
        have hS4 := hS2.keep hg2 (by omega)
        have hown5 : w4.ownsRow w.heap.size 5 1 v' (wd ++ [bt s k']).length (bvs (wd ++ [bt s k'])) := by rw [← bvs_snoc, List.length_append]; exact hown4
        obtain ⟨ao', cap', rfl, -⟩ := owns_form hown4
        clear hown4 hgrow hown2 hr2 hS2 hm3 hg2 hW
        go_wp2
        go_roundw
        case rel => exact ⟨k' + 1, wd ++ [bt s k'], by simp; omega, hown5, hr4, hW', hS4, hm5, hk2⟩
        case measure => simp [sliceLen]; omega
      · have HL : Hid (isL (g s k') = false) := show isL (g s k') = false by simpa using hL
        clear hL hS hr
        go_wp2_with fail
        refine (letter_no rb s k' _ hs hk' hr' HL.out).mono ?_
        rintro e w2 ⟨rfl, hr2, hm2⟩
        have hown2 := owns_mod hown hm2 (fun q hq he => by omega)
        have hS2 := hS'.keep hm2 (fun h => hne h.symm)
        have hm3 := hm.trans (hm2.mono (q := fun i => i = rb ∨ i = sb) (fun _ _ h => .inl h))
        have hconv := convert_owned (P := Tryz.prog) (src := 70) (dst := 9) hown2 rfl Tryz.underlying70 Tryz.underlying5 Tryz.underlying9
        have cc := hS2.c1
        have cf := hS2.fz 1
        clear hown hr' hS' hm hm2 hown2
        go_wp2
        go_ret
        refine ⟨hm3.setCell _ _ (fun _ => .inr rfl), k', hk', hr2.keep ((Mod.refl (fun i => i = sb) w2).setCell _ _ (fun _ => rfl)) hne, ?_⟩
        exact word_end hW hk' (hS2.set1 wd) (.inr HL.out)
    · clear hS hr
      have hconv := convert_owned (P := Tryz.prog) (src := 70) (dst := 9) hown rfl Tryz.underlying70 Tryz.underlying5 Tryz.underlying9
      have cc := hS'.c1
      have cf := hS'.fz 1
      go_wp2
      go_ret
      refine ⟨hm.setCell _ _ (fun _ => .inr rfl), k', hk', hr'.keep ((Mod.refl (fun i => i = sb) wr).setCell _ _ (fun _ => rfl)) hne, ?_⟩
      exact word_end hW hk' (hS'.set1 wd) (.inl (by omega))
end Go.Proofs.YtmnfndpbblpjiabGreatDoor

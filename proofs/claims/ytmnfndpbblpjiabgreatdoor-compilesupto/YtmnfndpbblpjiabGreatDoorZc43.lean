/- The program's Run and Compile. -/
import Derived.Test.YtmnfndpbblpjiabGreatDoorZc42
namespace Go.Proofs.YtmnfndpbblpjiabGreatDoor
open Go.RowKit Pu
theorem okG_good {p : List (St × Nat)} (h : Ok p) (hl : p.length ≤ 16) : ∀ t ∈ cmdsL (cmds (sts p)) 0 0,Good (cntI (cmds (sts p))) t := by
 have hm := Pu.made_any h hl
 have hr := (okL_iff _ _ _).2 (okG_okL _ _ hm.ok)
 intro t ht
 obtain ⟨j,hj,rfl⟩ := List.getElem_of_mem ht
 exact right_good (okG_small _ _ hm.ok _ (List.getElem_mem hj)) (Nat.le_refl _) (hr j hj)
def CmpA (s : ByteArray) (r : ByteArray × Nat) : Prop := ∃ a b,Ans s a b ∧ ((a ≠ 0 ∧ r = (⟨#[]⟩,a)) ∨ (a = 0 ∧ r = (⟨(joined 128 (cntI (cmds (gaA s s.size).l)) (cmdsL (cmds (gaA s s.size).l) 0 0)).toArray⟩,0)))
set_option maxHeartbeats 400000 in
theorem cmp_long (s : ByteArray) (w : World) (hs : 300 < s.size) (hm : s.size ≤ maxLen) : Calls Tryz.prog 23 #[.string s] w fun e w' => e = .returned (.tuple #[.string ⟨#[]⟩,.int .i64 1]) ∧ w = w' := by
 have hu := und_long s w hs hm
 go_enter Tryz.func23,Tryz.ntmps23
 go_wp2_with fail
 refine hu.mono ?_
 rintro e w1 ⟨rfl,rfl⟩
 clear hu
 go_wp2_with fail
 go_ret2
 exact ⟨rfl,rfl⟩
set_option maxHeartbeats 1600000 in
set_option maxRecDepth 4000 in
theorem cmp_any (s : ByteArray) (w : World) (hs : s.size ≤ 300) : Calls Tryz.prog 23 #[.string s] w fun e w' => Mod (fun _ => False) w w' ∧ ∃ r,CmpA s r ∧ e = .returned (.tuple #[.string r.1,.int .i64 (r.2 : Nat)]) := by
 go_enter Tryz.func23,Tryz.ntmps23
 go_wp2_with fail
 refine (und_any s w hs).mono ?_
 rintro e w1 ⟨hm1,hu⟩
 rcases hu with ⟨k,hst,rfl⟩ | ⟨hW,p,k,hk,hok,hp,he,rfl⟩ | ⟨hW,v,q,hok,hqx,hL,hq16,rfl⟩
 ·have HA : Hid (CmpA s (⟨#[]⟩,2)) := ⟨2,k,.inl ⟨hst,rfl⟩,.inl ⟨by decide,rfl⟩⟩
  clear hst
  go_wp2_with fail
  go_ret2
  exact ⟨hm1,_,HA.out,rfl⟩
 ·have HA : Hid (CmpA s (⟨#[]⟩,err p (gaA s s.size).l[k])) := ⟨_,k,.inr (.inl ⟨hW,p,hk,hok,hp,he,rfl⟩),.inl ⟨he,rfl⟩⟩
  have hb : ((err p (gaA s s.size).l[k] : Int) != 0) = true := by rw [bne_iff_ne]; omega
  generalize err p (gaA s s.size).l[k] = er at *
  clear he hok hp hW
  go_wp2_with fail
  go_ret2
  exact ⟨hm1,_,HA.out,rfl⟩
 ·have hql : (pq q).length ≤ 16 := by simpa [pq] using hq16
  have hM := Pu.made_any hok hql
  have HSM : Hid _ := okG_small _ _ hM.ok
  have h256 : cntI (cmds (sts (pq q))) < 256 := by have := hM.n32; omega
  have hln : (cmdsL (cmds (sts (pq q))) 0 0).length ≤ 3000 := by have := hM.len; omega
  have HA : Hid (CmpA s (⟨(joined 128 (cntI (cmds (sts (pq q)))) (cmdsL (cmds (sts (pq q))) 0 0)).toArray⟩,0)) := ⟨0,0,.inr (.inr ⟨hW,rfl,rfl,pq q,hok,by rw [sts_pq]; exact hqx⟩),.inr ⟨rfl,by rw [sts_pq,hqx]⟩⟩
  have ht := trans_any v q _ w1 hq16 hL hok
  rw [sts_pq] at HSM h256 hln HA
  clear hM hqx hok hW hq16 hql hL
  go_wp2_with fail
  refine ht.mono ?_
  clear ht
  rintro e w2 ⟨hm2,ao,n,cap,rfl,hP⟩
  generalize cntI (cmds (q.map It.x)) = NN at *
  generalize cmdsL (cmds (q.map It.x)) 0 0 = SS at *
  have hmB := (hm1.trans hm2).alloc (.cells #[.int .u8 128,.int .u8 (NN : Nat),.slice ao n cap] 63)
  have hPB := PLst.mod hP ((Mod.refl (fun _ => False) w2).alloc (.cells #[.int .u8 128,.int .u8 (NN : Nat),.slice ao n cap] 63))
  have f_p := heap_alloc_new w2 (.cells #[.int .u8 128,.int .u8 (NN : Nat),.slice ao n cap] 63)
  obtain ⟨c0,c1,c2⟩ := cells3 f_p
  have HH : Hid _ := And.intro hmB hPB
  clear hmB hPB f_p hm2 hP hm1
  go_wp2_with fail
  generalize w2.alloc (.cells #[.int .u8 128,.int .u8 (NN : Nat),.slice ao n cap] 63) = w3 at *
  clear c0 c1 c2
  obtain ⟨hmB,hPB⟩ := HH.out
  clear HH
  refine (join_any (.slice ao n cap) SS 128 NN _ w3 hln hPB HSM.out (by omega) h256).mono ?_
  rintro e w4 ⟨rfl,hm4⟩
  have hmE := hmB.trans hm4
  clear hmB hPB hm4
  go_wp2_with fail
  go_ret2
  exact ⟨hmE,_,HA.out,rfl⟩
end Go.Proofs.YtmnfndpbblpjiabGreatDoor

/- The maker: between, round. -/
import Derived.Test.YtmnfndpbblpjiaaGreatDoorZr33
namespace Go.Proofs.YtmnfndpbblpjiaaGreatDoor
open Go.RowKit Pu
set_option maxHeartbeats 1600000 in
theorem mbtw_any (mb:Nat) (L:List Stp) (s i:Nat) (a b c:Tr) (w:World) (hM:Mkr w mb L s i) (hroom:Room L s 38) (h_a:S8 a) (h_b:S8 b) (h_c:S8 c) :
  Calls Tryz.prog 95 #[mP mb,trV a,trV b,trV c] w fun e w'=>e=.returned (rV (s+37))∧MkEnd w w' mb (L++btwL s a b c) (s+38) (i+0):=by
 obtain ⟨h_ax,h_ay,h_aw⟩:=h_a
 obtain ⟨h_bx,h_by,h_bw⟩:=h_b
 obtain ⟨h_cx,h_cy,h_cw⟩:=h_c
 have r2:=hroom.2
 have E0:MkEnd w (((((w.alloc (trO a))).alloc (trO b))).alloc (trO c)) mb L s i:=(MkEnd.al (MkEnd.al (MkEnd.al (show MkEnd w w mb L s i from ⟨Kp.refl mb w,hM⟩) _) _) _)
 have f_a:AtT (((((w.alloc (trO a))).alloc (trO b))).alloc (trO c)) (w.heap.size) a:=by
  have h:=heap_alloc_new w (trO a)
  exact (At3.al (At3.al h _) _)
 have f_b:AtT (((((w.alloc (trO a))).alloc (trO b))).alloc (trO c)) (w.heap.size+1) b:=by
  have h:=heap_alloc_new (w.alloc (trO a)) (trO b)
  simp only [sz_al] at h
  exact (At3.al h _)
 have f_c:AtT (((((w.alloc (trO a))).alloc (trO b))).alloc (trO c)) (w.heap.size+1+1) c:=by
  have h:=heap_alloc_new (((w.alloc (trO a))).alloc (trO b)) (trO c)
  simp only [sz_al] at h
  exact h
 have hsz:w.heap.size+3≤((((((w.alloc (trO a))).alloc (trO b))).alloc (trO c))).heap.size:=by simp only [sz_al];omega
 go_enter Tryz.func95,Tryz.ntmps95
 go_wp2_with fail
 generalize (((w.alloc (.cells #[rV a.x,rV a.y,rV a.w] 88)).alloc (.cells #[rV b.x,rV b.y,rV b.w] 88)).alloc (.cells #[rV c.x,rV c.y,rV c.w] 88))=w0 at *
 refine (mvol_any mb _ s i a b c w0 E0.2 (hroom.mono (by omega)) ⟨h_ax,h_ay,h_aw⟩ ⟨h_bx,h_by,h_bw⟩ ⟨h_cx,h_cy,h_cw⟩).mono ?_
 rintro e w1 ⟨he,k1⟩
 obtain ⟨v_v,hv⟩:∃ x:Nat,x=s+13:=⟨_,rfl⟩
 have b_v:v_v < 256:=by omega
 have he2:e=.returned (rV v_v):=by rw [hv];exact he
 have Hv_v:Hid (v_v=s+13):=hv
 clear he hv
 subst he2
 have E1:MkEnd w w1 mb (L++volL s a b c) (s+14) (i):=MkEnd.trans E0 k1
 have R1:Room (L++volL s a b c) (s+14) 24:=Room.app 14 (k:=24) hroom (Nat.le_of_eq rfl)
 replace f_a:=At3.kp f_a k1.1
 replace f_b:=At3.kp f_b k1.1
 replace f_c:=At3.kp f_c k1.1
 replace hsz:=Nat.le_trans hsz k1.1.size
 clear k1 E0 hroom
 obtain ⟨q_a0,q_a1,q_a2⟩:=cells3 f_a
 obtain ⟨q_b0,q_b1,q_b2⟩:=cells3 f_b
 obtain ⟨q_c0,q_c1,q_c2⟩:=cells3 f_c
 have HH:Hid _:=And.intro E1 (And.intro hsz (And.intro f_a (And.intro f_b f_c)))
 clear E1 hsz f_a f_b f_c
 go_wp2_with fail
 clear q_a0 q_a1 q_a2 q_b0 q_b1 q_b2 q_c0 q_c1 q_c2
 obtain ⟨E1,hsz,f_a,f_b,f_c⟩:=HH.out
 clear HH
 refine (misn_any mb _ (s+14) i v_v w1 E1.2 (R1.mono (by omega)) b_v).mono ?_
 rintro e w2 ⟨he,k2⟩
 obtain ⟨v_st,hv⟩:∃ x:Nat,x=s+14+3:=⟨_,rfl⟩
 have b_st:v_st < 256:=by omega
 have he2:e=.returned (rV v_st):=by rw [hv];exact he
 have Hv_st:Hid (v_st=s+14+3):=hv
 clear he hv
 subst he2
 have E2:MkEnd w w2 mb ((L++volL s a b c)++isnL (s+14) v_v) (s+18) (i):=MkEnd.trans E1 k2
 have R2:Room ((L++volL s a b c)++isnL (s+14) v_v) (s+18) 20:=Room.app 4 (k:=20) R1 (Nat.le_of_eq rfl)
 replace f_a:=At3.kp f_a k2.1
 replace f_b:=At3.kp f_b k2.1
 replace f_c:=At3.kp f_c k2.1
 replace hsz:=Nat.le_trans hsz k2.1.size
 clear k2 E1 R1
 obtain ⟨q_a0,q_a1,q_a2⟩:=cells3 f_a
 obtain ⟨q_b0,q_b1,q_b2⟩:=cells3 f_b
 obtain ⟨q_c0,q_c1,q_c2⟩:=cells3 f_c
 have HH:Hid _:=And.intro E2 (And.intro hsz (And.intro f_a (And.intro f_b f_c)))
 clear E2 hsz f_a f_b f_c
 go_wp2_with fail
 clear q_a0 q_a1 q_a2 q_b0 q_b1 q_b2 q_c0 q_c1 q_c2
 obtain ⟨E2,hsz,f_a,f_b,f_c⟩:=HH.out
 clear HH
 refine (mway_any mb _ (s+18) i b a w2 E2.2 (R2.mono (by omega)) ⟨h_bx,h_by,h_bw⟩ ⟨h_ax,h_ay,h_aw⟩).mono ?_
 rintro e w3 ⟨rfl,k3⟩
 have E3:MkEnd w w3 mb (((L++volL s a b c)++isnL (s+14) v_v)++wayL (s+18) b a) (s+25) (i):=MkEnd.trans E2 k3
 have R3:Room (((L++volL s a b c)++isnL (s+14) v_v)++wayL (s+18) b a) (s+25) 13:=Room.app 7 (k:=13) R2 (Nat.le_of_eq rfl)
 replace f_a:=At3.kp f_a k3.1
 replace f_b:=At3.kp f_b k3.1
 replace f_c:=At3.kp f_c k3.1
 replace hsz:=Nat.le_trans hsz k3.1.size
 clear k3 E2 R2
 have f_f:AtT (w3.alloc (.cells #[rV (wayR (s+18)).x,rV (wayR (s+18)).y,rV (wayR (s+18)).w] 88)) w3.heap.size (wayR (s+18)):=heap_alloc_new w3 _
 replace E3:=E3.al (.cells #[rV (wayR (s+18)).x,rV (wayR (s+18)).y,rV (wayR (s+18)).w] 88)
 replace f_a:=At3.al f_a (.cells #[rV (wayR (s+18)).x,rV (wayR (s+18)).y,rV (wayR (s+18)).w] 88)
 replace f_b:=At3.al f_b (.cells #[rV (wayR (s+18)).x,rV (wayR (s+18)).y,rV (wayR (s+18)).w] 88)
 replace f_c:=At3.al f_c (.cells #[rV (wayR (s+18)).x,rV (wayR (s+18)).y,rV (wayR (s+18)).w] 88)
 replace hsz:_≤(w3.alloc (.cells #[rV (wayR (s+18)).x,rV (wayR (s+18)).y,rV (wayR (s+18)).w] 88)).heap.size:=Nat.le_trans hsz (by simp)
 obtain ⟨q_a0,q_a1,q_a2⟩:=cells3 f_a
 obtain ⟨q_b0,q_b1,q_b2⟩:=cells3 f_b
 obtain ⟨q_c0,q_c1,q_c2⟩:=cells3 f_c
 obtain ⟨q_f0,q_f1,q_f2⟩:=cells3 f_f
 have HH:Hid _:=And.intro E3 (And.intro hsz (And.intro f_a (And.intro f_b (And.intro f_c f_f))))
 clear E3 hsz f_a f_b f_c f_f
 go_wp2_with fail
 generalize w3.alloc (.cells #[rV (wayR (s+18)).x,rV (wayR (s+18)).y,rV (wayR (s+18)).w] 88)=w3b at *
 clear q_a0 q_a1 q_a2 q_b0 q_b1 q_b2 q_c0 q_c1 q_c2 q_f0 q_f1 q_f2
 obtain ⟨E3,hsz,f_a,f_b,f_c,f_f⟩:=HH.out
 clear HH
 refine (mway_any mb _ (s+25) i b c w3b E3.2 (R3.mono (by omega)) ⟨h_bx,h_by,h_bw⟩ ⟨h_cx,h_cy,h_cw⟩).mono ?_
 rintro e w4 ⟨rfl,k4⟩
 have E4:MkEnd w w4 mb ((((L++volL s a b c)++isnL (s+14) v_v)++wayL (s+18) b a)++wayL (s+25) b c) (s+32) (i):=MkEnd.trans E3 k4
 have R4:Room ((((L++volL s a b c)++isnL (s+14) v_v)++wayL (s+18) b a)++wayL (s+25) b c) (s+32) 6:=Room.app 7 (k:=6) R3 (Nat.le_of_eq rfl)
 replace f_a:=At3.kp f_a k4.1
 replace f_b:=At3.kp f_b k4.1
 replace f_c:=At3.kp f_c k4.1
 replace f_f:=At3.kp f_f k4.1
 replace hsz:=Nat.le_trans hsz k4.1.size
 clear k4 E3 R3
 have f_t:AtT (w4.alloc (.cells #[rV (wayR (s+25)).x,rV (wayR (s+25)).y,rV (wayR (s+25)).w] 88)) w4.heap.size (wayR (s+25)):=heap_alloc_new w4 _
 replace E4:=E4.al (.cells #[rV (wayR (s+25)).x,rV (wayR (s+25)).y,rV (wayR (s+25)).w] 88)
 replace f_a:=At3.al f_a (.cells #[rV (wayR (s+25)).x,rV (wayR (s+25)).y,rV (wayR (s+25)).w] 88)
 replace f_b:=At3.al f_b (.cells #[rV (wayR (s+25)).x,rV (wayR (s+25)).y,rV (wayR (s+25)).w] 88)
 replace f_c:=At3.al f_c (.cells #[rV (wayR (s+25)).x,rV (wayR (s+25)).y,rV (wayR (s+25)).w] 88)
 replace f_f:=At3.al f_f (.cells #[rV (wayR (s+25)).x,rV (wayR (s+25)).y,rV (wayR (s+25)).w] 88)
 replace hsz:_≤(w4.alloc (.cells #[rV (wayR (s+25)).x,rV (wayR (s+25)).y,rV (wayR (s+25)).w] 88)).heap.size:=Nat.le_trans hsz (by simp)
 obtain ⟨q_a0,q_a1,q_a2⟩:=cells3 f_a
 obtain ⟨q_b0,q_b1,q_b2⟩:=cells3 f_b
 obtain ⟨q_c0,q_c1,q_c2⟩:=cells3 f_c
 obtain ⟨q_f0,q_f1,q_f2⟩:=cells3 f_f
 obtain ⟨q_t0,q_t1,q_t2⟩:=cells3 f_t
 have HH:Hid _:=And.intro E4 (And.intro hsz (And.intro f_a (And.intro f_b (And.intro f_c (And.intro f_f f_t)))))
 clear E4 hsz f_a f_b f_c f_f f_t
 go_wp2_with fail
 generalize w4.alloc (.cells #[rV (wayR (s+25)).x,rV (wayR (s+25)).y,rV (wayR (s+25)).w] 88)=w4b at *
 clear q_a0 q_a1 q_a2 q_b0 q_b1 q_b2 q_c0 q_c1 q_c2 q_f0 q_f1 q_f2 q_t0 q_t1 q_t2
 obtain ⟨E4,hsz,f_a,f_b,f_c,f_f,f_t⟩:=HH.out
 clear HH
 refine (mpS_any mb _ (s+32) i (s+20) (s+27) (s+23) (s+30) w4b E4.2 (R4.mono (by omega)) (by omega) (by omega) (by omega) (by omega)).mono ?_
 rintro e w5 ⟨he,k5⟩
 obtain ⟨v_tg,hv⟩:∃ x:Nat,x=s+32+2:=⟨_,rfl⟩
 have b_tg:v_tg < 256:=by omega
 have he2:e=.returned (rV v_tg):=by rw [hv];exact he
 have Hv_tg:Hid (v_tg=s+32+2):=hv
 clear he hv
 subst he2
 have E5:MkEnd w w5 mb (((((L++volL s a b c)++isnL (s+14) v_v)++wayL (s+18) b a)++wayL (s+25) b c)++prodS (s+32) (s+20) (s+27) (s+23) (s+30)) (s+35) (i):=MkEnd.trans E4 k5
 have R5:Room (((((L++volL s a b c)++isnL (s+14) v_v)++wayL (s+18) b a)++wayL (s+25) b c)++prodS (s+32) (s+20) (s+27) (s+23) (s+30)) (s+35) 3:=Room.app 3 (k:=3) R4 (Nat.le_of_eq rfl)
 replace f_a:=At3.kp f_a k5.1
 replace f_b:=At3.kp f_b k5.1
 replace f_c:=At3.kp f_c k5.1
 replace f_f:=At3.kp f_f k5.1
 replace f_t:=At3.kp f_t k5.1
 replace hsz:=Nat.le_trans hsz k5.1.size
 clear k5 E4 R4
 obtain ⟨q_a0,q_a1,q_a2⟩:=cells3 f_a
 obtain ⟨q_b0,q_b1,q_b2⟩:=cells3 f_b
 obtain ⟨q_c0,q_c1,q_c2⟩:=cells3 f_c
 obtain ⟨q_f0,q_f1,q_f2⟩:=cells3 f_f
 obtain ⟨q_t0,q_t1,q_t2⟩:=cells3 f_t
 have HH:Hid _:=And.intro E5 (And.intro hsz (And.intro f_a (And.intro f_b (And.intro f_c (And.intro f_f f_t)))))
 clear E5 hsz f_a f_b f_c f_f f_t
 go_wp2_with fail
 clear q_a0 q_a1 q_a2 q_b0 q_b1 q_b2 q_c0 q_c1 q_c2 q_f0 q_f1 q_f2 q_t0 q_t1 q_t2
 obtain ⟨E5,hsz,f_a,f_b,f_c,f_f,f_t⟩:=HH.out
 clear HH
 refine (mneg_any mb _ (s+35) i v_tg w5 E5.2 (R5.mono (by omega)) b_tg).mono ?_
 rintro e w6 ⟨he,k6⟩
 obtain ⟨v_ap,hv⟩:∃ x:Nat,x=s+35+1:=⟨_,rfl⟩
 have b_ap:v_ap < 256:=by omega
 have he2:e=.returned (rV v_ap):=by rw [hv];exact he
 have Hv_ap:Hid (v_ap=s+35+1):=hv
 clear he hv
 subst he2
 have E6:MkEnd w w6 mb ((((((L++volL s a b c)++isnL (s+14) v_v)++wayL (s+18) b a)++wayL (s+25) b c)++prodS (s+32) (s+20) (s+27) (s+23) (s+30))++negL (s+35) v_tg) (s+37) (i):=MkEnd.trans E5 k6
 have R6:Room ((((((L++volL s a b c)++isnL (s+14) v_v)++wayL (s+18) b a)++wayL (s+25) b c)++prodS (s+32) (s+20) (s+27) (s+23) (s+30))++negL (s+35) v_tg) (s+37) 1:=Room.app 2 (k:=1) R5 (Nat.le_of_eq rfl)
 replace f_a:=At3.kp f_a k6.1
 replace f_b:=At3.kp f_b k6.1
 replace f_c:=At3.kp f_c k6.1
 replace f_f:=At3.kp f_f k6.1
 replace f_t:=At3.kp f_t k6.1
 replace hsz:=Nat.le_trans hsz k6.1.size
 clear k6 E5 R5
 obtain ⟨q_a0,q_a1,q_a2⟩:=cells3 f_a
 obtain ⟨q_b0,q_b1,q_b2⟩:=cells3 f_b
 obtain ⟨q_c0,q_c1,q_c2⟩:=cells3 f_c
 obtain ⟨q_f0,q_f1,q_f2⟩:=cells3 f_f
 obtain ⟨q_t0,q_t1,q_t2⟩:=cells3 f_t
 have HH:Hid _:=And.intro E6 (And.intro hsz (And.intro f_a (And.intro f_b (And.intro f_c (And.intro f_f f_t)))))
 clear E6 hsz f_a f_b f_c f_f f_t
 go_wp2_with fail
 clear q_a0 q_a1 q_a2 q_b0 q_b1 q_b2 q_c0 q_c1 q_c2 q_f0 q_f1 q_f2 q_t0 q_t1 q_t2
 obtain ⟨E6,hsz,f_a,f_b,f_c,f_f,f_t⟩:=HH.out
 clear HH
 refine (mpro_any mb _ (s+37) i v_st v_ap w6 E6.2 (R6.mono (by omega)) b_st b_ap).mono ?_
 rintro e w7 ⟨rfl,k7⟩
 have E7:MkEnd w w7 mb (((((((L++volL s a b c)++isnL (s+14) v_v)++wayL (s+18) b a)++wayL (s+25) b c)++prodS (s+32) (s+20) (s+27) (s+23) (s+30))++negL (s+35) v_tg)++[⟨4,s+37,v_st,v_ap⟩]) (s+38) (i):=MkEnd.trans E6 k7
 replace f_a:=At3.kp f_a k7.1
 replace f_b:=At3.kp f_b k7.1
 replace f_c:=At3.kp f_c k7.1
 replace f_f:=At3.kp f_f k7.1
 replace f_t:=At3.kp f_t k7.1
 replace hsz:=Nat.le_trans hsz k7.1.size
 clear k7 E6 R6
 have HE:Hid _:=E7
 clear E7 f_a f_b f_c f_f f_t
 go_wp2_with fail
 go_ret
 have hL:(((((((L++volL s a b c)++isnL (s+14) v_v)++wayL (s+18) b a)++wayL (s+25) b c)++prodS (s+32) (s+20) (s+27) (s+23) (s+30))++negL (s+35) v_tg)++[⟨4,s+37,v_st,v_ap⟩])=L++btwL s a b c:=by
  have e_v:=Hv_v.out
  have e_st:=Hv_st.out
  have e_tg:=Hv_tg.out
  have e_ap:=Hv_ap.out
  subst e_v e_st e_tg e_ap
  simp only [List.append_assoc]
  rfl
 exact ⟨rfl,by rw [← hL];exact HE.out⟩
set_option maxHeartbeats 1600000 in
theorem mrnd_any (mb:Nat) (L:List Stp) (s i:Nat) (a b c d:Tr) (w:World) (hM:Mkr w mb L s i) (hroom:Room L s 50) (h_a:S8 a) (h_b:S8 b) (h_c:S8 c) (h_d:S8 d) :
  Calls Tryz.prog 151 #[mP mb,trV a,trV b,trV c,trV d] w fun e w'=>e=.returned (rV (s+49))∧MkEnd w w' mb (L++rndL s a b c d) (s+50) (i+0):=by
 obtain ⟨h_ax,h_ay,h_aw⟩:=h_a
 obtain ⟨h_bx,h_by,h_bw⟩:=h_b
 obtain ⟨h_cx,h_cy,h_cw⟩:=h_c
 obtain ⟨h_dx,h_dy,h_dw⟩:=h_d
 have r2:=hroom.2
 have E0:MkEnd w (((((((w.alloc (trO a))).alloc (trO b))).alloc (trO c))).alloc (trO d)) mb L s i:=(MkEnd.al (MkEnd.al (MkEnd.al (MkEnd.al (show MkEnd w w mb L s i from ⟨Kp.refl mb w,hM⟩) _) _) _) _)
 have f_a:AtT (((((((w.alloc (trO a))).alloc (trO b))).alloc (trO c))).alloc (trO d)) (w.heap.size) a:=by
  have h:=heap_alloc_new w (trO a)
  exact (At3.al (At3.al (At3.al h _) _) _)
 have f_b:AtT (((((((w.alloc (trO a))).alloc (trO b))).alloc (trO c))).alloc (trO d)) (w.heap.size+1) b:=by
  have h:=heap_alloc_new (w.alloc (trO a)) (trO b)
  simp only [sz_al] at h
  exact (At3.al (At3.al h _) _)
 have f_c:AtT (((((((w.alloc (trO a))).alloc (trO b))).alloc (trO c))).alloc (trO d)) (w.heap.size+1+1) c:=by
  have h:=heap_alloc_new (((w.alloc (trO a))).alloc (trO b)) (trO c)
  simp only [sz_al] at h
  exact (At3.al h _)
 have f_d:AtT (((((((w.alloc (trO a))).alloc (trO b))).alloc (trO c))).alloc (trO d)) (w.heap.size+1+1+1) d:=by
  have h:=heap_alloc_new (((((w.alloc (trO a))).alloc (trO b))).alloc (trO c)) (trO d)
  simp only [sz_al] at h
  exact h
 have hsz:w.heap.size+4≤((((((((w.alloc (trO a))).alloc (trO b))).alloc (trO c))).alloc (trO d))).heap.size:=by simp only [sz_al];omega
 go_enter Tryz.func151,Tryz.ntmps151
 go_wp2_with fail
 generalize ((((w.alloc (.cells #[rV a.x,rV a.y,rV a.w] 88)).alloc (.cells #[rV b.x,rV b.y,rV b.w] 88)).alloc (.cells #[rV c.x,rV c.y,rV c.w] 88)).alloc (.cells #[rV d.x,rV d.y,rV d.w] 88))=w0 at *
 refine (mway_any mb _ s i a b w0 E0.2 (hroom.mono (by omega)) ⟨h_ax,h_ay,h_aw⟩ ⟨h_bx,h_by,h_bw⟩).mono ?_
 rintro e w1 ⟨rfl,k1⟩
 have E1:MkEnd w w1 mb (L++wayL s a b) (s+7) (i):=MkEnd.trans E0 k1
 have R1:Room (L++wayL s a b) (s+7) 43:=Room.app 7 (k:=43) hroom (Nat.le_of_eq rfl)
 replace f_a:=At3.kp f_a k1.1
 replace f_b:=At3.kp f_b k1.1
 replace f_c:=At3.kp f_c k1.1
 replace f_d:=At3.kp f_d k1.1
 replace hsz:=Nat.le_trans hsz k1.1.size
 clear k1 E0 hroom
 have f_t1:AtT (w1.alloc (.cells #[rV (wayR s).x,rV (wayR s).y,rV (wayR s).w] 88)) w1.heap.size (wayR s):=heap_alloc_new w1 _
 replace E1:=E1.al (.cells #[rV (wayR s).x,rV (wayR s).y,rV (wayR s).w] 88)
 replace f_a:=At3.al f_a (.cells #[rV (wayR s).x,rV (wayR s).y,rV (wayR s).w] 88)
 replace f_b:=At3.al f_b (.cells #[rV (wayR s).x,rV (wayR s).y,rV (wayR s).w] 88)
 replace f_c:=At3.al f_c (.cells #[rV (wayR s).x,rV (wayR s).y,rV (wayR s).w] 88)
 replace f_d:=At3.al f_d (.cells #[rV (wayR s).x,rV (wayR s).y,rV (wayR s).w] 88)
 replace hsz:_≤(w1.alloc (.cells #[rV (wayR s).x,rV (wayR s).y,rV (wayR s).w] 88)).heap.size:=Nat.le_trans hsz (by simp)
 obtain ⟨q_a0,q_a1,q_a2⟩:=cells3 f_a
 obtain ⟨q_b0,q_b1,q_b2⟩:=cells3 f_b
 obtain ⟨q_c0,q_c1,q_c2⟩:=cells3 f_c
 obtain ⟨q_d0,q_d1,q_d2⟩:=cells3 f_d
 obtain ⟨q_t10,q_t11,q_t12⟩:=cells3 f_t1
 have HH:Hid _:=And.intro E1 (And.intro hsz (And.intro f_a (And.intro f_b (And.intro f_c (And.intro f_d f_t1)))))
 clear E1 hsz f_a f_b f_c f_d f_t1
 go_wp2_with fail
 generalize w1.alloc (.cells #[rV (wayR s).x,rV (wayR s).y,rV (wayR s).w] 88)=w1b at *
 clear q_a0 q_a1 q_a2 q_b0 q_b1 q_b2 q_c0 q_c1 q_c2 q_d0 q_d1 q_d2 q_t10 q_t11 q_t12
 obtain ⟨E1,hsz,f_a,f_b,f_c,f_d,f_t1⟩:=HH.out
 clear HH
 refine (mway_any mb _ (s+7) i a c w1b E1.2 (R1.mono (by omega)) ⟨h_ax,h_ay,h_aw⟩ ⟨h_cx,h_cy,h_cw⟩).mono ?_
 rintro e w2 ⟨rfl,k2⟩
 have E2:MkEnd w w2 mb ((L++wayL s a b)++wayL (s+7) a c) (s+14) (i):=MkEnd.trans E1 k2
 have R2:Room ((L++wayL s a b)++wayL (s+7) a c) (s+14) 36:=Room.app 7 (k:=36) R1 (Nat.le_of_eq rfl)
 replace f_a:=At3.kp f_a k2.1
 replace f_b:=At3.kp f_b k2.1
 replace f_c:=At3.kp f_c k2.1
 replace f_d:=At3.kp f_d k2.1
 replace f_t1:=At3.kp f_t1 k2.1
 replace hsz:=Nat.le_trans hsz k2.1.size
 clear k2 E1 R1
 have f_t2:AtT (w2.alloc (.cells #[rV (wayR (s+7)).x,rV (wayR (s+7)).y,rV (wayR (s+7)).w] 88)) w2.heap.size (wayR (s+7)):=heap_alloc_new w2 _
 replace E2:=E2.al (.cells #[rV (wayR (s+7)).x,rV (wayR (s+7)).y,rV (wayR (s+7)).w] 88)
 replace f_a:=At3.al f_a (.cells #[rV (wayR (s+7)).x,rV (wayR (s+7)).y,rV (wayR (s+7)).w] 88)
 replace f_b:=At3.al f_b (.cells #[rV (wayR (s+7)).x,rV (wayR (s+7)).y,rV (wayR (s+7)).w] 88)
 replace f_c:=At3.al f_c (.cells #[rV (wayR (s+7)).x,rV (wayR (s+7)).y,rV (wayR (s+7)).w] 88)
 replace f_d:=At3.al f_d (.cells #[rV (wayR (s+7)).x,rV (wayR (s+7)).y,rV (wayR (s+7)).w] 88)
 replace f_t1:=At3.al f_t1 (.cells #[rV (wayR (s+7)).x,rV (wayR (s+7)).y,rV (wayR (s+7)).w] 88)
 replace hsz:_≤(w2.alloc (.cells #[rV (wayR (s+7)).x,rV (wayR (s+7)).y,rV (wayR (s+7)).w] 88)).heap.size:=Nat.le_trans hsz (by simp)
 obtain ⟨q_a0,q_a1,q_a2⟩:=cells3 f_a
 obtain ⟨q_b0,q_b1,q_b2⟩:=cells3 f_b
 obtain ⟨q_c0,q_c1,q_c2⟩:=cells3 f_c
 obtain ⟨q_d0,q_d1,q_d2⟩:=cells3 f_d
 obtain ⟨q_t10,q_t11,q_t12⟩:=cells3 f_t1
 obtain ⟨q_t20,q_t21,q_t22⟩:=cells3 f_t2
 have HH:Hid _:=And.intro E2 (And.intro hsz (And.intro f_a (And.intro f_b (And.intro f_c (And.intro f_d (And.intro f_t1 f_t2))))))
 clear E2 hsz f_a f_b f_c f_d f_t1 f_t2
 go_wp2_with fail
 generalize w2.alloc (.cells #[rV (wayR (s+7)).x,rV (wayR (s+7)).y,rV (wayR (s+7)).w] 88)=w2b at *
 clear q_a0 q_a1 q_a2 q_b0 q_b1 q_b2 q_c0 q_c1 q_c2 q_d0 q_d1 q_d2 q_t10 q_t11 q_t12 q_t20 q_t21 q_t22
 obtain ⟨E2,hsz,f_a,f_b,f_c,f_d,f_t1,f_t2⟩:=HH.out
 clear HH
 refine (mway_any mb _ (s+14) i a d w2b E2.2 (R2.mono (by omega)) ⟨h_ax,h_ay,h_aw⟩ ⟨h_dx,h_dy,h_dw⟩).mono ?_
 rintro e w3 ⟨rfl,k3⟩
 have E3:MkEnd w w3 mb (((L++wayL s a b)++wayL (s+7) a c)++wayL (s+14) a d) (s+21) (i):=MkEnd.trans E2 k3
 have R3:Room (((L++wayL s a b)++wayL (s+7) a c)++wayL (s+14) a d) (s+21) 29:=Room.app 7 (k:=29) R2 (Nat.le_of_eq rfl)
 replace f_a:=At3.kp f_a k3.1
 replace f_b:=At3.kp f_b k3.1
 replace f_c:=At3.kp f_c k3.1
 replace f_d:=At3.kp f_d k3.1
 replace f_t1:=At3.kp f_t1 k3.1
 replace f_t2:=At3.kp f_t2 k3.1
 replace hsz:=Nat.le_trans hsz k3.1.size
 clear k3 E2 R2
 have f_t3:AtT (w3.alloc (.cells #[rV (wayR (s+14)).x,rV (wayR (s+14)).y,rV (wayR (s+14)).w] 88)) w3.heap.size (wayR (s+14)):=heap_alloc_new w3 _
 replace E3:=E3.al (.cells #[rV (wayR (s+14)).x,rV (wayR (s+14)).y,rV (wayR (s+14)).w] 88)
 replace f_a:=At3.al f_a (.cells #[rV (wayR (s+14)).x,rV (wayR (s+14)).y,rV (wayR (s+14)).w] 88)
 replace f_b:=At3.al f_b (.cells #[rV (wayR (s+14)).x,rV (wayR (s+14)).y,rV (wayR (s+14)).w] 88)
 replace f_c:=At3.al f_c (.cells #[rV (wayR (s+14)).x,rV (wayR (s+14)).y,rV (wayR (s+14)).w] 88)
 replace f_d:=At3.al f_d (.cells #[rV (wayR (s+14)).x,rV (wayR (s+14)).y,rV (wayR (s+14)).w] 88)
 replace f_t1:=At3.al f_t1 (.cells #[rV (wayR (s+14)).x,rV (wayR (s+14)).y,rV (wayR (s+14)).w] 88)
 replace f_t2:=At3.al f_t2 (.cells #[rV (wayR (s+14)).x,rV (wayR (s+14)).y,rV (wayR (s+14)).w] 88)
 replace hsz:_≤(w3.alloc (.cells #[rV (wayR (s+14)).x,rV (wayR (s+14)).y,rV (wayR (s+14)).w] 88)).heap.size:=Nat.le_trans hsz (by simp)
 obtain ⟨q_a0,q_a1,q_a2⟩:=cells3 f_a
 obtain ⟨q_b0,q_b1,q_b2⟩:=cells3 f_b
 obtain ⟨q_c0,q_c1,q_c2⟩:=cells3 f_c
 obtain ⟨q_d0,q_d1,q_d2⟩:=cells3 f_d
 obtain ⟨q_t10,q_t11,q_t12⟩:=cells3 f_t1
 obtain ⟨q_t20,q_t21,q_t22⟩:=cells3 f_t2
 obtain ⟨q_t30,q_t31,q_t32⟩:=cells3 f_t3
 have HH:Hid _:=And.intro E3 (And.intro hsz (And.intro f_a (And.intro f_b (And.intro f_c (And.intro f_d (And.intro f_t1 (And.intro f_t2 f_t3)))))))
 clear E3 hsz f_a f_b f_c f_d f_t1 f_t2 f_t3
 go_wp2_with fail
 generalize w3.alloc (.cells #[rV (wayR (s+14)).x,rV (wayR (s+14)).y,rV (wayR (s+14)).w] 88)=w3b at *
 clear q_a0 q_a1 q_a2 q_b0 q_b1 q_b2 q_c0 q_c1 q_c2 q_d0 q_d1 q_d2 q_t10 q_t11 q_t12 q_t20 q_t21 q_t22 q_t30 q_t31 q_t32
 obtain ⟨E3,hsz,f_a,f_b,f_c,f_d,f_t1,f_t2,f_t3⟩:=HH.out
 clear HH
 refine (mlif_any mb _ (s+21) i (wayR s) w3b E3.2 (R3.mono (by omega)) ⟨by show s+2 < 256;first | exact (by omega) | omega,by show s+5 < 256;first | exact (by omega) | omega,by show s+6 < 256;first | exact (by omega) | omega⟩).mono ?_
 rintro e w4 ⟨rfl,k4⟩
 have E4:MkEnd w w4 mb ((((L++wayL s a b)++wayL (s+7) a c)++wayL (s+14) a d)++lifL (s+21) (wayR s)) (s+26) (i):=MkEnd.trans E3 k4
 have R4:Room ((((L++wayL s a b)++wayL (s+7) a c)++wayL (s+14) a d)++lifL (s+21) (wayR s)) (s+26) 24:=Room.app 5 (k:=24) R3 (Nat.le_of_eq rfl)
 replace f_a:=At3.kp f_a k4.1
 replace f_b:=At3.kp f_b k4.1
 replace f_c:=At3.kp f_c k4.1
 replace f_d:=At3.kp f_d k4.1
 replace f_t1:=At3.kp f_t1 k4.1
 replace f_t2:=At3.kp f_t2 k4.1
 replace f_t3:=At3.kp f_t3 k4.1
 replace hsz:=Nat.le_trans hsz k4.1.size
 clear k4 E3 R3
 have f_l1:AtT (w4.alloc (.cells #[rV (lifR (s+21)).x,rV (lifR (s+21)).y,rV (lifR (s+21)).w] 88)) w4.heap.size (lifR (s+21)):=heap_alloc_new w4 _
 replace E4:=E4.al (.cells #[rV (lifR (s+21)).x,rV (lifR (s+21)).y,rV (lifR (s+21)).w] 88)
 replace f_a:=At3.al f_a (.cells #[rV (lifR (s+21)).x,rV (lifR (s+21)).y,rV (lifR (s+21)).w] 88)
 replace f_b:=At3.al f_b (.cells #[rV (lifR (s+21)).x,rV (lifR (s+21)).y,rV (lifR (s+21)).w] 88)
 replace f_c:=At3.al f_c (.cells #[rV (lifR (s+21)).x,rV (lifR (s+21)).y,rV (lifR (s+21)).w] 88)
 replace f_d:=At3.al f_d (.cells #[rV (lifR (s+21)).x,rV (lifR (s+21)).y,rV (lifR (s+21)).w] 88)
 replace f_t1:=At3.al f_t1 (.cells #[rV (lifR (s+21)).x,rV (lifR (s+21)).y,rV (lifR (s+21)).w] 88)
 replace f_t2:=At3.al f_t2 (.cells #[rV (lifR (s+21)).x,rV (lifR (s+21)).y,rV (lifR (s+21)).w] 88)
 replace f_t3:=At3.al f_t3 (.cells #[rV (lifR (s+21)).x,rV (lifR (s+21)).y,rV (lifR (s+21)).w] 88)
 replace hsz:_≤(w4.alloc (.cells #[rV (lifR (s+21)).x,rV (lifR (s+21)).y,rV (lifR (s+21)).w] 88)).heap.size:=Nat.le_trans hsz (by simp)
 obtain ⟨q_a0,q_a1,q_a2⟩:=cells3 f_a
 obtain ⟨q_b0,q_b1,q_b2⟩:=cells3 f_b
 obtain ⟨q_c0,q_c1,q_c2⟩:=cells3 f_c
 obtain ⟨q_d0,q_d1,q_d2⟩:=cells3 f_d
 obtain ⟨q_t10,q_t11,q_t12⟩:=cells3 f_t1
 obtain ⟨q_t20,q_t21,q_t22⟩:=cells3 f_t2
 obtain ⟨q_t30,q_t31,q_t32⟩:=cells3 f_t3
 obtain ⟨q_l10,q_l11,q_l12⟩:=cells3 f_l1
 have HH:Hid _:=And.intro E4 (And.intro hsz (And.intro f_a (And.intro f_b (And.intro f_c (And.intro f_d (And.intro f_t1 (And.intro f_t2 (And.intro f_t3 f_l1))))))))
 clear E4 hsz f_a f_b f_c f_d f_t1 f_t2 f_t3 f_l1
 go_wp2_with fail
 generalize w4.alloc (.cells #[rV (lifR (s+21)).x,rV (lifR (s+21)).y,rV (lifR (s+21)).w] 88)=w4b at *
 clear q_a0 q_a1 q_a2 q_b0 q_b1 q_b2 q_c0 q_c1 q_c2 q_d0 q_d1 q_d2 q_t10 q_t11 q_t12 q_t20 q_t21 q_t22 q_t30 q_t31 q_t32 q_l10 q_l11 q_l12
 obtain ⟨E4,hsz,f_a,f_b,f_c,f_d,f_t1,f_t2,f_t3,f_l1⟩:=HH.out
 clear HH
 refine (mlif_any mb _ (s+26) i (wayR (s+7)) w4b E4.2 (R4.mono (by omega)) ⟨by show s+9 < 256;first | exact (by omega) | omega,by show s+12 < 256;first | exact (by omega) | omega,by show s+13 < 256;first | exact (by omega) | omega⟩).mono ?_
 rintro e w5 ⟨rfl,k5⟩
 have E5:MkEnd w w5 mb (((((L++wayL s a b)++wayL (s+7) a c)++wayL (s+14) a d)++lifL (s+21) (wayR s))++lifL (s+26) (wayR (s+7))) (s+31) (i):=MkEnd.trans E4 k5
 have R5:Room (((((L++wayL s a b)++wayL (s+7) a c)++wayL (s+14) a d)++lifL (s+21) (wayR s))++lifL (s+26) (wayR (s+7))) (s+31) 19:=Room.app 5 (k:=19) R4 (Nat.le_of_eq rfl)
 replace f_a:=At3.kp f_a k5.1
 replace f_b:=At3.kp f_b k5.1
 replace f_c:=At3.kp f_c k5.1
 replace f_d:=At3.kp f_d k5.1
 replace f_t1:=At3.kp f_t1 k5.1
 replace f_t2:=At3.kp f_t2 k5.1
 replace f_t3:=At3.kp f_t3 k5.1
 replace f_l1:=At3.kp f_l1 k5.1
 replace hsz:=Nat.le_trans hsz k5.1.size
 clear k5 E4 R4
 have f_l2:AtT (w5.alloc (.cells #[rV (lifR (s+26)).x,rV (lifR (s+26)).y,rV (lifR (s+26)).w] 88)) w5.heap.size (lifR (s+26)):=heap_alloc_new w5 _
 replace E5:=E5.al (.cells #[rV (lifR (s+26)).x,rV (lifR (s+26)).y,rV (lifR (s+26)).w] 88)
 replace f_a:=At3.al f_a (.cells #[rV (lifR (s+26)).x,rV (lifR (s+26)).y,rV (lifR (s+26)).w] 88)
 replace f_b:=At3.al f_b (.cells #[rV (lifR (s+26)).x,rV (lifR (s+26)).y,rV (lifR (s+26)).w] 88)
 replace f_c:=At3.al f_c (.cells #[rV (lifR (s+26)).x,rV (lifR (s+26)).y,rV (lifR (s+26)).w] 88)
 replace f_d:=At3.al f_d (.cells #[rV (lifR (s+26)).x,rV (lifR (s+26)).y,rV (lifR (s+26)).w] 88)
 replace f_t1:=At3.al f_t1 (.cells #[rV (lifR (s+26)).x,rV (lifR (s+26)).y,rV (lifR (s+26)).w] 88)
 replace f_t2:=At3.al f_t2 (.cells #[rV (lifR (s+26)).x,rV (lifR (s+26)).y,rV (lifR (s+26)).w] 88)
 replace f_t3:=At3.al f_t3 (.cells #[rV (lifR (s+26)).x,rV (lifR (s+26)).y,rV (lifR (s+26)).w] 88)
 replace f_l1:=At3.al f_l1 (.cells #[rV (lifR (s+26)).x,rV (lifR (s+26)).y,rV (lifR (s+26)).w] 88)
 replace hsz:_≤(w5.alloc (.cells #[rV (lifR (s+26)).x,rV (lifR (s+26)).y,rV (lifR (s+26)).w] 88)).heap.size:=Nat.le_trans hsz (by simp)
 obtain ⟨q_a0,q_a1,q_a2⟩:=cells3 f_a
 obtain ⟨q_b0,q_b1,q_b2⟩:=cells3 f_b
 obtain ⟨q_c0,q_c1,q_c2⟩:=cells3 f_c
 obtain ⟨q_d0,q_d1,q_d2⟩:=cells3 f_d
 obtain ⟨q_t10,q_t11,q_t12⟩:=cells3 f_t1
 obtain ⟨q_t20,q_t21,q_t22⟩:=cells3 f_t2
 obtain ⟨q_t30,q_t31,q_t32⟩:=cells3 f_t3
 obtain ⟨q_l10,q_l11,q_l12⟩:=cells3 f_l1
 obtain ⟨q_l20,q_l21,q_l22⟩:=cells3 f_l2
 have HH:Hid _:=And.intro E5 (And.intro hsz (And.intro f_a (And.intro f_b (And.intro f_c (And.intro f_d (And.intro f_t1 (And.intro f_t2 (And.intro f_t3 (And.intro f_l1 f_l2)))))))))
 clear E5 hsz f_a f_b f_c f_d f_t1 f_t2 f_t3 f_l1 f_l2
 go_wp2_with fail
 generalize w5.alloc (.cells #[rV (lifR (s+26)).x,rV (lifR (s+26)).y,rV (lifR (s+26)).w] 88)=w5b at *
 clear q_a0 q_a1 q_a2 q_b0 q_b1 q_b2 q_c0 q_c1 q_c2 q_d0 q_d1 q_d2 q_t10 q_t11 q_t12 q_t20 q_t21 q_t22 q_t30 q_t31 q_t32 q_l10 q_l11 q_l12 q_l20 q_l21 q_l22
 obtain ⟨E5,hsz,f_a,f_b,f_c,f_d,f_t1,f_t2,f_t3,f_l1,f_l2⟩:=HH.out
 clear HH
 refine (mlif_any mb _ (s+31) i (wayR (s+14)) w5b E5.2 (R5.mono (by omega)) ⟨by show s+16 < 256;first | exact (by omega) | omega,by show s+19 < 256;first | exact (by omega) | omega,by show s+20 < 256;first | exact (by omega) | omega⟩).mono ?_
 rintro e w6 ⟨rfl,k6⟩
 have E6:MkEnd w w6 mb ((((((L++wayL s a b)++wayL (s+7) a c)++wayL (s+14) a d)++lifL (s+21) (wayR s))++lifL (s+26) (wayR (s+7)))++lifL (s+31) (wayR (s+14))) (s+36) (i):=MkEnd.trans E5 k6
 have R6:Room ((((((L++wayL s a b)++wayL (s+7) a c)++wayL (s+14) a d)++lifL (s+21) (wayR s))++lifL (s+26) (wayR (s+7)))++lifL (s+31) (wayR (s+14))) (s+36) 14:=Room.app 5 (k:=14) R5 (Nat.le_of_eq rfl)
 replace f_a:=At3.kp f_a k6.1
 replace f_b:=At3.kp f_b k6.1
 replace f_c:=At3.kp f_c k6.1
 replace f_d:=At3.kp f_d k6.1
 replace f_t1:=At3.kp f_t1 k6.1
 replace f_t2:=At3.kp f_t2 k6.1
 replace f_t3:=At3.kp f_t3 k6.1
 replace f_l1:=At3.kp f_l1 k6.1
 replace f_l2:=At3.kp f_l2 k6.1
 replace hsz:=Nat.le_trans hsz k6.1.size
 clear k6 E5 R5
 have f_l3:AtT (w6.alloc (.cells #[rV (lifR (s+31)).x,rV (lifR (s+31)).y,rV (lifR (s+31)).w] 88)) w6.heap.size (lifR (s+31)):=heap_alloc_new w6 _
 replace E6:=E6.al (.cells #[rV (lifR (s+31)).x,rV (lifR (s+31)).y,rV (lifR (s+31)).w] 88)
 replace f_a:=At3.al f_a (.cells #[rV (lifR (s+31)).x,rV (lifR (s+31)).y,rV (lifR (s+31)).w] 88)
 replace f_b:=At3.al f_b (.cells #[rV (lifR (s+31)).x,rV (lifR (s+31)).y,rV (lifR (s+31)).w] 88)
 replace f_c:=At3.al f_c (.cells #[rV (lifR (s+31)).x,rV (lifR (s+31)).y,rV (lifR (s+31)).w] 88)
 replace f_d:=At3.al f_d (.cells #[rV (lifR (s+31)).x,rV (lifR (s+31)).y,rV (lifR (s+31)).w] 88)
 replace f_t1:=At3.al f_t1 (.cells #[rV (lifR (s+31)).x,rV (lifR (s+31)).y,rV (lifR (s+31)).w] 88)
 replace f_t2:=At3.al f_t2 (.cells #[rV (lifR (s+31)).x,rV (lifR (s+31)).y,rV (lifR (s+31)).w] 88)
 replace f_t3:=At3.al f_t3 (.cells #[rV (lifR (s+31)).x,rV (lifR (s+31)).y,rV (lifR (s+31)).w] 88)
 replace f_l1:=At3.al f_l1 (.cells #[rV (lifR (s+31)).x,rV (lifR (s+31)).y,rV (lifR (s+31)).w] 88)
 replace f_l2:=At3.al f_l2 (.cells #[rV (lifR (s+31)).x,rV (lifR (s+31)).y,rV (lifR (s+31)).w] 88)
 replace hsz:_≤(w6.alloc (.cells #[rV (lifR (s+31)).x,rV (lifR (s+31)).y,rV (lifR (s+31)).w] 88)).heap.size:=Nat.le_trans hsz (by simp)
 obtain ⟨q_a0,q_a1,q_a2⟩:=cells3 f_a
 obtain ⟨q_b0,q_b1,q_b2⟩:=cells3 f_b
 obtain ⟨q_c0,q_c1,q_c2⟩:=cells3 f_c
 obtain ⟨q_d0,q_d1,q_d2⟩:=cells3 f_d
 obtain ⟨q_t10,q_t11,q_t12⟩:=cells3 f_t1
 obtain ⟨q_t20,q_t21,q_t22⟩:=cells3 f_t2
 obtain ⟨q_t30,q_t31,q_t32⟩:=cells3 f_t3
 obtain ⟨q_l10,q_l11,q_l12⟩:=cells3 f_l1
 obtain ⟨q_l20,q_l21,q_l22⟩:=cells3 f_l2
 obtain ⟨q_l30,q_l31,q_l32⟩:=cells3 f_l3
 have HH:Hid _:=And.intro E6 (And.intro hsz (And.intro f_a (And.intro f_b (And.intro f_c (And.intro f_d (And.intro f_t1 (And.intro f_t2 (And.intro f_t3 (And.intro f_l1 (And.intro f_l2 f_l3))))))))))
 clear E6 hsz f_a f_b f_c f_d f_t1 f_t2 f_t3 f_l1 f_l2 f_l3
 go_wp2_with fail
 generalize w6.alloc (.cells #[rV (lifR (s+31)).x,rV (lifR (s+31)).y,rV (lifR (s+31)).w] 88)=w6b at *
 clear q_a0 q_a1 q_a2 q_b0 q_b1 q_b2 q_c0 q_c1 q_c2 q_d0 q_d1 q_d2 q_t10 q_t11 q_t12 q_t20 q_t21 q_t22 q_t30 q_t31 q_t32 q_l10 q_l11 q_l12 q_l20 q_l21 q_l22 q_l30 q_l31 q_l32
 obtain ⟨E6,hsz,f_a,f_b,f_c,f_d,f_t1,f_t2,f_t3,f_l1,f_l2,f_l3⟩:=HH.out
 clear HH
 refine (mvol_any mb _ (s+36) i (lifR (s+21)) (lifR (s+26)) (lifR (s+31)) w6b E6.2 (R6.mono (by omega)) ⟨by show s+21 < 256;first | exact (by omega) | omega,by show s+22 < 256;first | exact (by omega) | omega,by show s+25 < 256;first | exact (by omega) | omega⟩ ⟨by show s+26 < 256;first | exact (by omega) | omega,by show s+27 < 256;first | exact (by omega) | omega,by show s+30 < 256;first | exact (by omega) | omega⟩ ⟨by show s+31 < 256;first | exact (by omega) | omega,by show s+32 < 256;first | exact (by omega) | omega,by show s+35 < 256;first | exact (by omega) | omega⟩).mono ?_
 rintro e w7 ⟨rfl,k7⟩
 have E7:MkEnd w w7 mb (((((((L++wayL s a b)++wayL (s+7) a c)++wayL (s+14) a d)++lifL (s+21) (wayR s))++lifL (s+26) (wayR (s+7)))++lifL (s+31) (wayR (s+14)))++volL (s+36) (lifR (s+21)) (lifR (s+26)) (lifR (s+31))) (s+50) (i):=MkEnd.trans E6 k7
 replace f_a:=At3.kp f_a k7.1
 replace f_b:=At3.kp f_b k7.1
 replace f_c:=At3.kp f_c k7.1
 replace f_d:=At3.kp f_d k7.1
 replace f_t1:=At3.kp f_t1 k7.1
 replace f_t2:=At3.kp f_t2 k7.1
 replace f_t3:=At3.kp f_t3 k7.1
 replace f_l1:=At3.kp f_l1 k7.1
 replace f_l2:=At3.kp f_l2 k7.1
 replace f_l3:=At3.kp f_l3 k7.1
 replace hsz:=Nat.le_trans hsz k7.1.size
 clear k7 E6 R6
 have HE:Hid _:=E7
 clear E7 f_a f_b f_c f_d f_t1 f_t2 f_t3 f_l1 f_l2 f_l3
 go_wp2_with fail
 go_ret
 have hL:(((((((L++wayL s a b)++wayL (s+7) a c)++wayL (s+14) a d)++lifL (s+21) (wayR s))++lifL (s+26) (wayR (s+7)))++lifL (s+31) (wayR (s+14)))++volL (s+36) (lifR (s+21)) (lifR (s+26)) (lifR (s+31)))=L++rndL s a b c d:=by
  simp only [List.append_assoc]
  rfl
 exact ⟨rfl,by rw [← hL];exact HE.out⟩
abbrev thV (t:Th):Value:=.agg #[rV t.a.x,rV t.a.y,rV t.a.w,rV t.b.x,rV t.b.y,rV t.b.w,rV t.c.x,rV t.c.y,rV t.c.w,rV t.d.x,rV t.d.y,rV t.d.w]
abbrev thB (t:Th):Obj:=.cells #[rV t.a.x,rV t.a.y,rV t.a.w,rV t.b.x,rV t.b.y,rV t.b.w,rV t.c.x,rV t.c.y,rV t.c.w,rV t.d.x,rV t.d.y,rV t.d.w] 90
def AtH (w:World) (k:Nat) (t:Th):Prop:=w.heap[k]?=some (thB t)
theorem AtH.md {w w':World} {k:Nat} {t:Th} (h:AtH w k t) (hk:Mod (fun _=>False) w w'):AtH w' k t:=hk.keep h (fun f=>f)
theorem AtH.kp {w w':World} {mb k:Nat} {t:Th} (h:AtH w k t) (hk:Kp mb w w'):AtH w' k t:=hk.keep h (by decide) (by decide)
theorem AtH.al {w:World} {k:Nat} {t:Th} (h:AtH w k t) (o:Obj):AtH (w.alloc o) k t:=h.md ((Mod.refl _ w).alloc o)
theorem AtH.new (w:World) (t:Th):AtH (w.alloc (thB t)) w.heap.size t:=heap_alloc_new w _
structure Cs12 (w:World) (k:Nat) (t:Th):Prop where
 c0:w.cell? ⟨k,0,none⟩=some (rV t.a.x)
 c1:w.cell? ⟨k,1,none⟩=some (rV t.a.y)
 c2:w.cell? ⟨k,2,none⟩=some (rV t.a.w)
 c3:w.cell? ⟨k,3,none⟩=some (rV t.b.x)
 c4:w.cell? ⟨k,4,none⟩=some (rV t.b.y)
 c5:w.cell? ⟨k,5,none⟩=some (rV t.b.w)
 c6:w.cell? ⟨k,6,none⟩=some (rV t.c.x)
 c7:w.cell? ⟨k,7,none⟩=some (rV t.c.y)
 c8:w.cell? ⟨k,8,none⟩=some (rV t.c.w)
 c9:w.cell? ⟨k,9,none⟩=some (rV t.d.x)
 c10:w.cell? ⟨k,10,none⟩=some (rV t.d.y)
 c11:w.cell? ⟨k,11,none⟩=some (rV t.d.w)
theorem AtH.cs {w:World} {k:Nat} {t:Th} (h:AtH w k t):Cs12 w k t:=by
 unfold AtH at h
 constructor <;> simp [World.cell?,h]
structure S12 (t:Th):Prop where
 a:S8 t.a
 b:S8 t.b
 c:S8 t.c
 d:S8 t.d
set_option maxHeartbeats 800000 in
theorem mgap_con (mb:Nat) (L:List Stp) (s i:Nat) (t:Th) (w:World) (hM:Mkr w mb L s i) (hroom:Room L s 50) (h8:S12 t) :
  Calls Tryz.prog 96 #[mP mb,S [99,111,110],thV t] w fun e w'=>e=.returned (rV (s+49))∧MkEnd w w' mb (L++rndL s t.a t.b t.c t.d) (s+50) i:=by
 have r2:=hroom.2
 have E0:MkEnd w (w.alloc (thB t)) mb L s i:=MkEnd.al (show MkEnd w w mb L s i from ⟨Kp.refl mb w,hM⟩) _
 have f_t:=AtH.new w t
 obtain ⟨c0,c1,c2,c3,c4,c5,c6,c7,c8,c9,c10,c11⟩:=f_t.cs
 have HH:Hid _:=And.intro E0 f_t
 clear E0 f_t hM
 go_enter Tryz.func96,Tryz.ntmps96
 go_wp2_with fail
 generalize w.alloc (.cells #[rV t.a.x,rV t.a.y,rV t.a.w,rV t.b.x,rV t.b.y,rV t.b.w,rV t.c.x,rV t.c.y,rV t.c.w,rV t.d.x,rV t.d.y,rV t.d.w] 90)=w0 at *
 clear c0 c1 c2 c3 c4 c5 c6 c7 c8 c9 c10 c11
 obtain ⟨E0,f_t⟩:=HH.out
 clear HH
 refine (mrnd_any mb _ s i t.a t.b t.c t.d w0 E0.2 (hroom.mono (by omega)) h8.a h8.b h8.c h8.d).mono ?_
 rintro e w1 ⟨rfl,k1⟩
 have HE:Hid _:=MkEnd.trans E0 k1
 clear k1 E0 f_t
 go_wp2_with fail
 go_ret
 exact ⟨rfl,HE.out⟩
set_option maxHeartbeats 800000 in
theorem mgap_on (mb:Nat) (L:List Stp) (s i:Nat) (t:Th) (w:World) (hM:Mkr w mb L s i) (hroom:Room L s 5) (h8:S12 t) :
  Calls Tryz.prog 96 #[mP mb,S [111,110],thV t] w fun e w'=>e=.returned (rV (s+4))∧MkEnd w w' mb (L++dotL s t.a t.b) (s+5) i:=by
 have r2:=hroom.2
 have E0:MkEnd w (w.alloc (thB t)) mb L s i:=MkEnd.al (show MkEnd w w mb L s i from ⟨Kp.refl mb w,hM⟩) _
 have f_t:=AtH.new w t
 obtain ⟨c0,c1,c2,c3,c4,c5,c6,c7,c8,c9,c10,c11⟩:=f_t.cs
 have HH:Hid _:=And.intro E0 f_t
 clear E0 f_t hM
 go_enter Tryz.func96,Tryz.ntmps96
 go_wp2_with fail
 generalize w.alloc (.cells #[rV t.a.x,rV t.a.y,rV t.a.w,rV t.b.x,rV t.b.y,rV t.b.w,rV t.c.x,rV t.c.y,rV t.c.w,rV t.d.x,rV t.d.y,rV t.d.w] 90)=w0 at *
 clear c0 c1 c2 c3 c4 c5 c6 c7 c8 c9 c10 c11
 obtain ⟨E0,f_t⟩:=HH.out
 clear HH
 refine (mdot_any mb _ s i t.a t.b w0 E0.2 (hroom.mono (by omega)) h8.a h8.b).mono ?_
 rintro e w1 ⟨rfl,k1⟩
 have HE:Hid _:=MkEnd.trans E0 k1
 clear k1 E0 f_t
 go_wp2_with fail
 go_ret
 exact ⟨rfl,HE.out⟩
set_option maxHeartbeats 800000 in
theorem mgap_pll (mb:Nat) (L:List Stp) (s i:Nat) (t:Th) (w:World) (hM:Mkr w mb L s i) (hroom:Room L s 3) (h8:S12 t) :
  Calls Tryz.prog 96 #[mP mb,S [112,108,108],thV t] w fun e w'=>e=.returned (rV (s+2))∧MkEnd w w' mb (L++prodD s t.a.x t.b.y t.a.y t.b.x) (s+3) i:=by
 have r2:=hroom.2
 have E0:MkEnd w (w.alloc (thB t)) mb L s i:=MkEnd.al (show MkEnd w w mb L s i from ⟨Kp.refl mb w,hM⟩) _
 have f_t:=AtH.new w t
 obtain ⟨c0,c1,c2,c3,c4,c5,c6,c7,c8,c9,c10,c11⟩:=f_t.cs
 have HH:Hid _:=And.intro E0 f_t
 clear E0 f_t hM
 go_enter Tryz.func96,Tryz.ntmps96
 go_wp2_with fail
 generalize w.alloc (.cells #[rV t.a.x,rV t.a.y,rV t.a.w,rV t.b.x,rV t.b.y,rV t.b.w,rV t.c.x,rV t.c.y,rV t.c.w,rV t.d.x,rV t.d.y,rV t.d.w] 90)=w0 at *
 clear c0 c1 c2 c3 c4 c5 c6 c7 c8 c9 c10 c11
 obtain ⟨E0,f_t⟩:=HH.out
 clear HH
 refine (mpD_any mb _ s i t.a.x t.b.y t.a.y t.b.x w0 E0.2 (hroom.mono (by omega)) h8.a.1 h8.b.2.1 h8.a.2.1 h8.b.1).mono ?_
 rintro e w1 ⟨rfl,k1⟩
 have HE:Hid _:=MkEnd.trans E0 k1
 clear k1 E0 f_t
 go_wp2_with fail
 go_ret
 exact ⟨rfl,HE.out⟩
set_option maxHeartbeats 800000 in
theorem mgap_prp (mb:Nat) (L:List Stp) (s i:Nat) (t:Th) (w:World) (hM:Mkr w mb L s i) (hroom:Room L s 3) (h8:S12 t) :
  Calls Tryz.prog 96 #[mP mb,S [112,114,112],thV t] w fun e w'=>e=.returned (rV (s+2))∧MkEnd w w' mb (L++prodS s t.a.x t.b.x t.a.y t.b.y) (s+3) i:=by
 have r2:=hroom.2
 have E0:MkEnd w (w.alloc (thB t)) mb L s i:=MkEnd.al (show MkEnd w w mb L s i from ⟨Kp.refl mb w,hM⟩) _
 have f_t:=AtH.new w t
 obtain ⟨c0,c1,c2,c3,c4,c5,c6,c7,c8,c9,c10,c11⟩:=f_t.cs
 have HH:Hid _:=And.intro E0 f_t
 clear E0 f_t hM
 go_enter Tryz.func96,Tryz.ntmps96
 go_wp2_with fail
 generalize w.alloc (.cells #[rV t.a.x,rV t.a.y,rV t.a.w,rV t.b.x,rV t.b.y,rV t.b.w,rV t.c.x,rV t.c.y,rV t.c.w,rV t.d.x,rV t.d.y,rV t.d.w] 90)=w0 at *
 clear c0 c1 c2 c3 c4 c5 c6 c7 c8 c9 c10 c11
 obtain ⟨E0,f_t⟩:=HH.out
 clear HH
 refine (mpS_any mb _ s i t.a.x t.b.x t.a.y t.b.y w0 E0.2 (hroom.mono (by omega)) h8.a.1 h8.b.1 h8.a.2.1 h8.b.2.1).mono ?_
 rintro e w1 ⟨rfl,k1⟩
 have HE:Hid _:=MkEnd.trans E0 k1
 clear k1 E0 f_t
 go_wp2_with fail
 go_ret
 exact ⟨rfl,HE.out⟩
set_option maxHeartbeats 800000 in
theorem mgap_col (mb:Nat) (L:List Stp) (s i:Nat) (t:Th) (w:World) (hM:Mkr w mb L s i) (hroom:Room L s 14) (h8:S12 t) :
  Calls Tryz.prog 96 #[mP mb,S [99,111,108],thV t] w fun e w'=>e=.returned (rV (s+13))∧MkEnd w w' mb (L++volL s t.a t.b t.c) (s+14) i:=by
 have r2:=hroom.2
 have E0:MkEnd w (w.alloc (thB t)) mb L s i:=MkEnd.al (show MkEnd w w mb L s i from ⟨Kp.refl mb w,hM⟩) _
 have f_t:=AtH.new w t
 obtain ⟨c0,c1,c2,c3,c4,c5,c6,c7,c8,c9,c10,c11⟩:=f_t.cs
 have HH:Hid _:=And.intro E0 f_t
 clear E0 f_t hM
 go_enter Tryz.func96,Tryz.ntmps96
 go_wp2_with fail
 generalize w.alloc (.cells #[rV t.a.x,rV t.a.y,rV t.a.w,rV t.b.x,rV t.b.y,rV t.b.w,rV t.c.x,rV t.c.y,rV t.c.w,rV t.d.x,rV t.d.y,rV t.d.w] 90)=w0 at *
 clear c0 c1 c2 c3 c4 c5 c6 c7 c8 c9 c10 c11
 obtain ⟨E0,f_t⟩:=HH.out
 clear HH
 refine (mvol_any mb _ s i t.a t.b t.c w0 E0.2 (hroom.mono (by omega)) h8.a h8.b h8.c).mono ?_
 rintro e w1 ⟨rfl,k1⟩
 have HE:Hid _:=MkEnd.trans E0 k1
 clear k1 E0 f_t
 go_wp2_with fail
 go_ret
 exact ⟨rfl,HE.out⟩
set_option maxHeartbeats 800000 in
theorem mgap_cc (mb:Nat) (L:List Stp) (s i:Nat) (t:Th) (w:World) (hM:Mkr w mb L s i) (hroom:Room L s 14) (h8:S12 t) :
  Calls Tryz.prog 96 #[mP mb,S [99,99],thV t] w fun e w'=>e=.returned (rV (s+13))∧MkEnd w w' mb (L++volL s t.a t.b t.c) (s+14) i:=by
 have r2:=hroom.2
 have E0:MkEnd w (w.alloc (thB t)) mb L s i:=MkEnd.al (show MkEnd w w mb L s i from ⟨Kp.refl mb w,hM⟩) _
 have f_t:=AtH.new w t
 obtain ⟨c0,c1,c2,c3,c4,c5,c6,c7,c8,c9,c10,c11⟩:=f_t.cs
 have HH:Hid _:=And.intro E0 f_t
 clear E0 f_t hM
 go_enter Tryz.func96,Tryz.ntmps96
 go_wp2_with fail
 generalize w.alloc (.cells #[rV t.a.x,rV t.a.y,rV t.a.w,rV t.b.x,rV t.b.y,rV t.b.w,rV t.c.x,rV t.c.y,rV t.c.w,rV t.d.x,rV t.d.y,rV t.d.w] 90)=w0 at *
 clear c0 c1 c2 c3 c4 c5 c6 c7 c8 c9 c10 c11
 obtain ⟨E0,f_t⟩:=HH.out
 clear HH
 refine (mvol_any mb _ s i t.a t.b t.c w0 E0.2 (hroom.mono (by omega)) h8.a h8.b h8.c).mono ?_
 rintro e w1 ⟨rfl,k1⟩
 have HE:Hid _:=MkEnd.trans E0 k1
 clear k1 E0 f_t
 go_wp2_with fail
 go_ret
 exact ⟨rfl,HE.out⟩
set_option maxHeartbeats 800000 in
theorem mgap_same (mb:Nat) (L:List Stp) (s i:Nat) (t:Th) (w:World) (hM:Mkr w mb L s i) (hroom:Room L s 10) (h8:S12 t) :
  Calls Tryz.prog 96 #[mP mb,S [115,97,109,101],thV t] w fun e w'=>e=.returned (rV (s+9))∧MkEnd w w' mb (L++samL s t.a t.b) (s+10) i:=by
 have r2:=hroom.2
 have E0:MkEnd w (w.alloc (thB t)) mb L s i:=MkEnd.al (show MkEnd w w mb L s i from ⟨Kp.refl mb w,hM⟩) _
 have f_t:=AtH.new w t
 obtain ⟨c0,c1,c2,c3,c4,c5,c6,c7,c8,c9,c10,c11⟩:=f_t.cs
 have HH:Hid _:=And.intro E0 f_t
 clear E0 f_t hM
 go_enter Tryz.func96,Tryz.ntmps96
 go_wp2_with fail
 generalize w.alloc (.cells #[rV t.a.x,rV t.a.y,rV t.a.w,rV t.b.x,rV t.b.y,rV t.b.w,rV t.c.x,rV t.c.y,rV t.c.w,rV t.d.x,rV t.d.y,rV t.d.w] 90)=w0 at *
 clear c0 c1 c2 c3 c4 c5 c6 c7 c8 c9 c10 c11
 obtain ⟨E0,f_t⟩:=HH.out
 clear HH
 refine (mway_any mb _ s i t.a t.b w0 E0.2 (hroom.mono (by omega)) h8.a h8.b).mono ?_
 rintro e w1 ⟨rfl,k1⟩
 have E1:=MkEnd.trans E0 k1
 have R1:Room (L++wayL s t.a t.b) (s+7) 3:=Room.app 7 (k:=3) hroom (Nat.le_of_eq rfl)
 have f_v:AtT (w1.alloc (.cells #[rV (wayR s).x,rV (wayR s).y,rV (wayR s).w] 88)) w1.heap.size (wayR s):=heap_alloc_new w1 _
 replace E1:=MkEnd.al E1 (.cells #[rV (wayR s).x,rV (wayR s).y,rV (wayR s).w] 88)
 obtain ⟨q0,q1,q2⟩:=cells3 f_v
 have HH:Hid _:=E1
 clear k1 E0 E1 f_t f_v hroom
 go_wp2_with fail
 generalize w1.alloc (.cells #[rV (wayR s).x,rV (wayR s).y,rV (wayR s).w] 88)=w1b at *
 have E1:=HH.out
 clear HH q0 q1 q2
 refine (mpS_any mb _ (s+7) i (wayR s).x (wayR s).x (wayR s).y (wayR s).y w1b E1.2 R1 (by show s+2 < 256;omega) (by show s+2 < 256;omega) (by show s+5 < 256;omega) (by show s+5 < 256;omega)).mono ?_
 rintro e w2 ⟨rfl,k2⟩
 have HE:Hid _:=MkEnd.trans E1 k2
 clear k2 E1
 go_wp2_with fail
 go_ret
 have hL:(L++wayL s t.a t.b)++prodS (s+7) (wayR s).x (wayR s).x (wayR s).y (wayR s).y=L++samL s t.a t.b:=by
  simp only [List.append_assoc]
  rfl
 exact ⟨rfl,by rw [← hL];exact HE.out⟩
set_option maxHeartbeats 800000 in
theorem mask_ccw (mb:Nat) (L:List Stp) (s i:Nat) (t:Th) (w:World) (hM:Mkr w mb L s i) (hroom:Room L s 14) (h8:S12 t) :
  Calls Tryz.prog 58 #[mP mb,S [99,99,119],thV t] w fun e w'=>e=.returned (rV (s+13))∧MkEnd w w' mb (L++volL s t.a t.b t.c) (s+14) i:=by
 have r2:=hroom.2
 have E0:MkEnd w (w.alloc (thB t)) mb L s i:=MkEnd.al (show MkEnd w w mb L s i from ⟨Kp.refl mb w,hM⟩) _
 have f_t:=AtH.new w t
 obtain ⟨c0,c1,c2,c3,c4,c5,c6,c7,c8,c9,c10,c11⟩:=f_t.cs
 have HH:Hid _:=And.intro E0 f_t
 clear E0 f_t hM
 go_enter Tryz.func58,Tryz.ntmps58
 go_wp2_with fail
 generalize w.alloc (.cells #[rV t.a.x,rV t.a.y,rV t.a.w,rV t.b.x,rV t.b.y,rV t.b.w,rV t.c.x,rV t.c.y,rV t.c.w,rV t.d.x,rV t.d.y,rV t.d.w] 90)=w0 at *
 clear c0 c1 c2 c3 c4 c5 c6 c7 c8 c9 c10 c11
 obtain ⟨E0,f_t⟩:=HH.out
 clear HH
 refine (mvol_any mb _ s i t.a t.b t.c w0 E0.2 (hroom.mono (by omega)) h8.a h8.b h8.c).mono ?_
 rintro e w1 ⟨rfl,k1⟩
 have HE:Hid _:=MkEnd.trans E0 k1
 clear k1 E0 f_t
 go_wp2_with fail
 go_ret
 exact ⟨rfl,HE.out⟩
set_option maxHeartbeats 800000 in
theorem mask_btw (mb:Nat) (L:List Stp) (s i:Nat) (t:Th) (w:World) (hM:Mkr w mb L s i) (hroom:Room L s 38) (h8:S12 t) :
  Calls Tryz.prog 58 #[mP mb,S [98,116,119],thV t] w fun e w'=>e=.returned (rV (s+37))∧MkEnd w w' mb (L++btwL s t.a t.b t.c) (s+38) i:=by
 have r2:=hroom.2
 have E0:MkEnd w (w.alloc (thB t)) mb L s i:=MkEnd.al (show MkEnd w w mb L s i from ⟨Kp.refl mb w,hM⟩) _
 have f_t:=AtH.new w t
 obtain ⟨c0,c1,c2,c3,c4,c5,c6,c7,c8,c9,c10,c11⟩:=f_t.cs
 have HH:Hid _:=And.intro E0 f_t
 clear E0 f_t hM
 go_enter Tryz.func58,Tryz.ntmps58
 go_wp2_with fail
 generalize w.alloc (.cells #[rV t.a.x,rV t.a.y,rV t.a.w,rV t.b.x,rV t.b.y,rV t.b.w,rV t.c.x,rV t.c.y,rV t.c.w,rV t.d.x,rV t.d.y,rV t.d.w] 90)=w0 at *
 clear c0 c1 c2 c3 c4 c5 c6 c7 c8 c9 c10 c11
 obtain ⟨E0,f_t⟩:=HH.out
 clear HH
 refine (mbtw_any mb _ s i t.a t.b t.c w0 E0.2 (hroom.mono (by omega)) h8.a h8.b h8.c).mono ?_
 rintro e w1 ⟨rfl,k1⟩
 have HE:Hid _:=MkEnd.trans E0 k1
 clear k1 E0 f_t
 go_wp2_with fail
 go_ret
 exact ⟨rfl,HE.out⟩
set_option maxHeartbeats 800000 in
theorem mask_w (wd:List UInt8) (K:List Stp) (n r:Nat) (mb:Nat) (L:List Stp) (s i:Nat) (t:Th) (w:World) (hM:Mkr w mb L s i) (hroom:Room L s (n+4)) (h1:(wd == [99,99,119])=false) (h2:(wd == [98,116,119])=false) (hr:r < n) (hn:K.length≤n) (hf:∀ W,Mkr W mb L s i→Calls Tryz.prog 96 #[mP mb,S wd,thV t] W fun e w'=>e=.returned (rV (s+r))∧MkEnd W w' mb (L++K) (s+n) i) :
  Calls Tryz.prog 58 #[mP mb,S wd,thV t] w fun e w'=>e=.returned (rV (s+n+3))∧MkEnd w w' mb (L++(K++isnL (s+n) (s+r))) (s+n+4) i:=by
 have r2:=hroom.2
 have E0:MkEnd w (w.alloc (thB t)) mb L s i:=MkEnd.al (show MkEnd w w mb L s i from ⟨Kp.refl mb w,hM⟩) _
 have f_t:=AtH.new w t
 obtain ⟨c0,c1,c2,c3,c4,c5,c6,c7,c8,c9,c10,c11⟩:=f_t.cs
 have HH:Hid _:=And.intro E0 f_t
 clear E0 f_t hM
 go_enter Tryz.func58,Tryz.ntmps58
 go_wp2_with fail
 generalize w.alloc (.cells #[rV t.a.x,rV t.a.y,rV t.a.w,rV t.b.x,rV t.b.y,rV t.b.w,rV t.c.x,rV t.c.y,rV t.c.w,rV t.d.x,rV t.d.y,rV t.d.w] 90)=w0 at *
 clear c0 c1 c2 c3 c4 c5 c6 c7 c8 c9 c10 c11
 obtain ⟨E0,f_t⟩:=HH.out
 clear HH
 refine (hf _ E0.2).mono ?_
 rintro e w1 ⟨rfl,k1⟩
 have E1:=MkEnd.trans E0 k1
 have R1:Room (L++K) (s+n) 4:=Room.app n (k:=4) hroom hn
 have HH:Hid _:=E1
 clear k1 E0 E1 f_t hroom
 go_wp2_with fail
 have E1:=HH.out
 clear HH
 refine (misn_any mb _ (s+n) i (s+r) w1 E1.2 R1 (by omega)).mono ?_
 rintro e w2 ⟨rfl,k2⟩
 have HE:Hid _:=MkEnd.trans E1 k2
 clear k2 E1
 go_wp2_with fail
 go_ret
 have hL:(L++K)++isnL (s+n) (s+r)=L++(K++isnL (s+n) (s+r)):=List.append_assoc _ _ _
 exact ⟨rfl,by rw [← hL];exact HE.out⟩
theorem mask_same (mb:Nat) (L:List Stp) (s i:Nat) (t:Th) (w:World) (hM:Mkr w mb L s i) (hroom:Room L s 14) (h8:S12 t):Calls Tryz.prog 58 #[mP mb,S [115,97,109,101],thV t] w fun e w'=>e=.returned (rV (s+13))∧MkEnd w w' mb (L++(samL s t.a t.b++isnL (s+10) (s+9))) (s+14) i:=mask_w _ _ 10 9 mb L s i t w hM hroom rfl rfl (by decide) (Nat.le_of_eq rfl) (fun W h=>mgap_same mb L s i t W h (hroom.mono (by omega)) h8)
theorem mask_con (mb:Nat) (L:List Stp) (s i:Nat) (t:Th) (w:World) (hM:Mkr w mb L s i) (hroom:Room L s 54) (h8:S12 t):Calls Tryz.prog 58 #[mP mb,S [99,111,110],thV t] w fun e w'=>e=.returned (rV (s+53))∧MkEnd w w' mb (L++(rndL s t.a t.b t.c t.d++isnL (s+50) (s+49))) (s+54) i:=mask_w _ _ 50 49 mb L s i t w hM hroom rfl rfl (by decide) (Nat.le_of_eq rfl) (fun W h=>mgap_con mb L s i t W h (hroom.mono (by omega)) h8)
theorem mask_on (mb:Nat) (L:List Stp) (s i:Nat) (t:Th) (w:World) (hM:Mkr w mb L s i) (hroom:Room L s 9) (h8:S12 t):Calls Tryz.prog 58 #[mP mb,S [111,110],thV t] w fun e w'=>e=.returned (rV (s+8))∧MkEnd w w' mb (L++(dotL s t.a t.b++isnL (s+5) (s+4))) (s+9) i:=mask_w _ _ 5 4 mb L s i t w hM hroom rfl rfl (by decide) (Nat.le_of_eq rfl) (fun W h=>mgap_on mb L s i t W h (hroom.mono (by omega)) h8)
theorem mask_pll (mb:Nat) (L:List Stp) (s i:Nat) (t:Th) (w:World) (hM:Mkr w mb L s i) (hroom:Room L s 7) (h8:S12 t):Calls Tryz.prog 58 #[mP mb,S [112,108,108],thV t] w fun e w'=>e=.returned (rV (s+6))∧MkEnd w w' mb (L++(prodD s t.a.x t.b.y t.a.y t.b.x++isnL (s+3) (s+2))) (s+7) i:=mask_w _ _ 3 2 mb L s i t w hM hroom rfl rfl (by decide) (Nat.le_of_eq rfl) (fun W h=>mgap_pll mb L s i t W h (hroom.mono (by omega)) h8)
theorem mask_prp (mb:Nat) (L:List Stp) (s i:Nat) (t:Th) (w:World) (hM:Mkr w mb L s i) (hroom:Room L s 7) (h8:S12 t):Calls Tryz.prog 58 #[mP mb,S [112,114,112],thV t] w fun e w'=>e=.returned (rV (s+6))∧MkEnd w w' mb (L++(prodS s t.a.x t.b.x t.a.y t.b.y++isnL (s+3) (s+2))) (s+7) i:=mask_w _ _ 3 2 mb L s i t w hM hroom rfl rfl (by decide) (Nat.le_of_eq rfl) (fun W h=>mgap_prp mb L s i t W h (hroom.mono (by omega)) h8)
theorem mask_col (mb:Nat) (L:List Stp) (s i:Nat) (t:Th) (w:World) (hM:Mkr w mb L s i) (hroom:Room L s 18) (h8:S12 t):Calls Tryz.prog 58 #[mP mb,S [99,111,108],thV t] w fun e w'=>e=.returned (rV (s+17))∧MkEnd w w' mb (L++(volL s t.a t.b t.c++isnL (s+14) (s+13))) (s+18) i:=mask_w _ _ 14 13 mb L s i t w hM hroom rfl rfl (by decide) (Nat.le_of_eq rfl) (fun W h=>mgap_col mb L s i t W h (hroom.mono (by omega)) h8)
theorem mask_cc (mb:Nat) (L:List Stp) (s i:Nat) (t:Th) (w:World) (hM:Mkr w mb L s i) (hroom:Room L s 18) (h8:S12 t):Calls Tryz.prog 58 #[mP mb,S [99,99],thV t] w fun e w'=>e=.returned (rV (s+17))∧MkEnd w w' mb (L++(volL s t.a t.b t.c++isnL (s+14) (s+13))) (s+18) i:=mask_w _ _ 14 13 mb L s i t w hM hroom rfl rfl (by decide) (Nat.le_of_eq rfl) (fun W h=>mgap_cc mb L s i t W h (hroom.mono (by omega)) h8)
end Go.Proofs.YtmnfndpbblpjiaaGreatDoor

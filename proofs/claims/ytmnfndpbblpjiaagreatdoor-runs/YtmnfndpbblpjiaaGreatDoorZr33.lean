/- The maker: ways, lifted points, uprights. -/
import Derived.Test.YtmnfndpbblpjiaaGreatDoorZr32
namespace Go.Proofs.YtmnfndpbblpjiaaGreatDoor
open Go.RowKit Pu
set_option maxHeartbeats 1600000 in
theorem mway_any (mb:Nat) (L:List Stp) (s i:Nat) (f t:Tr) (w:World) (hM:Mkr w mb L s i) (hroom:Room L s 7) (h_f:S8 f) (h_t:S8 t) :
  Calls Tryz.prog 148 #[mP mb,trV f,trV t] w fun e w'=>e=.returned (trV (wayR s))∧MkEnd w w' mb (L++wayL s f t) (s+7) (i+0):=by
 obtain ⟨h_fx,h_fy,h_fw⟩:=h_f
 obtain ⟨h_tx,h_ty,h_tw⟩:=h_t
 have r2:=hroom.2
 have E0:MkEnd w (((((w.alloc (trO f))).alloc (trO t))).alloc (trZ)) mb L s i:=(MkEnd.al (MkEnd.al (MkEnd.al (show MkEnd w w mb L s i from ⟨Kp.refl mb w,hM⟩) _) _) _)
 have f_f:AtT (((((w.alloc (trO f))).alloc (trO t))).alloc (trZ)) (w.heap.size) f:=by
  have h:=heap_alloc_new w (trO f)
  exact (At3.al (At3.al h _) _)
 have f_t:AtT (((((w.alloc (trO f))).alloc (trO t))).alloc (trZ)) (w.heap.size+1) t:=by
  have h:=heap_alloc_new (w.alloc (trO f)) (trO t)
  simp only [sz_al] at h
  exact (At3.al h _)
 have f_RES:At3 (((((w.alloc (trO f))).alloc (trO t))).alloc (trZ)) (w.heap.size+1+1) (.int .u8 0) (.int .u8 0) (.int .u8 0):=by
  have h:=heap_alloc_new (((w.alloc (trO f))).alloc (trO t)) (trZ)
  simp only [sz_al] at h
  exact h
 have hsz:w.heap.size+3≤((((((w.alloc (trO f))).alloc (trO t))).alloc (trZ))).heap.size:=by simp only [sz_al];omega
 go_enter Tryz.func148,Tryz.ntmps148
 go_wp2_with fail
 generalize (((w.alloc (.cells #[rV f.x,rV f.y,rV f.w] 88)).alloc (.cells #[rV t.x,rV t.y,rV t.w] 88)).alloc (.cells #[.int .u8 0,.int .u8 0,.int .u8 0] 88))=w0 at *
 refine (mpD_any mb _ s i t.x f.w f.x t.w w0 E0.2 (hroom.mono (by omega)) h_tx h_fw h_fx h_tw).mono ?_
 rintro e w1 ⟨he,k1⟩
 obtain ⟨v_x,hv⟩:∃ x:Nat,x=s+2:=⟨_,rfl⟩
 have b_x:v_x < 256:=by omega
 have he2:e=.returned (rV v_x):=by rw [hv];exact he
 have Hv_x:Hid (v_x=s+2):=hv
 clear he hv
 subst he2
 have E1:MkEnd w w1 mb (L++prodD s t.x f.w f.x t.w) (s+3) (i):=MkEnd.trans E0 k1
 have R1:Room (L++prodD s t.x f.w f.x t.w) (s+3) 4:=Room.app 3 (k:=4) hroom (Nat.le_of_eq rfl)
 replace f_f:=At3.kp f_f k1.1
 replace f_t:=At3.kp f_t k1.1
 replace f_RES:=At3.kp f_RES k1.1
 replace hsz:=Nat.le_trans hsz k1.1.size
 clear k1 E0 hroom
 obtain ⟨q_f0,q_f1,q_f2⟩:=cells3 f_f
 obtain ⟨q_t0,q_t1,q_t2⟩:=cells3 f_t
 have HH:Hid _:=And.intro E1 (And.intro hsz (And.intro f_f (And.intro f_t f_RES)))
 clear E1 hsz f_f f_t f_RES
 go_wp2_with fail
 clear q_f0 q_f1 q_f2 q_t0 q_t1 q_t2
 obtain ⟨E1,hsz,f_f,f_t,f_RES⟩:=HH.out
 clear HH
 refine (mpD_any mb _ (s+3) i t.y f.w f.y t.w w1 E1.2 (R1.mono (by omega)) h_ty h_fw h_fy h_tw).mono ?_
 rintro e w2 ⟨he,k2⟩
 obtain ⟨v_y,hv⟩:∃ x:Nat,x=s+3+2:=⟨_,rfl⟩
 have b_y:v_y < 256:=by omega
 have he2:e=.returned (rV v_y):=by rw [hv];exact he
 have Hv_y:Hid (v_y=s+3+2):=hv
 clear he hv
 subst he2
 have E2:MkEnd w w2 mb ((L++prodD s t.x f.w f.x t.w)++prodD (s+3) t.y f.w f.y t.w) (s+6) (i):=MkEnd.trans E1 k2
 have R2:Room ((L++prodD s t.x f.w f.x t.w)++prodD (s+3) t.y f.w f.y t.w) (s+6) 1:=Room.app 3 (k:=1) R1 (Nat.le_of_eq rfl)
 replace f_f:=At3.kp f_f k2.1
 replace f_t:=At3.kp f_t k2.1
 replace f_RES:=At3.kp f_RES k2.1
 replace hsz:=Nat.le_trans hsz k2.1.size
 clear k2 E1 R1
 obtain ⟨q_f0,q_f1,q_f2⟩:=cells3 f_f
 obtain ⟨q_t0,q_t1,q_t2⟩:=cells3 f_t
 have HH:Hid _:=And.intro E2 (And.intro hsz (And.intro f_f (And.intro f_t f_RES)))
 clear E2 hsz f_f f_t f_RES
 go_wp2_with fail
 clear q_f0 q_f1 q_f2 q_t0 q_t1 q_t2
 obtain ⟨E2,hsz,f_f,f_t,f_RES⟩:=HH.out
 clear HH
 refine (mpro_any mb _ (s+6) i f.w t.w w2 E2.2 (R2.mono (by omega)) h_fw h_tw).mono ?_
 rintro e w3 ⟨he,k3⟩
 obtain ⟨v_w,hv⟩:∃ x:Nat,x=s+6:=⟨_,rfl⟩
 have b_w:v_w < 256:=by omega
 have he2:e=.returned (rV v_w):=by rw [hv];exact he
 have Hv_w:Hid (v_w=s+6):=hv
 clear he hv
 subst he2
 have E3:MkEnd w w3 mb (((L++prodD s t.x f.w f.x t.w)++prodD (s+3) t.y f.w f.y t.w)++[⟨4,s+6,f.w,t.w⟩]) (s+7) (i):=MkEnd.trans E2 k3
 replace f_f:=At3.kp f_f k3.1
 replace f_t:=At3.kp f_t k3.1
 replace f_RES:=At3.kp f_RES k3.1
 replace hsz:=Nat.le_trans hsz k3.1.size
 clear k3 E2 R2
 have z0:=fz3 f_RES 0
 have z1:=fz3 f_RES 1
 have z2:=fz3 f_RES 2
 obtain ⟨y0,y1,y2⟩:=cells3 f_RES
 have HC:Hid _:=cells3 (set3_at (x':=rV (v_x)) (y':=rV (v_y)) (z':=rV (v_w)) f_RES)
 have HE:Hid _:=E3.st (x':=rV (v_x)) (y':=rV (v_y)) (z':=rV (v_w)) f_RES (by omega)
 have hlt:=lt_of_block f_RES
 clear E3 f_f f_t f_RES
 go_wp2_with fail
 obtain ⟨g0,g1,g2⟩:=HC.out
 unfold set3 at g0 g1 g2
 have hL:(((L++prodD s t.x f.w f.x t.w)++prodD (s+3) t.y f.w f.y t.w)++[⟨4,s+6,f.w,t.w⟩])=L++wayL s f t:=by
  have e_x:=Hv_x.out
  have e_y:=Hv_y.out
  have e_w:=Hv_w.out
  subst e_x e_y e_w
  simp only [List.append_assoc]
  rfl
 have hR:(.agg #[rV (v_x),rV (v_y),rV (v_w)]:Value)=trV (wayR s):=by rw [Hv_x.out,Hv_y.out,Hv_w.out];rfl
 exact bodyPost_ret (v:=.agg #[rV (v_x),rV (v_y),rV (v_w)]) (by simp [results,Tryz.results148,go_sem,g0,g1,g2]) rfl ⟨by rw [hR],by rw [← hL];exact HE.out⟩
set_option maxHeartbeats 1600000 in
theorem mlif_any (mb:Nat) (L:List Stp) (s i:Nat) (p:Tr) (w:World) (hM:Mkr w mb L s i) (hroom:Room L s 5) (h_p:S8 p) :
  Calls Tryz.prog 179 #[mP mb,trV p] w fun e w'=>e=.returned (trV (lifR s))∧MkEnd w w' mb (L++lifL s p) (s+5) (i+0):=by
 obtain ⟨h_px,h_py,h_pw⟩:=h_p
 have r2:=hroom.2
 have E0:MkEnd w (((w.alloc (trO p))).alloc (trZ)) mb L s i:=(MkEnd.al (MkEnd.al (show MkEnd w w mb L s i from ⟨Kp.refl mb w,hM⟩) _) _)
 have f_p:AtT (((w.alloc (trO p))).alloc (trZ)) (w.heap.size) p:=by
  have h:=heap_alloc_new w (trO p)
  exact (At3.al h _)
 have f_RES:At3 (((w.alloc (trO p))).alloc (trZ)) (w.heap.size+1) (.int .u8 0) (.int .u8 0) (.int .u8 0):=by
  have h:=heap_alloc_new (w.alloc (trO p)) (trZ)
  simp only [sz_al] at h
  exact h
 have hsz:w.heap.size+2≤((((w.alloc (trO p))).alloc (trZ))).heap.size:=by simp only [sz_al];omega
 go_enter Tryz.func179,Tryz.ntmps179
 go_wp2_with fail
 generalize ((w.alloc (.cells #[rV p.x,rV p.y,rV p.w] 88)).alloc (.cells #[.int .u8 0,.int .u8 0,.int .u8 0] 88))=w0 at *
 refine (mpro_any mb _ s i p.x p.w w0 E0.2 (hroom.mono (by omega)) h_px h_pw).mono ?_
 rintro e w1 ⟨he,k1⟩
 obtain ⟨v_x,hv⟩:∃ x:Nat,x=s:=⟨_,rfl⟩
 have b_x:v_x < 256:=by omega
 have he2:e=.returned (rV v_x):=by rw [hv];exact he
 have Hv_x:Hid (v_x=s):=hv
 clear he hv
 subst he2
 have E1:MkEnd w w1 mb (L++[⟨4,s,p.x,p.w⟩]) (s+1) (i):=MkEnd.trans E0 k1
 have R1:Room (L++[⟨4,s,p.x,p.w⟩]) (s+1) 4:=Room.app 1 (k:=4) hroom (Nat.le_of_eq rfl)
 replace f_p:=At3.kp f_p k1.1
 replace f_RES:=At3.kp f_RES k1.1
 replace hsz:=Nat.le_trans hsz k1.1.size
 clear k1 E0 hroom
 obtain ⟨q_p0,q_p1,q_p2⟩:=cells3 f_p
 have HH:Hid _:=And.intro E1 (And.intro hsz (And.intro f_p f_RES))
 clear E1 hsz f_p f_RES
 go_wp2_with fail
 clear q_p0 q_p1 q_p2
 obtain ⟨E1,hsz,f_p,f_RES⟩:=HH.out
 clear HH
 refine (mpro_any mb _ (s+1) i p.y p.w w1 E1.2 (R1.mono (by omega)) h_py h_pw).mono ?_
 rintro e w2 ⟨he,k2⟩
 obtain ⟨v_y,hv⟩:∃ x:Nat,x=s+1:=⟨_,rfl⟩
 have b_y:v_y < 256:=by omega
 have he2:e=.returned (rV v_y):=by rw [hv];exact he
 have Hv_y:Hid (v_y=s+1):=hv
 clear he hv
 subst he2
 have E2:MkEnd w w2 mb ((L++[⟨4,s,p.x,p.w⟩])++[⟨4,s+1,p.y,p.w⟩]) (s+2) (i):=MkEnd.trans E1 k2
 have R2:Room ((L++[⟨4,s,p.x,p.w⟩])++[⟨4,s+1,p.y,p.w⟩]) (s+2) 3:=Room.app 1 (k:=3) R1 (Nat.le_of_eq rfl)
 replace f_p:=At3.kp f_p k2.1
 replace f_RES:=At3.kp f_RES k2.1
 replace hsz:=Nat.le_trans hsz k2.1.size
 clear k2 E1 R1
 obtain ⟨q_p0,q_p1,q_p2⟩:=cells3 f_p
 have HH:Hid _:=And.intro E2 (And.intro hsz (And.intro f_p f_RES))
 clear E2 hsz f_p f_RES
 go_wp2_with fail
 clear q_p0 q_p1 q_p2
 obtain ⟨E2,hsz,f_p,f_RES⟩:=HH.out
 clear HH
 refine (mpS_any mb _ (s+2) i p.x p.x p.y p.y w2 E2.2 (R2.mono (by omega)) h_px h_px h_py h_py).mono ?_
 rintro e w3 ⟨he,k3⟩
 obtain ⟨v_w,hv⟩:∃ x:Nat,x=s+2+2:=⟨_,rfl⟩
 have b_w:v_w < 256:=by omega
 have he2:e=.returned (rV v_w):=by rw [hv];exact he
 have Hv_w:Hid (v_w=s+2+2):=hv
 clear he hv
 subst he2
 have E3:MkEnd w w3 mb (((L++[⟨4,s,p.x,p.w⟩])++[⟨4,s+1,p.y,p.w⟩])++prodS (s+2) p.x p.x p.y p.y) (s+5) (i):=MkEnd.trans E2 k3
 replace f_p:=At3.kp f_p k3.1
 replace f_RES:=At3.kp f_RES k3.1
 replace hsz:=Nat.le_trans hsz k3.1.size
 clear k3 E2 R2
 have z0:=fz3 f_RES 0
 have z1:=fz3 f_RES 1
 have z2:=fz3 f_RES 2
 obtain ⟨y0,y1,y2⟩:=cells3 f_RES
 have HC:Hid _:=cells3 (set3_at (x':=rV (v_x)) (y':=rV (v_y)) (z':=rV (v_w)) f_RES)
 have HE:Hid _:=E3.st (x':=rV (v_x)) (y':=rV (v_y)) (z':=rV (v_w)) f_RES (by omega)
 have hlt:=lt_of_block f_RES
 clear E3 f_p f_RES
 go_wp2_with fail
 obtain ⟨g0,g1,g2⟩:=HC.out
 unfold set3 at g0 g1 g2
 have hL:(((L++[⟨4,s,p.x,p.w⟩])++[⟨4,s+1,p.y,p.w⟩])++prodS (s+2) p.x p.x p.y p.y)=L++lifL s p:=by
  have e_x:=Hv_x.out
  have e_y:=Hv_y.out
  have e_w:=Hv_w.out
  subst e_x e_y e_w
  simp only [List.append_assoc]
  rfl
 have hR:(.agg #[rV (v_x),rV (v_y),rV (v_w)]:Value)=trV (lifR s):=by rw [Hv_x.out,Hv_y.out,Hv_w.out];rfl
 exact bodyPost_ret (v:=.agg #[rV (v_x),rV (v_y),rV (v_w)]) (by simp [results,Tryz.results179,go_sem,g0,g1,g2]) rfl ⟨by rw [hR],by rw [← hL];exact HE.out⟩
set_option maxHeartbeats 1600000 in
theorem mupr_any (mb:Nat) (L:List Stp) (s i:Nat) (p l:Tr) (w:World) (hM:Mkr w mb L s i) (hroom:Room L s 9) (h_p:S8 p) (h_l:S8 l) :
  Calls Tryz.prog 101 #[mP mb,trV p,trV l] w fun e w'=>e=.returned (trV (uprR s))∧MkEnd w w' mb (L++uprL s p l) (s+9) (i+0):=by
 obtain ⟨h_px,h_py,h_pw⟩:=h_p
 obtain ⟨h_lx,h_ly,h_lw⟩:=h_l
 have r2:=hroom.2
 have E0:MkEnd w (((((w.alloc (trO p))).alloc (trO l))).alloc (trZ)) mb L s i:=(MkEnd.al (MkEnd.al (MkEnd.al (show MkEnd w w mb L s i from ⟨Kp.refl mb w,hM⟩) _) _) _)
 have f_p:AtT (((((w.alloc (trO p))).alloc (trO l))).alloc (trZ)) (w.heap.size) p:=by
  have h:=heap_alloc_new w (trO p)
  exact (At3.al (At3.al h _) _)
 have f_l:AtT (((((w.alloc (trO p))).alloc (trO l))).alloc (trZ)) (w.heap.size+1) l:=by
  have h:=heap_alloc_new (w.alloc (trO p)) (trO l)
  simp only [sz_al] at h
  exact (At3.al h _)
 have f_RES:At3 (((((w.alloc (trO p))).alloc (trO l))).alloc (trZ)) (w.heap.size+1+1) (.int .u8 0) (.int .u8 0) (.int .u8 0):=by
  have h:=heap_alloc_new (((w.alloc (trO p))).alloc (trO l)) (trZ)
  simp only [sz_al] at h
  exact h
 have hsz:w.heap.size+3≤((((((w.alloc (trO p))).alloc (trO l))).alloc (trZ))).heap.size:=by simp only [sz_al];omega
 go_enter Tryz.func101,Tryz.ntmps101
 go_wp2_with fail
 generalize (((w.alloc (.cells #[rV p.x,rV p.y,rV p.w] 88)).alloc (.cells #[rV l.x,rV l.y,rV l.w] 88)).alloc (.cells #[.int .u8 0,.int .u8 0,.int .u8 0] 88))=w0 at *
 refine (mneg_any mb _ s i l.x w0 E0.2 (hroom.mono (by omega)) h_lx).mono ?_
 rintro e w1 ⟨he,k1⟩
 obtain ⟨v_y,hv⟩:∃ x:Nat,x=s+1:=⟨_,rfl⟩
 have b_y:v_y < 256:=by omega
 have he2:e=.returned (rV v_y):=by rw [hv];exact he
 have Hv_y:Hid (v_y=s+1):=hv
 clear he hv
 subst he2
 have E1:MkEnd w w1 mb (L++negL s l.x) (s+2) (i):=MkEnd.trans E0 k1
 have R1:Room (L++negL s l.x) (s+2) 7:=Room.app 2 (k:=7) hroom (Nat.le_of_eq rfl)
 replace f_p:=At3.kp f_p k1.1
 replace f_l:=At3.kp f_l k1.1
 replace f_RES:=At3.kp f_RES k1.1
 replace hsz:=Nat.le_trans hsz k1.1.size
 clear k1 E0 hroom
 have f_tu:At3 (w1.alloc (.cells #[rV l.y,rV v_y,rV l.w] 88)) w1.heap.size (rV l.y) (rV v_y) (rV l.w):=heap_alloc_new w1 _
 have E1a:=E1.al (.cells #[rV l.y,rV v_y,rV l.w] 88)
 have f_pa:=At3.al f_p (.cells #[rV l.y,rV v_y,rV l.w] 88)
 have f_la:=At3.al f_l (.cells #[rV l.y,rV v_y,rV l.w] 88)
 have f_RESa:=At3.al f_RES (.cells #[rV l.y,rV v_y,rV l.w] 88)
 have hsza:_≤(w1.alloc (.cells #[rV l.y,rV v_y,rV l.w] 88)).heap.size:=Nat.le_trans hsz (by simp)
 obtain ⟨q_p0,q_p1,q_p2⟩:=cells3 f_p
 obtain ⟨q_l0,q_l1,q_l2⟩:=cells3 f_l
 obtain ⟨r_p0,r_p1,r_p2⟩:=cells3 f_pa
 obtain ⟨r_l0,r_l1,r_l2⟩:=cells3 f_la
 obtain ⟨r_tu0,r_tu1,r_tu2⟩:=cells3 f_tu
 have HH:Hid _:=And.intro E1a (And.intro f_tu (And.intro hsza (And.intro f_pa (And.intro f_la f_RESa))))
 clear E1a f_tu hsza f_pa f_la f_RESa
 go_wp2_with fail
 generalize w1.alloc (.cells #[rV l.y,rV v_y,rV l.w] 88)=w1b at *
 clear q_p0 q_p1 q_p2 q_l0 q_l1 q_l2 r_p0 r_p1 r_p2 r_l0 r_l1 r_l2 r_tu0 r_tu1 r_tu2 E1 hsz f_p f_l f_RES
 obtain ⟨E1,f_tu,hsz,f_p,f_l,f_RES⟩:=HH.out
 clear HH
 refine (mpar_any mb _ (s+2) i p ((⟨l.y,v_y,l.w⟩:Tr)) w1b E1.2 (R1.mono (by omega)) ⟨h_px,h_py,h_pw⟩ ⟨by show l.y < 256;first | exact h_ly | omega,by show v_y < 256;first | exact b_y | omega,by show l.w < 256;first | exact h_lw | omega⟩).mono ?_
 rintro e w2 ⟨rfl,k2⟩
 have E2:MkEnd w w2 mb ((L++negL s l.x)++parL (s+2) p ((⟨l.y,v_y,l.w⟩:Tr))) (s+9) (i):=MkEnd.trans E1 k2
 replace f_p:=At3.kp f_p k2.1
 replace f_l:=At3.kp f_l k2.1
 replace f_RES:=At3.kp f_RES k2.1
 replace f_tu:=At3.kp f_tu k2.1
 replace hsz:=Nat.le_trans hsz k2.1.size
 clear k2 E1 R1
 have z0:=fz3 f_RES 0
 have z1:=fz3 f_RES 1
 have z2:=fz3 f_RES 2
 obtain ⟨y0,y1,y2⟩:=cells3 f_RES
 have HC:Hid _:=cells3 (set3_at (x':=rV ((parR (s+2)).x)) (y':=rV ((parR (s+2)).y)) (z':=rV ((parR (s+2)).w)) f_RES)
 have HE:Hid _:=E2.st (x':=rV ((parR (s+2)).x)) (y':=rV ((parR (s+2)).y)) (z':=rV ((parR (s+2)).w)) f_RES (by omega)
 have hlt:=lt_of_block f_RES
 clear E2 f_p f_l f_RES f_tu
 go_wp2_with fail
 obtain ⟨g0,g1,g2⟩:=HC.out
 unfold set3 at g0 g1 g2
 have hL:((L++negL s l.x)++parL (s+2) p ((⟨l.y,v_y,l.w⟩:Tr)))=L++uprL s p l:=by
  have e_y:=Hv_y.out
  subst e_y
  simp only [List.append_assoc]
  rfl
 have hR:(.agg #[rV ((parR (s+2)).x),rV ((parR (s+2)).y),rV ((parR (s+2)).w)]:Value)=trV (uprR s):=rfl
 exact bodyPost_ret (v:=.agg #[rV ((parR (s+2)).x),rV ((parR (s+2)).y),rV ((parR (s+2)).w)]) (by simp [results,Tryz.results101,go_sem,g0,g1,g2]) rfl ⟨by rw [hR],by rw [← hL];exact HE.out⟩
set_option maxHeartbeats 1600000 in
theorem mfoot_any (mb:Nat) (L:List Stp) (s i:Nat) (p l:Tr) (w:World) (hM:Mkr w mb L s i) (hroom:Room L s 18) (h_p:S8 p) (h_l:S8 l) :
  Calls Tryz.prog 102 #[mP mb,trV p,trV l] w fun e w'=>e=.returned (trV (footR s))∧MkEnd w w' mb (L++footL s p l) (s+18) (i+0):=by
 obtain ⟨h_px,h_py,h_pw⟩:=h_p
 obtain ⟨h_lx,h_ly,h_lw⟩:=h_l
 have r2:=hroom.2
 have E0:MkEnd w (((((w.alloc (trO p))).alloc (trO l))).alloc (trZ)) mb L s i:=(MkEnd.al (MkEnd.al (MkEnd.al (show MkEnd w w mb L s i from ⟨Kp.refl mb w,hM⟩) _) _) _)
 have f_p:AtT (((((w.alloc (trO p))).alloc (trO l))).alloc (trZ)) (w.heap.size) p:=by
  have h:=heap_alloc_new w (trO p)
  exact (At3.al (At3.al h _) _)
 have f_l:AtT (((((w.alloc (trO p))).alloc (trO l))).alloc (trZ)) (w.heap.size+1) l:=by
  have h:=heap_alloc_new (w.alloc (trO p)) (trO l)
  simp only [sz_al] at h
  exact (At3.al h _)
 have f_RES:At3 (((((w.alloc (trO p))).alloc (trO l))).alloc (trZ)) (w.heap.size+1+1) (.int .u8 0) (.int .u8 0) (.int .u8 0):=by
  have h:=heap_alloc_new (((w.alloc (trO p))).alloc (trO l)) (trZ)
  simp only [sz_al] at h
  exact h
 have hsz:w.heap.size+3≤((((((w.alloc (trO p))).alloc (trO l))).alloc (trZ))).heap.size:=by simp only [sz_al];omega
 go_enter Tryz.func102,Tryz.ntmps102
 go_wp2_with fail
 generalize (((w.alloc (.cells #[rV p.x,rV p.y,rV p.w] 88)).alloc (.cells #[rV l.x,rV l.y,rV l.w] 88)).alloc (.cells #[.int .u8 0,.int .u8 0,.int .u8 0] 88))=w0 at *
 refine (mupr_any mb _ s i p l w0 E0.2 (hroom.mono (by omega)) ⟨h_px,h_py,h_pw⟩ ⟨h_lx,h_ly,h_lw⟩).mono ?_
 rintro e w1 ⟨rfl,k1⟩
 have E1:MkEnd w w1 mb (L++uprL s p l) (s+9) (i):=MkEnd.trans E0 k1
 have R1:Room (L++uprL s p l) (s+9) 9:=Room.app 9 (k:=9) hroom (Nat.le_of_eq rfl)
 replace f_p:=At3.kp f_p k1.1
 replace f_l:=At3.kp f_l k1.1
 replace f_RES:=At3.kp f_RES k1.1
 replace hsz:=Nat.le_trans hsz k1.1.size
 clear k1 E0 hroom
 have f_ac:AtT (w1.alloc (.cells #[rV (uprR s).x,rV (uprR s).y,rV (uprR s).w] 88)) w1.heap.size (uprR s):=heap_alloc_new w1 _
 replace E1:=E1.al (.cells #[rV (uprR s).x,rV (uprR s).y,rV (uprR s).w] 88)
 replace f_p:=At3.al f_p (.cells #[rV (uprR s).x,rV (uprR s).y,rV (uprR s).w] 88)
 replace f_l:=At3.al f_l (.cells #[rV (uprR s).x,rV (uprR s).y,rV (uprR s).w] 88)
 replace f_RES:=At3.al f_RES (.cells #[rV (uprR s).x,rV (uprR s).y,rV (uprR s).w] 88)
 replace hsz:_≤(w1.alloc (.cells #[rV (uprR s).x,rV (uprR s).y,rV (uprR s).w] 88)).heap.size:=Nat.le_trans hsz (by simp)
 obtain ⟨q_p0,q_p1,q_p2⟩:=cells3 f_p
 obtain ⟨q_l0,q_l1,q_l2⟩:=cells3 f_l
 obtain ⟨q_ac0,q_ac1,q_ac2⟩:=cells3 f_ac
 have HH:Hid _:=And.intro E1 (And.intro hsz (And.intro f_p (And.intro f_l (And.intro f_RES f_ac))))
 clear E1 hsz f_p f_l f_RES f_ac
 go_wp2_with fail
 generalize w1.alloc (.cells #[rV (uprR s).x,rV (uprR s).y,rV (uprR s).w] 88)=w1b at *
 clear q_p0 q_p1 q_p2 q_l0 q_l1 q_l2 q_ac0 q_ac1 q_ac2
 obtain ⟨E1,hsz,f_p,f_l,f_RES,f_ac⟩:=HH.out
 clear HH
 refine (mcross_any mb _ (s+9) i (uprR s) l w1b E1.2 (R1.mono (by omega)) ⟨by show s+2 < 256;first | exact (by omega) | omega,by show s+3 < 256;first | exact (by omega) | omega,by show s+8 < 256;first | exact (by omega) | omega⟩ ⟨h_lx,h_ly,h_lw⟩).mono ?_
 rintro e w2 ⟨rfl,k2⟩
 have E2:MkEnd w w2 mb ((L++uprL s p l)++crossL (s+9) (uprR s) l) (s+18) (i):=MkEnd.trans E1 k2
 replace f_p:=At3.kp f_p k2.1
 replace f_l:=At3.kp f_l k2.1
 replace f_RES:=At3.kp f_RES k2.1
 replace f_ac:=At3.kp f_ac k2.1
 replace hsz:=Nat.le_trans hsz k2.1.size
 clear k2 E1 R1
 have z0:=fz3 f_RES 0
 have z1:=fz3 f_RES 1
 have z2:=fz3 f_RES 2
 obtain ⟨y0,y1,y2⟩:=cells3 f_RES
 have HC:Hid _:=cells3 (set3_at (x':=rV ((crossR (s+9)).x)) (y':=rV ((crossR (s+9)).y)) (z':=rV ((crossR (s+9)).w)) f_RES)
 have HE:Hid _:=E2.st (x':=rV ((crossR (s+9)).x)) (y':=rV ((crossR (s+9)).y)) (z':=rV ((crossR (s+9)).w)) f_RES (by omega)
 have hlt:=lt_of_block f_RES
 clear E2 f_p f_l f_RES f_ac
 go_wp2_with fail
 obtain ⟨g0,g1,g2⟩:=HC.out
 unfold set3 at g0 g1 g2
 have hL:((L++uprL s p l)++crossL (s+9) (uprR s) l)=L++footL s p l:=by
  simp only [List.append_assoc]
  rfl
 have hR:(.agg #[rV ((crossR (s+9)).x),rV ((crossR (s+9)).y),rV ((crossR (s+9)).w)]:Value)=trV (footR s):=rfl
 exact bodyPost_ret (v:=.agg #[rV ((crossR (s+9)).x),rV ((crossR (s+9)).y),rV ((crossR (s+9)).w)]) (by simp [results,Tryz.results102,go_sem,g0,g1,g2]) rfl ⟨by rw [hR],by rw [← hL];exact HE.out⟩
set_option maxHeartbeats 1600000 in
theorem mmir_any (mb:Nat) (L:List Stp) (s i:Nat) (p l:Tr) (w:World) (hM:Mkr w mb L s i) (hroom:Room L s 27) (h_p:S8 p) (h_l:S8 l) :
  Calls Tryz.prog 103 #[mP mb,trV p,trV l] w fun e w'=>e=.returned (trV (mirR s))∧MkEnd w w' mb (L++mirL s p l) (s+27) (i+0):=by
 obtain ⟨h_px,h_py,h_pw⟩:=h_p
 obtain ⟨h_lx,h_ly,h_lw⟩:=h_l
 have r2:=hroom.2
 have E0:MkEnd w (((((w.alloc (trO p))).alloc (trO l))).alloc (trZ)) mb L s i:=(MkEnd.al (MkEnd.al (MkEnd.al (show MkEnd w w mb L s i from ⟨Kp.refl mb w,hM⟩) _) _) _)
 have f_p:AtT (((((w.alloc (trO p))).alloc (trO l))).alloc (trZ)) (w.heap.size) p:=by
  have h:=heap_alloc_new w (trO p)
  exact (At3.al (At3.al h _) _)
 have f_l:AtT (((((w.alloc (trO p))).alloc (trO l))).alloc (trZ)) (w.heap.size+1) l:=by
  have h:=heap_alloc_new (w.alloc (trO p)) (trO l)
  simp only [sz_al] at h
  exact (At3.al h _)
 have f_RES:At3 (((((w.alloc (trO p))).alloc (trO l))).alloc (trZ)) (w.heap.size+1+1) (.int .u8 0) (.int .u8 0) (.int .u8 0):=by
  have h:=heap_alloc_new (((w.alloc (trO p))).alloc (trO l)) (trZ)
  simp only [sz_al] at h
  exact h
 have hsz:w.heap.size+3≤((((((w.alloc (trO p))).alloc (trO l))).alloc (trZ))).heap.size:=by simp only [sz_al];omega
 go_enter Tryz.func103,Tryz.ntmps103
 go_wp2_with fail
 generalize (((w.alloc (.cells #[rV p.x,rV p.y,rV p.w] 88)).alloc (.cells #[rV l.x,rV l.y,rV l.w] 88)).alloc (.cells #[.int .u8 0,.int .u8 0,.int .u8 0] 88))=w0 at *
 refine (mfoot_any mb _ s i p l w0 E0.2 (hroom.mono (by omega)) ⟨h_px,h_py,h_pw⟩ ⟨h_lx,h_ly,h_lw⟩).mono ?_
 rintro e w1 ⟨rfl,k1⟩
 have E1:MkEnd w w1 mb (L++footL s p l) (s+18) (i):=MkEnd.trans E0 k1
 have R1:Room (L++footL s p l) (s+18) 9:=Room.app 18 (k:=9) hroom (Nat.le_of_eq rfl)
 replace f_p:=At3.kp f_p k1.1
 replace f_l:=At3.kp f_l k1.1
 replace f_RES:=At3.kp f_RES k1.1
 replace hsz:=Nat.le_trans hsz k1.1.size
 clear k1 E0 hroom
 have f_f:AtT (w1.alloc (.cells #[rV (footR s).x,rV (footR s).y,rV (footR s).w] 88)) w1.heap.size (footR s):=heap_alloc_new w1 _
 replace E1:=E1.al (.cells #[rV (footR s).x,rV (footR s).y,rV (footR s).w] 88)
 replace f_p:=At3.al f_p (.cells #[rV (footR s).x,rV (footR s).y,rV (footR s).w] 88)
 replace f_l:=At3.al f_l (.cells #[rV (footR s).x,rV (footR s).y,rV (footR s).w] 88)
 replace f_RES:=At3.al f_RES (.cells #[rV (footR s).x,rV (footR s).y,rV (footR s).w] 88)
 replace hsz:_≤(w1.alloc (.cells #[rV (footR s).x,rV (footR s).y,rV (footR s).w] 88)).heap.size:=Nat.le_trans hsz (by simp)
 obtain ⟨q_p0,q_p1,q_p2⟩:=cells3 f_p
 obtain ⟨q_l0,q_l1,q_l2⟩:=cells3 f_l
 obtain ⟨q_f0,q_f1,q_f2⟩:=cells3 f_f
 have HH:Hid _:=And.intro E1 (And.intro hsz (And.intro f_p (And.intro f_l (And.intro f_RES f_f))))
 clear E1 hsz f_p f_l f_RES f_f
 go_wp2_with fail
 generalize w1.alloc (.cells #[rV (footR s).x,rV (footR s).y,rV (footR s).w] 88)=w1b at *
 clear q_p0 q_p1 q_p2 q_l0 q_l1 q_l2 q_f0 q_f1 q_f2
 obtain ⟨E1,hsz,f_p,f_l,f_RES,f_f⟩:=HH.out
 clear HH
 refine (msum_any mb _ (s+18) i (s+11) (s+11) w1b E1.2 (R1.mono (by omega)) (by omega) (by omega)).mono ?_
 rintro e w2 ⟨he,k2⟩
 obtain ⟨v_tx,hv⟩:∃ x:Nat,x=s+18:=⟨_,rfl⟩
 have b_tx:v_tx < 256:=by omega
 have he2:e=.returned (rV v_tx):=by rw [hv];exact he
 have Hv_tx:Hid (v_tx=s+18):=hv
 clear he hv
 subst he2
 have E2:MkEnd w w2 mb ((L++footL s p l)++[⟨2,s+18,s+11,s+11⟩]) (s+19) (i):=MkEnd.trans E1 k2
 have R2:Room ((L++footL s p l)++[⟨2,s+18,s+11,s+11⟩]) (s+19) 8:=Room.app 1 (k:=8) R1 (Nat.le_of_eq rfl)
 replace f_p:=At3.kp f_p k2.1
 replace f_l:=At3.kp f_l k2.1
 replace f_RES:=At3.kp f_RES k2.1
 replace f_f:=At3.kp f_f k2.1
 replace hsz:=Nat.le_trans hsz k2.1.size
 clear k2 E1 R1
 obtain ⟨q_p0,q_p1,q_p2⟩:=cells3 f_p
 obtain ⟨q_l0,q_l1,q_l2⟩:=cells3 f_l
 obtain ⟨q_f0,q_f1,q_f2⟩:=cells3 f_f
 have HH:Hid _:=And.intro E2 (And.intro hsz (And.intro f_p (And.intro f_l (And.intro f_RES f_f))))
 clear E2 hsz f_p f_l f_RES f_f
 go_wp2_with fail
 clear q_p0 q_p1 q_p2 q_l0 q_l1 q_l2 q_f0 q_f1 q_f2
 obtain ⟨E2,hsz,f_p,f_l,f_RES,f_f⟩:=HH.out
 clear HH
 refine (msum_any mb _ (s+19) i (s+14) (s+14) w2 E2.2 (R2.mono (by omega)) (by omega) (by omega)).mono ?_
 rintro e w3 ⟨he,k3⟩
 obtain ⟨v_ty,hv⟩:∃ x:Nat,x=s+19:=⟨_,rfl⟩
 have b_ty:v_ty < 256:=by omega
 have he2:e=.returned (rV v_ty):=by rw [hv];exact he
 have Hv_ty:Hid (v_ty=s+19):=hv
 clear he hv
 subst he2
 have E3:MkEnd w w3 mb (((L++footL s p l)++[⟨2,s+18,s+11,s+11⟩])++[⟨2,s+19,s+14,s+14⟩]) (s+20) (i):=MkEnd.trans E2 k3
 have R3:Room (((L++footL s p l)++[⟨2,s+18,s+11,s+11⟩])++[⟨2,s+19,s+14,s+14⟩]) (s+20) 7:=Room.app 1 (k:=7) R2 (Nat.le_of_eq rfl)
 replace f_p:=At3.kp f_p k3.1
 replace f_l:=At3.kp f_l k3.1
 replace f_RES:=At3.kp f_RES k3.1
 replace f_f:=At3.kp f_f k3.1
 replace hsz:=Nat.le_trans hsz k3.1.size
 clear k3 E2 R2
 obtain ⟨q_p0,q_p1,q_p2⟩:=cells3 f_p
 obtain ⟨q_l0,q_l1,q_l2⟩:=cells3 f_l
 obtain ⟨q_f0,q_f1,q_f2⟩:=cells3 f_f
 have HH:Hid _:=And.intro E3 (And.intro hsz (And.intro f_p (And.intro f_l (And.intro f_RES f_f))))
 clear E3 hsz f_p f_l f_RES f_f
 go_wp2_with fail
 clear q_p0 q_p1 q_p2 q_l0 q_l1 q_l2 q_f0 q_f1 q_f2
 obtain ⟨E3,hsz,f_p,f_l,f_RES,f_f⟩:=HH.out
 clear HH
 refine (mpD_any mb _ (s+20) i v_tx p.w p.x (s+17) w3 E3.2 (R3.mono (by omega)) b_tx h_pw h_px (by omega)).mono ?_
 rintro e w4 ⟨he,k4⟩
 obtain ⟨v_x,hv⟩:∃ x:Nat,x=s+20+2:=⟨_,rfl⟩
 have b_x:v_x < 256:=by omega
 have he2:e=.returned (rV v_x):=by rw [hv];exact he
 have Hv_x:Hid (v_x=s+20+2):=hv
 clear he hv
 subst he2
 have E4:MkEnd w w4 mb ((((L++footL s p l)++[⟨2,s+18,s+11,s+11⟩])++[⟨2,s+19,s+14,s+14⟩])++prodD (s+20) v_tx p.w p.x (s+17)) (s+23) (i):=MkEnd.trans E3 k4
 have R4:Room ((((L++footL s p l)++[⟨2,s+18,s+11,s+11⟩])++[⟨2,s+19,s+14,s+14⟩])++prodD (s+20) v_tx p.w p.x (s+17)) (s+23) 4:=Room.app 3 (k:=4) R3 (Nat.le_of_eq rfl)
 replace f_p:=At3.kp f_p k4.1
 replace f_l:=At3.kp f_l k4.1
 replace f_RES:=At3.kp f_RES k4.1
 replace f_f:=At3.kp f_f k4.1
 replace hsz:=Nat.le_trans hsz k4.1.size
 clear k4 E3 R3
 obtain ⟨q_p0,q_p1,q_p2⟩:=cells3 f_p
 obtain ⟨q_l0,q_l1,q_l2⟩:=cells3 f_l
 obtain ⟨q_f0,q_f1,q_f2⟩:=cells3 f_f
 have HH:Hid _:=And.intro E4 (And.intro hsz (And.intro f_p (And.intro f_l (And.intro f_RES f_f))))
 clear E4 hsz f_p f_l f_RES f_f
 go_wp2_with fail
 clear q_p0 q_p1 q_p2 q_l0 q_l1 q_l2 q_f0 q_f1 q_f2
 obtain ⟨E4,hsz,f_p,f_l,f_RES,f_f⟩:=HH.out
 clear HH
 refine (mpD_any mb _ (s+23) i v_ty p.w p.y (s+17) w4 E4.2 (R4.mono (by omega)) b_ty h_pw h_py (by omega)).mono ?_
 rintro e w5 ⟨he,k5⟩
 obtain ⟨v_y,hv⟩:∃ x:Nat,x=s+23+2:=⟨_,rfl⟩
 have b_y:v_y < 256:=by omega
 have he2:e=.returned (rV v_y):=by rw [hv];exact he
 have Hv_y:Hid (v_y=s+23+2):=hv
 clear he hv
 subst he2
 have E5:MkEnd w w5 mb (((((L++footL s p l)++[⟨2,s+18,s+11,s+11⟩])++[⟨2,s+19,s+14,s+14⟩])++prodD (s+20) v_tx p.w p.x (s+17))++prodD (s+23) v_ty p.w p.y (s+17)) (s+26) (i):=MkEnd.trans E4 k5
 have R5:Room (((((L++footL s p l)++[⟨2,s+18,s+11,s+11⟩])++[⟨2,s+19,s+14,s+14⟩])++prodD (s+20) v_tx p.w p.x (s+17))++prodD (s+23) v_ty p.w p.y (s+17)) (s+26) 1:=Room.app 3 (k:=1) R4 (Nat.le_of_eq rfl)
 replace f_p:=At3.kp f_p k5.1
 replace f_l:=At3.kp f_l k5.1
 replace f_RES:=At3.kp f_RES k5.1
 replace f_f:=At3.kp f_f k5.1
 replace hsz:=Nat.le_trans hsz k5.1.size
 clear k5 E4 R4
 obtain ⟨q_p0,q_p1,q_p2⟩:=cells3 f_p
 obtain ⟨q_l0,q_l1,q_l2⟩:=cells3 f_l
 obtain ⟨q_f0,q_f1,q_f2⟩:=cells3 f_f
 have HH:Hid _:=And.intro E5 (And.intro hsz (And.intro f_p (And.intro f_l (And.intro f_RES f_f))))
 clear E5 hsz f_p f_l f_RES f_f
 go_wp2_with fail
 clear q_p0 q_p1 q_p2 q_l0 q_l1 q_l2 q_f0 q_f1 q_f2
 obtain ⟨E5,hsz,f_p,f_l,f_RES,f_f⟩:=HH.out
 clear HH
 refine (mpro_any mb _ (s+26) i (s+17) p.w w5 E5.2 (R5.mono (by omega)) (by omega) h_pw).mono ?_
 rintro e w6 ⟨he,k6⟩
 obtain ⟨v_w,hv⟩:∃ x:Nat,x=s+26:=⟨_,rfl⟩
 have b_w:v_w < 256:=by omega
 have he2:e=.returned (rV v_w):=by rw [hv];exact he
 have Hv_w:Hid (v_w=s+26):=hv
 clear he hv
 subst he2
 have E6:MkEnd w w6 mb ((((((L++footL s p l)++[⟨2,s+18,s+11,s+11⟩])++[⟨2,s+19,s+14,s+14⟩])++prodD (s+20) v_tx p.w p.x (s+17))++prodD (s+23) v_ty p.w p.y (s+17))++[⟨4,s+26,s+17,p.w⟩]) (s+27) (i):=MkEnd.trans E5 k6
 replace f_p:=At3.kp f_p k6.1
 replace f_l:=At3.kp f_l k6.1
 replace f_RES:=At3.kp f_RES k6.1
 replace f_f:=At3.kp f_f k6.1
 replace hsz:=Nat.le_trans hsz k6.1.size
 clear k6 E5 R5
 have z0:=fz3 f_RES 0
 have z1:=fz3 f_RES 1
 have z2:=fz3 f_RES 2
 obtain ⟨y0,y1,y2⟩:=cells3 f_RES
 have HC:Hid _:=cells3 (set3_at (x':=rV (v_x)) (y':=rV (v_y)) (z':=rV (v_w)) f_RES)
 have HE:Hid _:=E6.st (x':=rV (v_x)) (y':=rV (v_y)) (z':=rV (v_w)) f_RES (by omega)
 have hlt:=lt_of_block f_RES
 clear E6 f_p f_l f_RES f_f
 go_wp2_with fail
 obtain ⟨g0,g1,g2⟩:=HC.out
 unfold set3 at g0 g1 g2
 have hL:((((((L++footL s p l)++[⟨2,s+18,s+11,s+11⟩])++[⟨2,s+19,s+14,s+14⟩])++prodD (s+20) v_tx p.w p.x (s+17))++prodD (s+23) v_ty p.w p.y (s+17))++[⟨4,s+26,s+17,p.w⟩])=L++mirL s p l:=by
  have e_tx:=Hv_tx.out
  have e_ty:=Hv_ty.out
  have e_x:=Hv_x.out
  have e_y:=Hv_y.out
  have e_w:=Hv_w.out
  subst e_tx e_ty e_x e_y e_w
  simp only [List.append_assoc]
  rfl
 have hR:(.agg #[rV (v_x),rV (v_y),rV (v_w)]:Value)=trV (mirR s):=by rw [Hv_x.out,Hv_y.out,Hv_w.out];rfl
 exact bodyPost_ret (v:=.agg #[rV (v_x),rV (v_y),rV (v_w)]) (by simp [results,Tryz.results103,go_sem,g0,g1,g2]) rfl ⟨by rw [hR],by rw [← hL];exact HE.out⟩
set_option maxHeartbeats 1600000 in
theorem mhal_any (mb:Nat) (L:List Stp) (s i:Nat) (a b:Tr) (w:World) (hM:Mkr w mb L s i) (hroom:Room L s 26) (h_a:S8 a) (h_b:S8 b) :
  Calls Tryz.prog 158 #[mP mb,trV a,trV b] w fun e w'=>e=.returned (trV (halR s))∧MkEnd w w' mb (L++halL s a b) (s+26) (i+0):=by
 obtain ⟨h_ax,h_ay,h_aw⟩:=h_a
 obtain ⟨h_bx,h_by,h_bw⟩:=h_b
 have r2:=hroom.2
 have E0:MkEnd w (((((w.alloc (trO a))).alloc (trO b))).alloc (trZ)) mb L s i:=(MkEnd.al (MkEnd.al (MkEnd.al (show MkEnd w w mb L s i from ⟨Kp.refl mb w,hM⟩) _) _) _)
 have f_a:AtT (((((w.alloc (trO a))).alloc (trO b))).alloc (trZ)) (w.heap.size) a:=by
  have h:=heap_alloc_new w (trO a)
  exact (At3.al (At3.al h _) _)
 have f_b:AtT (((((w.alloc (trO a))).alloc (trO b))).alloc (trZ)) (w.heap.size+1) b:=by
  have h:=heap_alloc_new (w.alloc (trO a)) (trO b)
  simp only [sz_al] at h
  exact (At3.al h _)
 have f_RES:At3 (((((w.alloc (trO a))).alloc (trO b))).alloc (trZ)) (w.heap.size+1+1) (.int .u8 0) (.int .u8 0) (.int .u8 0):=by
  have h:=heap_alloc_new (((w.alloc (trO a))).alloc (trO b)) (trZ)
  simp only [sz_al] at h
  exact h
 have hsz:w.heap.size+3≤((((((w.alloc (trO a))).alloc (trO b))).alloc (trZ))).heap.size:=by simp only [sz_al];omega
 go_enter Tryz.func158,Tryz.ntmps158
 go_wp2_with fail
 generalize (((w.alloc (.cells #[rV a.x,rV a.y,rV a.w] 88)).alloc (.cells #[rV b.x,rV b.y,rV b.w] 88)).alloc (.cells #[.int .u8 0,.int .u8 0,.int .u8 0] 88))=w0 at *
 refine (mmid_any mb _ s i a b w0 E0.2 (hroom.mono (by omega)) ⟨h_ax,h_ay,h_aw⟩ ⟨h_bx,h_by,h_bw⟩).mono ?_
 rintro e w1 ⟨rfl,k1⟩
 have E1:MkEnd w w1 mb (L++midL s a b) (s+8) (i):=MkEnd.trans E0 k1
 have R1:Room (L++midL s a b) (s+8) 18:=Room.app 8 (k:=18) hroom (Nat.le_of_eq rfl)
 replace f_a:=At3.kp f_a k1.1
 replace f_b:=At3.kp f_b k1.1
 replace f_RES:=At3.kp f_RES k1.1
 replace hsz:=Nat.le_trans hsz k1.1.size
 clear k1 E0 hroom
 have f_m:AtT (w1.alloc (.cells #[rV (midR s).x,rV (midR s).y,rV (midR s).w] 88)) w1.heap.size (midR s):=heap_alloc_new w1 _
 replace E1:=E1.al (.cells #[rV (midR s).x,rV (midR s).y,rV (midR s).w] 88)
 replace f_a:=At3.al f_a (.cells #[rV (midR s).x,rV (midR s).y,rV (midR s).w] 88)
 replace f_b:=At3.al f_b (.cells #[rV (midR s).x,rV (midR s).y,rV (midR s).w] 88)
 replace f_RES:=At3.al f_RES (.cells #[rV (midR s).x,rV (midR s).y,rV (midR s).w] 88)
 replace hsz:_≤(w1.alloc (.cells #[rV (midR s).x,rV (midR s).y,rV (midR s).w] 88)).heap.size:=Nat.le_trans hsz (by simp)
 obtain ⟨q_a0,q_a1,q_a2⟩:=cells3 f_a
 obtain ⟨q_b0,q_b1,q_b2⟩:=cells3 f_b
 obtain ⟨q_m0,q_m1,q_m2⟩:=cells3 f_m
 have HH:Hid _:=And.intro E1 (And.intro hsz (And.intro f_a (And.intro f_b (And.intro f_RES f_m))))
 clear E1 hsz f_a f_b f_RES f_m
 go_wp2_with fail
 generalize w1.alloc (.cells #[rV (midR s).x,rV (midR s).y,rV (midR s).w] 88)=w1b at *
 clear q_a0 q_a1 q_a2 q_b0 q_b1 q_b2 q_m0 q_m1 q_m2
 obtain ⟨E1,hsz,f_a,f_b,f_RES,f_m⟩:=HH.out
 clear HH
 refine (mcross_any mb _ (s+8) i a b w1b E1.2 (R1.mono (by omega)) ⟨h_ax,h_ay,h_aw⟩ ⟨h_bx,h_by,h_bw⟩).mono ?_
 rintro e w2 ⟨rfl,k2⟩
 have E2:MkEnd w w2 mb ((L++midL s a b)++crossL (s+8) a b) (s+17) (i):=MkEnd.trans E1 k2
 have R2:Room ((L++midL s a b)++crossL (s+8) a b) (s+17) 9:=Room.app 9 (k:=9) R1 (Nat.le_of_eq rfl)
 replace f_a:=At3.kp f_a k2.1
 replace f_b:=At3.kp f_b k2.1
 replace f_RES:=At3.kp f_RES k2.1
 replace f_m:=At3.kp f_m k2.1
 replace hsz:=Nat.le_trans hsz k2.1.size
 clear k2 E1 R1
 have f_t:AtT (w2.alloc (.cells #[rV (crossR (s+8)).x,rV (crossR (s+8)).y,rV (crossR (s+8)).w] 88)) w2.heap.size (crossR (s+8)):=heap_alloc_new w2 _
 replace E2:=E2.al (.cells #[rV (crossR (s+8)).x,rV (crossR (s+8)).y,rV (crossR (s+8)).w] 88)
 replace f_a:=At3.al f_a (.cells #[rV (crossR (s+8)).x,rV (crossR (s+8)).y,rV (crossR (s+8)).w] 88)
 replace f_b:=At3.al f_b (.cells #[rV (crossR (s+8)).x,rV (crossR (s+8)).y,rV (crossR (s+8)).w] 88)
 replace f_RES:=At3.al f_RES (.cells #[rV (crossR (s+8)).x,rV (crossR (s+8)).y,rV (crossR (s+8)).w] 88)
 replace f_m:=At3.al f_m (.cells #[rV (crossR (s+8)).x,rV (crossR (s+8)).y,rV (crossR (s+8)).w] 88)
 replace hsz:_≤(w2.alloc (.cells #[rV (crossR (s+8)).x,rV (crossR (s+8)).y,rV (crossR (s+8)).w] 88)).heap.size:=Nat.le_trans hsz (by simp)
 obtain ⟨q_a0,q_a1,q_a2⟩:=cells3 f_a
 obtain ⟨q_b0,q_b1,q_b2⟩:=cells3 f_b
 obtain ⟨q_m0,q_m1,q_m2⟩:=cells3 f_m
 obtain ⟨q_t0,q_t1,q_t2⟩:=cells3 f_t
 have HH:Hid _:=And.intro E2 (And.intro hsz (And.intro f_a (And.intro f_b (And.intro f_RES (And.intro f_m f_t)))))
 clear E2 hsz f_a f_b f_RES f_m f_t
 go_wp2_with fail
 generalize w2.alloc (.cells #[rV (crossR (s+8)).x,rV (crossR (s+8)).y,rV (crossR (s+8)).w] 88)=w2b at *
 clear q_a0 q_a1 q_a2 q_b0 q_b1 q_b2 q_m0 q_m1 q_m2 q_t0 q_t1 q_t2
 obtain ⟨E2,hsz,f_a,f_b,f_RES,f_m,f_t⟩:=HH.out
 clear HH
 refine (mupr_any mb _ (s+17) i (midR s) (crossR (s+8)) w2b E2.2 (R2.mono (by omega)) ⟨by show s+2 < 256;first | exact (by omega) | omega,by show s+5 < 256;first | exact (by omega) | omega,by show s+7 < 256;first | exact (by omega) | omega⟩ ⟨by show s+10 < 256;first | exact (by omega) | omega,by show s+13 < 256;first | exact (by omega) | omega,by show s+16 < 256;first | exact (by omega) | omega⟩).mono ?_
 rintro e w3 ⟨rfl,k3⟩
 have E3:MkEnd w w3 mb (((L++midL s a b)++crossL (s+8) a b)++uprL (s+17) (midR s) (crossR (s+8))) (s+26) (i):=MkEnd.trans E2 k3
 replace f_a:=At3.kp f_a k3.1
 replace f_b:=At3.kp f_b k3.1
 replace f_RES:=At3.kp f_RES k3.1
 replace f_m:=At3.kp f_m k3.1
 replace f_t:=At3.kp f_t k3.1
 replace hsz:=Nat.le_trans hsz k3.1.size
 clear k3 E2 R2
 have z0:=fz3 f_RES 0
 have z1:=fz3 f_RES 1
 have z2:=fz3 f_RES 2
 obtain ⟨y0,y1,y2⟩:=cells3 f_RES
 have HC:Hid _:=cells3 (set3_at (x':=rV ((uprR (s+17)).x)) (y':=rV ((uprR (s+17)).y)) (z':=rV ((uprR (s+17)).w)) f_RES)
 have HE:Hid _:=E3.st (x':=rV ((uprR (s+17)).x)) (y':=rV ((uprR (s+17)).y)) (z':=rV ((uprR (s+17)).w)) f_RES (by omega)
 have hlt:=lt_of_block f_RES
 clear E3 f_a f_b f_RES f_m f_t
 go_wp2_with fail
 obtain ⟨g0,g1,g2⟩:=HC.out
 unfold set3 at g0 g1 g2
 have hL:(((L++midL s a b)++crossL (s+8) a b)++uprL (s+17) (midR s) (crossR (s+8)))=L++halL s a b:=by
  simp only [List.append_assoc]
  rfl
 have hR:(.agg #[rV ((uprR (s+17)).x),rV ((uprR (s+17)).y),rV ((uprR (s+17)).w)]:Value)=trV (halR s):=rfl
 exact bodyPost_ret (v:=.agg #[rV ((uprR (s+17)).x),rV ((uprR (s+17)).y),rV ((uprR (s+17)).w)]) (by simp [results,Tryz.results158,go_sem,g0,g1,g2]) rfl ⟨by rw [hR],by rw [← hL];exact HE.out⟩
set_option maxHeartbeats 1600000 in
theorem mcen_any (mb:Nat) (L:List Stp) (s i:Nat) (a b c:Tr) (w:World) (hM:Mkr w mb L s i) (hroom:Room L s 61) (h_a:S8 a) (h_b:S8 b) (h_c:S8 c) :
  Calls Tryz.prog 104 #[mP mb,trV a,trV b,trV c] w fun e w'=>e=.returned (trV (cenR s))∧MkEnd w w' mb (L++cenL s a b c) (s+61) (i+0):=by
 obtain ⟨h_ax,h_ay,h_aw⟩:=h_a
 obtain ⟨h_bx,h_by,h_bw⟩:=h_b
 obtain ⟨h_cx,h_cy,h_cw⟩:=h_c
 have r2:=hroom.2
 have E0:MkEnd w (((((((w.alloc (trO a))).alloc (trO b))).alloc (trO c))).alloc (trZ)) mb L s i:=(MkEnd.al (MkEnd.al (MkEnd.al (MkEnd.al (show MkEnd w w mb L s i from ⟨Kp.refl mb w,hM⟩) _) _) _) _)
 have f_a:AtT (((((((w.alloc (trO a))).alloc (trO b))).alloc (trO c))).alloc (trZ)) (w.heap.size) a:=by
  have h:=heap_alloc_new w (trO a)
  exact (At3.al (At3.al (At3.al h _) _) _)
 have f_b:AtT (((((((w.alloc (trO a))).alloc (trO b))).alloc (trO c))).alloc (trZ)) (w.heap.size+1) b:=by
  have h:=heap_alloc_new (w.alloc (trO a)) (trO b)
  simp only [sz_al] at h
  exact (At3.al (At3.al h _) _)
 have f_c:AtT (((((((w.alloc (trO a))).alloc (trO b))).alloc (trO c))).alloc (trZ)) (w.heap.size+1+1) c:=by
  have h:=heap_alloc_new (((w.alloc (trO a))).alloc (trO b)) (trO c)
  simp only [sz_al] at h
  exact (At3.al h _)
 have f_RES:At3 (((((((w.alloc (trO a))).alloc (trO b))).alloc (trO c))).alloc (trZ)) (w.heap.size+1+1+1) (.int .u8 0) (.int .u8 0) (.int .u8 0):=by
  have h:=heap_alloc_new (((((w.alloc (trO a))).alloc (trO b))).alloc (trO c)) (trZ)
  simp only [sz_al] at h
  exact h
 have hsz:w.heap.size+4≤((((((((w.alloc (trO a))).alloc (trO b))).alloc (trO c))).alloc (trZ))).heap.size:=by simp only [sz_al];omega
 go_enter Tryz.func104,Tryz.ntmps104
 go_wp2_with fail
 generalize ((((w.alloc (.cells #[rV a.x,rV a.y,rV a.w] 88)).alloc (.cells #[rV b.x,rV b.y,rV b.w] 88)).alloc (.cells #[rV c.x,rV c.y,rV c.w] 88)).alloc (.cells #[.int .u8 0,.int .u8 0,.int .u8 0] 88))=w0 at *
 refine (mhal_any mb _ s i a b w0 E0.2 (hroom.mono (by omega)) ⟨h_ax,h_ay,h_aw⟩ ⟨h_bx,h_by,h_bw⟩).mono ?_
 rintro e w1 ⟨rfl,k1⟩
 have E1:MkEnd w w1 mb (L++halL s a b) (s+26) (i):=MkEnd.trans E0 k1
 have R1:Room (L++halL s a b) (s+26) 35:=Room.app 26 (k:=35) hroom (Nat.le_of_eq rfl)
 replace f_a:=At3.kp f_a k1.1
 replace f_b:=At3.kp f_b k1.1
 replace f_c:=At3.kp f_c k1.1
 replace f_RES:=At3.kp f_RES k1.1
 replace hsz:=Nat.le_trans hsz k1.1.size
 clear k1 E0 hroom
 have f_f:AtT (w1.alloc (.cells #[rV (halR s).x,rV (halR s).y,rV (halR s).w] 88)) w1.heap.size (halR s):=heap_alloc_new w1 _
 replace E1:=E1.al (.cells #[rV (halR s).x,rV (halR s).y,rV (halR s).w] 88)
 replace f_a:=At3.al f_a (.cells #[rV (halR s).x,rV (halR s).y,rV (halR s).w] 88)
 replace f_b:=At3.al f_b (.cells #[rV (halR s).x,rV (halR s).y,rV (halR s).w] 88)
 replace f_c:=At3.al f_c (.cells #[rV (halR s).x,rV (halR s).y,rV (halR s).w] 88)
 replace f_RES:=At3.al f_RES (.cells #[rV (halR s).x,rV (halR s).y,rV (halR s).w] 88)
 replace hsz:_≤(w1.alloc (.cells #[rV (halR s).x,rV (halR s).y,rV (halR s).w] 88)).heap.size:=Nat.le_trans hsz (by simp)
 obtain ⟨q_a0,q_a1,q_a2⟩:=cells3 f_a
 obtain ⟨q_b0,q_b1,q_b2⟩:=cells3 f_b
 obtain ⟨q_c0,q_c1,q_c2⟩:=cells3 f_c
 obtain ⟨q_f0,q_f1,q_f2⟩:=cells3 f_f
 have HH:Hid _:=And.intro E1 (And.intro hsz (And.intro f_a (And.intro f_b (And.intro f_c (And.intro f_RES f_f)))))
 clear E1 hsz f_a f_b f_c f_RES f_f
 go_wp2_with fail
 generalize w1.alloc (.cells #[rV (halR s).x,rV (halR s).y,rV (halR s).w] 88)=w1b at *
 clear q_a0 q_a1 q_a2 q_b0 q_b1 q_b2 q_c0 q_c1 q_c2 q_f0 q_f1 q_f2
 obtain ⟨E1,hsz,f_a,f_b,f_c,f_RES,f_f⟩:=HH.out
 clear HH
 refine (mhal_any mb _ (s+26) i a c w1b E1.2 (R1.mono (by omega)) ⟨h_ax,h_ay,h_aw⟩ ⟨h_cx,h_cy,h_cw⟩).mono ?_
 rintro e w2 ⟨rfl,k2⟩
 have E2:MkEnd w w2 mb ((L++halL s a b)++halL (s+26) a c) (s+52) (i):=MkEnd.trans E1 k2
 have R2:Room ((L++halL s a b)++halL (s+26) a c) (s+52) 9:=Room.app 26 (k:=9) R1 (Nat.le_of_eq rfl)
 replace f_a:=At3.kp f_a k2.1
 replace f_b:=At3.kp f_b k2.1
 replace f_c:=At3.kp f_c k2.1
 replace f_RES:=At3.kp f_RES k2.1
 replace f_f:=At3.kp f_f k2.1
 replace hsz:=Nat.le_trans hsz k2.1.size
 clear k2 E1 R1
 have f_t:AtT (w2.alloc (.cells #[rV (halR (s+26)).x,rV (halR (s+26)).y,rV (halR (s+26)).w] 88)) w2.heap.size (halR (s+26)):=heap_alloc_new w2 _
 replace E2:=E2.al (.cells #[rV (halR (s+26)).x,rV (halR (s+26)).y,rV (halR (s+26)).w] 88)
 replace f_a:=At3.al f_a (.cells #[rV (halR (s+26)).x,rV (halR (s+26)).y,rV (halR (s+26)).w] 88)
 replace f_b:=At3.al f_b (.cells #[rV (halR (s+26)).x,rV (halR (s+26)).y,rV (halR (s+26)).w] 88)
 replace f_c:=At3.al f_c (.cells #[rV (halR (s+26)).x,rV (halR (s+26)).y,rV (halR (s+26)).w] 88)
 replace f_RES:=At3.al f_RES (.cells #[rV (halR (s+26)).x,rV (halR (s+26)).y,rV (halR (s+26)).w] 88)
 replace f_f:=At3.al f_f (.cells #[rV (halR (s+26)).x,rV (halR (s+26)).y,rV (halR (s+26)).w] 88)
 replace hsz:_≤(w2.alloc (.cells #[rV (halR (s+26)).x,rV (halR (s+26)).y,rV (halR (s+26)).w] 88)).heap.size:=Nat.le_trans hsz (by simp)
 obtain ⟨q_a0,q_a1,q_a2⟩:=cells3 f_a
 obtain ⟨q_b0,q_b1,q_b2⟩:=cells3 f_b
 obtain ⟨q_c0,q_c1,q_c2⟩:=cells3 f_c
 obtain ⟨q_f0,q_f1,q_f2⟩:=cells3 f_f
 obtain ⟨q_t0,q_t1,q_t2⟩:=cells3 f_t
 have HH:Hid _:=And.intro E2 (And.intro hsz (And.intro f_a (And.intro f_b (And.intro f_c (And.intro f_RES (And.intro f_f f_t))))))
 clear E2 hsz f_a f_b f_c f_RES f_f f_t
 go_wp2_with fail
 generalize w2.alloc (.cells #[rV (halR (s+26)).x,rV (halR (s+26)).y,rV (halR (s+26)).w] 88)=w2b at *
 clear q_a0 q_a1 q_a2 q_b0 q_b1 q_b2 q_c0 q_c1 q_c2 q_f0 q_f1 q_f2 q_t0 q_t1 q_t2
 obtain ⟨E2,hsz,f_a,f_b,f_c,f_RES,f_f,f_t⟩:=HH.out
 clear HH
 refine (mcross_any mb _ (s+52) i (halR s) (halR (s+26)) w2b E2.2 (R2.mono (by omega)) ⟨by show s+19 < 256;first | exact (by omega) | omega,by show s+20 < 256;first | exact (by omega) | omega,by show s+25 < 256;first | exact (by omega) | omega⟩ ⟨by show s+45 < 256;first | exact (by omega) | omega,by show s+46 < 256;first | exact (by omega) | omega,by show s+51 < 256;first | exact (by omega) | omega⟩).mono ?_
 rintro e w3 ⟨rfl,k3⟩
 have E3:MkEnd w w3 mb (((L++halL s a b)++halL (s+26) a c)++crossL (s+52) (halR s) (halR (s+26))) (s+61) (i):=MkEnd.trans E2 k3
 replace f_a:=At3.kp f_a k3.1
 replace f_b:=At3.kp f_b k3.1
 replace f_c:=At3.kp f_c k3.1
 replace f_RES:=At3.kp f_RES k3.1
 replace f_f:=At3.kp f_f k3.1
 replace f_t:=At3.kp f_t k3.1
 replace hsz:=Nat.le_trans hsz k3.1.size
 clear k3 E2 R2
 have z0:=fz3 f_RES 0
 have z1:=fz3 f_RES 1
 have z2:=fz3 f_RES 2
 obtain ⟨y0,y1,y2⟩:=cells3 f_RES
 have HC:Hid _:=cells3 (set3_at (x':=rV ((crossR (s+52)).x)) (y':=rV ((crossR (s+52)).y)) (z':=rV ((crossR (s+52)).w)) f_RES)
 have HE:Hid _:=E3.st (x':=rV ((crossR (s+52)).x)) (y':=rV ((crossR (s+52)).y)) (z':=rV ((crossR (s+52)).w)) f_RES (by omega)
 have hlt:=lt_of_block f_RES
 clear E3 f_a f_b f_c f_RES f_f f_t
 go_wp2_with fail
 obtain ⟨g0,g1,g2⟩:=HC.out
 unfold set3 at g0 g1 g2
 have hL:(((L++halL s a b)++halL (s+26) a c)++crossL (s+52) (halR s) (halR (s+26)))=L++cenL s a b c:=by
  simp only [List.append_assoc]
  rfl
 have hR:(.agg #[rV ((crossR (s+52)).x),rV ((crossR (s+52)).y),rV ((crossR (s+52)).w)]:Value)=trV (cenR s):=rfl
 exact bodyPost_ret (v:=.agg #[rV ((crossR (s+52)).x),rV ((crossR (s+52)).y),rV ((crossR (s+52)).w)]) (by simp [results,Tryz.results104,go_sem,g0,g1,g2]) rfl ⟨by rw [hR],by rw [← hL];exact HE.out⟩
end Go.Proofs.YtmnfndpbblpjiaaGreatDoor

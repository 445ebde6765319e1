/- The maker: between, round. -/
import Derived.Test.YtmnfndpbblpjiabGreatDoorZx23
set_option maxHeartbeats 1600000
namespace Go.Proofs.YtmnfndpbblpjiabGreatDoor
open Go.RowKit Pu
theorem QS (mb:Nat) (L:List Stp) (s i:Nat) (a b c:Tr) (w:World) (hM:dS w mb L s i) (hroom:Room L s 38) (nL:S8 a) (oI:S8 b) (h_c:S8 c) :
  Calls Tryz.prog 80 #[mP mb,dZ a,dZ b,dZ c] w fun e w'=>e=.returned (rV (s+37))/\ah w w' mb (L++zV s a b c) (s+38) (i+0):=by
 obtain⟨pF,pG,nM⟩:=nL
 obtain⟨qI,qJ,pI⟩:=oI
 obtain⟨FX,FY,FW⟩:=h_c
 have r2:=hroom.2
 have E0:ah w (((((w.alloc (aS a))).alloc (aS b))).alloc (aS c)) mb L s i:=(ah.al (ah.al (ah.al (show ah w w mb L s i from ⟨Kp.refl mb w,hM⟩) _) _) _)
 have bg:kT (((((w.alloc (aS a))).alloc (aS b))).alloc (aS c)) (w.heap.size) a:=by
  have h:=heap_alloc_new w (aS a)
  exact (aB.al (aB.al h _) _)
 have bA:kT (((((w.alloc (aS a))).alloc (aS b))).alloc (aS c)) (w.heap.size+1) b:=by
  have h:=heap_alloc_new (w.alloc (aS a)) (aS b)
  simp only[bG]at h
  exact (aB.al h _)
 have dF:kT (((((w.alloc (aS a))).alloc (aS b))).alloc (aS c)) (w.heap.size+1+1) c:=by
  have h:=heap_alloc_new (((w.alloc (aS a))).alloc (aS b)) (aS c)
  simp only[bG]at h
  exact h
 have hsz:w.heap.size+3<=((((((w.alloc (aS a))).alloc (aS b))).alloc (aS c))).heap.size:=by simp only[bG];omega
 go_in
 go_wp2_with fail
 generalize (((w.alloc (.cells #[rV a.x,rV a.y,rV a.w] 84)).alloc (.cells #[rV b.x,rV b.y,rV b.w] 84)).alloc (.cells #[rV c.x,rV c.y,rV c.w] 84))=w0 at *
 refine (sF mb _ s i a b c w0 E0.2 (hroom.mono (by omega)) ⟨pF,pG,nM⟩ ⟨qI,qJ,pI⟩ ⟨FX,FY,FW⟩).mono ?_
 rintro e w1 ⟨he,k1⟩
 obtain⟨IJ,hv⟩:∃ x:Nat,x=s+13:=⟨_,rfl⟩
 have Z7:IJ < 256:=by omega
 have he2:e=.returned (rV IJ):=by rw[hv];exact he
 have abz:Hid (IJ=s+13):=hv
 clear he hv
 subst he2
 have E1:ah w w1 mb (L++iK s a b c) (s+14) (i):=ah.trans E0 k1
 have R1:Room (L++iK s a b c) (s+14) 24:=Room.app 14 (k:=24) hroom (Nat.le_of_eq rfl)
 replace bg:=aB.kp bg k1.1
 replace bA:=aB.kp bA k1.1
 replace dF:=aB.kp dF k1.1
 replace hsz:=Nat.le_trans hsz k1.1.size
 clear k1 E0 hroom
 obtain⟨fB,fC,fD⟩:=cells3 bg
 obtain⟨fE,fF,fG⟩:=cells3 bA
 obtain⟨kF,kG,kH⟩:=cells3 dF
 have HH:Hid _:=zI E1 (zI hsz (zI bg (zI bA dF)))
 clear E1 hsz bg bA dF
 go_wp2_with fail
 clear fB fC fD fE fF fG kF kG kH
 obtain⟨E1,hsz,bg,bA,dF⟩:=HH.out
 clear HH
 refine (GI mb _ (s+14) i IJ w1 E1.2 (R1.mono (by omega)) Z7).mono ?_
 rintro e w2 ⟨he,k2⟩
 obtain⟨Ov,hv⟩:∃ x:Nat,x=s+14+3:=⟨_,rfl⟩
 have abB:Ov < 256:=by omega
 have he2:e=.returned (rV Ov):=by rw[hv];exact he
 have ZQ:Hid (Ov=s+14+3):=hv
 clear he hv
 subst he2
 have E2:ah w w2 mb ((L++iK s a b c)++eH (s+14) IJ) (s+18) (i):=ah.trans E1 k2
 have R2:Room ((L++iK s a b c)++eH (s+14) IJ) (s+18) 20:=Room.app 4 (k:=20) R1 (Nat.le_of_eq rfl)
 replace bg:=aB.kp bg k2.1
 replace bA:=aB.kp bA k2.1
 replace dF:=aB.kp dF k2.1
 replace hsz:=Nat.le_trans hsz k2.1.size
 clear k2 E1 R1
 obtain⟨fB,fC,fD⟩:=cells3 bg
 obtain⟨fE,fF,fG⟩:=cells3 bA
 obtain⟨kF,kG,kH⟩:=cells3 dF
 have HH:Hid _:=zI E2 (zI hsz (zI bg (zI bA dF)))
 clear E2 hsz bg bA dF
 go_wp2_with fail
 clear fB fC fD fE fF fG kF kG kH
 obtain⟨E2,hsz,bg,bA,dF⟩:=HH.out
 clear HH
 refine (qh mb _ (s+18) i b a w2 E2.2 (R2.mono (by omega)) ⟨qI,qJ,pI⟩ ⟨pF,pG,nM⟩).mono ?_
 rintro e w3 ⟨rfl,k3⟩
 have E3:ah w w3 mb (((L++iK s a b c)++eH (s+14) IJ)++dh (s+18) b a) (s+25) (i):=ah.trans E2 k3
 have R3:Room (((L++iK s a b c)++eH (s+14) IJ)++dh (s+18) b a) (s+25) 13:=Room.app 7 (k:=13) R2 (Nat.le_of_eq rfl)
 replace bg:=aB.kp bg k3.1
 replace bA:=aB.kp bA k3.1
 replace dF:=aB.kp dF k3.1
 replace hsz:=Nat.le_trans hsz k3.1.size
 clear k3 E2 R2
 have fM:kT (w3.alloc (.cells #[rV (aD (s+18)).x,rV (aD (s+18)).y,rV (aD (s+18)).w] 84)) w3.heap.size (aD (s+18)):=heap_alloc_new w3 _
 replace E3:=E3.al (.cells #[rV (aD (s+18)).x,rV (aD (s+18)).y,rV (aD (s+18)).w] 84)
 replace bg:=aB.al bg (.cells #[rV (aD (s+18)).x,rV (aD (s+18)).y,rV (aD (s+18)).w] 84)
 replace bA:=aB.al bA (.cells #[rV (aD (s+18)).x,rV (aD (s+18)).y,rV (aD (s+18)).w] 84)
 replace dF:=aB.al dF (.cells #[rV (aD (s+18)).x,rV (aD (s+18)).y,rV (aD (s+18)).w] 84)
 replace hsz:_<=(w3.alloc (.cells #[rV (aD (s+18)).x,rV (aD (s+18)).y,rV (aD (s+18)).w] 84)).heap.size:=Nat.le_trans hsz (by simp)
 obtain⟨fB,fC,fD⟩:=cells3 bg
 obtain⟨fE,fF,fG⟩:=cells3 bA
 obtain⟨kF,kG,kH⟩:=cells3 dF
 obtain⟨mO,mQ,mR⟩:=cells3 fM
 have HH:Hid _:=zI E3 (zI hsz (zI bg (zI bA (zI dF fM))))
 clear E3 hsz bg bA dF fM
 go_wp2_with fail
 generalize w3.alloc (.cells #[rV (aD (s+18)).x,rV (aD (s+18)).y,rV (aD (s+18)).w] 84)=w3b at *
 clear fB fC fD fE fF fG kF kG kH mO mQ mR
 obtain⟨E3,hsz,bg,bA,dF,fM⟩:=HH.out
 clear HH
 refine (qh mb _ (s+25) i b c w3b E3.2 (R3.mono (by omega)) ⟨qI,qJ,pI⟩ ⟨FX,FY,FW⟩).mono ?_
 rintro e w4 ⟨rfl,k4⟩
 have E4:ah w w4 mb ((((L++iK s a b c)++eH (s+14) IJ)++dh (s+18) b a)++dh (s+25) b c) (s+32) (i):=ah.trans E3 k4
 have R4:Room ((((L++iK s a b c)++eH (s+14) IJ)++dh (s+18) b a)++dh (s+25) b c) (s+32) 6:=Room.app 7 (k:=6) R3 (Nat.le_of_eq rfl)
 replace bg:=aB.kp bg k4.1
 replace bA:=aB.kp bA k4.1
 replace dF:=aB.kp dF k4.1
 replace fM:=aB.kp fM k4.1
 replace hsz:=Nat.le_trans hsz k4.1.size
 clear k4 E3 R3
 have bE:kT (w4.alloc (.cells #[rV (aD (s+25)).x,rV (aD (s+25)).y,rV (aD (s+25)).w] 84)) w4.heap.size (aD (s+25)):=heap_alloc_new w4 _
 replace E4:=E4.al (.cells #[rV (aD (s+25)).x,rV (aD (s+25)).y,rV (aD (s+25)).w] 84)
 replace bg:=aB.al bg (.cells #[rV (aD (s+25)).x,rV (aD (s+25)).y,rV (aD (s+25)).w] 84)
 replace bA:=aB.al bA (.cells #[rV (aD (s+25)).x,rV (aD (s+25)).y,rV (aD (s+25)).w] 84)
 replace dF:=aB.al dF (.cells #[rV (aD (s+25)).x,rV (aD (s+25)).y,rV (aD (s+25)).w] 84)
 replace fM:=aB.al fM (.cells #[rV (aD (s+25)).x,rV (aD (s+25)).y,rV (aD (s+25)).w] 84)
 replace hsz:_<=(w4.alloc (.cells #[rV (aD (s+25)).x,rV (aD (s+25)).y,rV (aD (s+25)).w] 84)).heap.size:=Nat.le_trans hsz (by simp)
 obtain⟨fB,fC,fD⟩:=cells3 bg
 obtain⟨fE,fF,fG⟩:=cells3 bA
 obtain⟨kF,kG,kH⟩:=cells3 dF
 obtain⟨mO,mQ,mR⟩:=cells3 fM
 obtain⟨vC,vD,vE⟩:=cells3 bE
 have HH:Hid _:=zI E4 (zI hsz (zI bg (zI bA (zI dF (zI fM bE)))))
 clear E4 hsz bg bA dF fM bE
 go_wp2_with fail
 generalize w4.alloc (.cells #[rV (aD (s+25)).x,rV (aD (s+25)).y,rV (aD (s+25)).w] 84)=w4b at *
 clear fB fC fD fE fF fG kF kG kH mO mQ mR vC vD vE
 obtain⟨E4,hsz,bg,bA,dF,fM,bE⟩:=HH.out
 clear HH
 refine (nk mb _ (s+32) i (s+20) (s+27) (s+23) (s+30) w4b E4.2 (R4.mono (by omega)) (by omega) (by omega) (by omega) (by omega)).mono ?_
 rintro e w5 ⟨he,k5⟩
 obtain⟨Ig,hv⟩:∃ x:Nat,x=s+32+2:=⟨_,rfl⟩
 have abC:Ig < 256:=by omega
 have he2:e=.returned (rV Ig):=by rw[hv];exact he
 have ZR:Hid (Ig=s+32+2):=hv
 clear he hv
 subst he2
 have E5:ah w w5 mb (((((L++iK s a b c)++eH (s+14) IJ)++dh (s+18) b a)++dh (s+25) b c)++bJ (s+32) (s+20) (s+27) (s+23) (s+30)) (s+35) (i):=ah.trans E4 k5
 have R5:Room (((((L++iK s a b c)++eH (s+14) IJ)++dh (s+18) b a)++dh (s+25) b c)++bJ (s+32) (s+20) (s+27) (s+23) (s+30)) (s+35) 3:=Room.app 3 (k:=3) R4 (Nat.le_of_eq rfl)
 replace bg:=aB.kp bg k5.1
 replace bA:=aB.kp bA k5.1
 replace dF:=aB.kp dF k5.1
 replace fM:=aB.kp fM k5.1
 replace bE:=aB.kp bE k5.1
 replace hsz:=Nat.le_trans hsz k5.1.size
 clear k5 E4 R4
 obtain⟨fB,fC,fD⟩:=cells3 bg
 obtain⟨fE,fF,fG⟩:=cells3 bA
 obtain⟨kF,kG,kH⟩:=cells3 dF
 obtain⟨mO,mQ,mR⟩:=cells3 fM
 obtain⟨vC,vD,vE⟩:=cells3 bE
 have HH:Hid _:=zI E5 (zI hsz (zI bg (zI bA (zI dF (zI fM bE)))))
 clear E5 hsz bg bA dF fM bE
 go_wp2_with fail
 clear fB fC fD fE fF fG kF kG kH mO mQ mR vC vD vE
 obtain⟨E5,hsz,bg,bA,dF,fM,bE⟩:=HH.out
 clear HH
 refine (AJ mb _ (s+35) i Ig w5 E5.2 (R5.mono (by omega)) abC).mono ?_
 rintro e w6 ⟨he,k6⟩
 obtain⟨Ou,hv⟩:∃ x:Nat,x=s+35+1:=⟨_,rfl⟩
 have abA:Ou < 256:=by omega
 have he2:e=.returned (rV Ou):=by rw[hv];exact he
 have ZP:Hid (Ou=s+35+1):=hv
 clear he hv
 subst he2
 have E6:ah w w6 mb ((((((L++iK s a b c)++eH (s+14) IJ)++dh (s+18) b a)++dh (s+25) b c)++bJ (s+32) (s+20) (s+27) (s+23) (s+30))++negL (s+35) Ig) (s+37) (i):=ah.trans E5 k6
 have R6:Room ((((((L++iK s a b c)++eH (s+14) IJ)++dh (s+18) b a)++dh (s+25) b c)++bJ (s+32) (s+20) (s+27) (s+23) (s+30))++negL (s+35) Ig) (s+37) 1:=Room.app 2 (k:=1) R5 (Nat.le_of_eq rfl)
 replace bg:=aB.kp bg k6.1
 replace bA:=aB.kp bA k6.1
 replace dF:=aB.kp dF k6.1
 replace fM:=aB.kp fM k6.1
 replace bE:=aB.kp bE k6.1
 replace hsz:=Nat.le_trans hsz k6.1.size
 clear k6 E5 R5
 obtain⟨fB,fC,fD⟩:=cells3 bg
 obtain⟨fE,fF,fG⟩:=cells3 bA
 obtain⟨kF,kG,kH⟩:=cells3 dF
 obtain⟨mO,mQ,mR⟩:=cells3 fM
 obtain⟨vC,vD,vE⟩:=cells3 bE
 have HH:Hid _:=zI E6 (zI hsz (zI bg (zI bA (zI dF (zI fM bE)))))
 clear E6 hsz bg bA dF fM bE
 go_wp2_with fail
 clear fB fC fD fE fF fG kF kG kH mO mQ mR vC vD vE
 obtain⟨E6,hsz,bg,bA,dF,fM,bE⟩:=HH.out
 clear HH
 refine (fU mb _ (s+37) i Ov Ou w6 E6.2 (R6.mono (by omega)) abB abA).mono ?_
 rintro e w7 ⟨rfl,k7⟩
 have E7:ah w w7 mb (((((((L++iK s a b c)++eH (s+14) IJ)++dh (s+18) b a)++dh (s+25) b c)++bJ (s+32) (s+20) (s+27) (s+23) (s+30))++negL (s+35) Ig)++[⟨4,s+37,Ov,Ou⟩]) (s+38) (i):=ah.trans E6 k7
 replace bg:=aB.kp bg k7.1
 replace bA:=aB.kp bA k7.1
 replace dF:=aB.kp dF k7.1
 replace fM:=aB.kp fM k7.1
 replace bE:=aB.kp bE k7.1
 replace hsz:=Nat.le_trans hsz k7.1.size
 clear k7 E6 R6
 have HE:Hid _:=E7
 clear E7 bg bA dF fM bE
 go_wp2
 go_ret
 have hL:(((((((L++iK s a b c)++eH (s+14) IJ)++dh (s+18) b a)++dh (s+25) b c)++bJ (s+32) (s+20) (s+27) (s+23) (s+30))++negL (s+35) Ig)++[⟨4,s+37,Ov,Ou⟩])=L++zV s a b c:=by
  have e_v:=abz.out
  have abL:=ZQ.out
  have abM:=ZR.out
  have abK:=ZP.out
  subst e_v abL abM abK
  simp only[List.append_assoc]
  rfl
 exact⟨rfl,by rw[<- hL];exact HE.out⟩
theorem Ri (mb:Nat) (L:List Stp) (s i:Nat) (a b c d:Tr) (w:World) (hM:dS w mb L s i) (hroom:Room L s 50) (nL:S8 a) (oI:S8 b) (h_c:S8 c) (h_d:S8 d) :
  Calls Tryz.prog 128 #[mP mb,dZ a,dZ b,dZ c,dZ d] w fun e w'=>e=.returned (rV (s+49))/\ah w w' mb (L++BI s a b c d) (s+50) (i+0):=by
 obtain⟨pF,pG,nM⟩:=nL
 obtain⟨qI,qJ,pI⟩:=oI
 obtain⟨FX,FY,FW⟩:=h_c
 obtain⟨ab3,ab4,ab2⟩:=h_d
 have r2:=hroom.2
 have E0:ah w (((((((w.alloc (aS a))).alloc (aS b))).alloc (aS c))).alloc (aS d)) mb L s i:=(ah.al (ah.al (ah.al (ah.al (show ah w w mb L s i from ⟨Kp.refl mb w,hM⟩) _) _) _) _)
 have bg:kT (((((((w.alloc (aS a))).alloc (aS b))).alloc (aS c))).alloc (aS d)) (w.heap.size) a:=by
  have h:=heap_alloc_new w (aS a)
  exact (aB.al (aB.al (aB.al h _) _) _)
 have bA:kT (((((((w.alloc (aS a))).alloc (aS b))).alloc (aS c))).alloc (aS d)) (w.heap.size+1) b:=by
  have h:=heap_alloc_new (w.alloc (aS a)) (aS b)
  simp only[bG]at h
  exact (aB.al (aB.al h _) _)
 have dF:kT (((((((w.alloc (aS a))).alloc (aS b))).alloc (aS c))).alloc (aS d)) (w.heap.size+1+1) c:=by
  have h:=heap_alloc_new (((w.alloc (aS a))).alloc (aS b)) (aS c)
  simp only[bG]at h
  exact (aB.al h _)
 have mH:kT (((((((w.alloc (aS a))).alloc (aS b))).alloc (aS c))).alloc (aS d)) (w.heap.size+1+1+1) d:=by
  have h:=heap_alloc_new (((((w.alloc (aS a))).alloc (aS b))).alloc (aS c)) (aS d)
  simp only[bG]at h
  exact h
 have hsz:w.heap.size+4<=((((((((w.alloc (aS a))).alloc (aS b))).alloc (aS c))).alloc (aS d))).heap.size:=by simp only[bG];omega
 go_in
 go_wp2_with fail
 generalize ((((w.alloc (.cells #[rV a.x,rV a.y,rV a.w] 84)).alloc (.cells #[rV b.x,rV b.y,rV b.w] 84)).alloc (.cells #[rV c.x,rV c.y,rV c.w] 84)).alloc (.cells #[rV d.x,rV d.y,rV d.w] 84))=w0 at *
 refine (qh mb _ s i a b w0 E0.2 (hroom.mono (by omega)) ⟨pF,pG,nM⟩ ⟨qI,qJ,pI⟩).mono ?_
 rintro e w1 ⟨rfl,k1⟩
 have E1:ah w w1 mb (L++dh s a b) (s+7) (i):=ah.trans E0 k1
 have R1:Room (L++dh s a b) (s+7) 43:=Room.app 7 (k:=43) hroom (Nat.le_of_eq rfl)
 replace bg:=aB.kp bg k1.1
 replace bA:=aB.kp bA k1.1
 replace dF:=aB.kp dF k1.1
 replace mH:=aB.kp mH k1.1
 replace hsz:=Nat.le_trans hsz k1.1.size
 clear k1 E0 hroom
 have eZ:kT (w1.alloc (.cells #[rV (aD s).x,rV (aD s).y,rV (aD s).w] 84)) w1.heap.size (aD s):=heap_alloc_new w1 _
 replace E1:=E1.al (.cells #[rV (aD s).x,rV (aD s).y,rV (aD s).w] 84)
 replace bg:=aB.al bg (.cells #[rV (aD s).x,rV (aD s).y,rV (aD s).w] 84)
 replace bA:=aB.al bA (.cells #[rV (aD s).x,rV (aD s).y,rV (aD s).w] 84)
 replace dF:=aB.al dF (.cells #[rV (aD s).x,rV (aD s).y,rV (aD s).w] 84)
 replace mH:=aB.al mH (.cells #[rV (aD s).x,rV (aD s).y,rV (aD s).w] 84)
 replace hsz:_<=(w1.alloc (.cells #[rV (aD s).x,rV (aD s).y,rV (aD s).w] 84)).heap.size:=Nat.le_trans hsz (by simp)
 obtain⟨fB,fC,fD⟩:=cells3 bg
 obtain⟨fE,fF,fG⟩:=cells3 bA
 obtain⟨kF,kG,kH⟩:=cells3 dF
 obtain⟨Bf,Bg,Bh⟩:=cells3 mH
 obtain⟨sO,sQ,sS⟩:=cells3 eZ
 have HH:Hid _:=zI E1 (zI hsz (zI bg (zI bA (zI dF (zI mH eZ)))))
 clear E1 hsz bg bA dF mH eZ
 go_wp2_with fail
 generalize w1.alloc (.cells #[rV (aD s).x,rV (aD s).y,rV (aD s).w] 84)=IL at *
 clear fB fC fD fE fF fG kF kG kH Bf Bg Bh sO sQ sS
 obtain⟨E1,hsz,bg,bA,dF,mH,eZ⟩:=HH.out
 clear HH
 refine (qh mb _ (s+7) i a c IL E1.2 (R1.mono (by omega)) ⟨pF,pG,nM⟩ ⟨FX,FY,FW⟩).mono ?_
 rintro e w2 ⟨rfl,k2⟩
 have E2:ah w w2 mb ((L++dh s a b)++dh (s+7) a c) (s+14) (i):=ah.trans E1 k2
 have R2:Room ((L++dh s a b)++dh (s+7) a c) (s+14) 36:=Room.app 7 (k:=36) R1 (Nat.le_of_eq rfl)
 replace bg:=aB.kp bg k2.1
 replace bA:=aB.kp bA k2.1
 replace dF:=aB.kp dF k2.1
 replace mH:=aB.kp mH k2.1
 replace eZ:=aB.kp eZ k2.1
 replace hsz:=Nat.le_trans hsz k2.1.size
 clear k2 E1 R1
 have ig:kT (w2.alloc (.cells #[rV (aD (s+7)).x,rV (aD (s+7)).y,rV (aD (s+7)).w] 84)) w2.heap.size (aD (s+7)):=heap_alloc_new w2 _
 replace E2:=E2.al (.cells #[rV (aD (s+7)).x,rV (aD (s+7)).y,rV (aD (s+7)).w] 84)
 replace bg:=aB.al bg (.cells #[rV (aD (s+7)).x,rV (aD (s+7)).y,rV (aD (s+7)).w] 84)
 replace bA:=aB.al bA (.cells #[rV (aD (s+7)).x,rV (aD (s+7)).y,rV (aD (s+7)).w] 84)
 replace dF:=aB.al dF (.cells #[rV (aD (s+7)).x,rV (aD (s+7)).y,rV (aD (s+7)).w] 84)
 replace mH:=aB.al mH (.cells #[rV (aD (s+7)).x,rV (aD (s+7)).y,rV (aD (s+7)).w] 84)
 replace eZ:=aB.al eZ (.cells #[rV (aD (s+7)).x,rV (aD (s+7)).y,rV (aD (s+7)).w] 84)
 replace hsz:_<=(w2.alloc (.cells #[rV (aD (s+7)).x,rV (aD (s+7)).y,rV (aD (s+7)).w] 84)).heap.size:=Nat.le_trans hsz (by simp)
 obtain⟨fB,fC,fD⟩:=cells3 bg
 obtain⟨fE,fF,fG⟩:=cells3 bA
 obtain⟨kF,kG,kH⟩:=cells3 dF
 obtain⟨Bf,Bg,Bh⟩:=cells3 mH
 obtain⟨sO,sQ,sS⟩:=cells3 eZ
 obtain⟨wM,wN,wO⟩:=cells3 ig
 have HH:Hid _:=zI E2 (zI hsz (zI bg (zI bA (zI dF (zI mH (zI eZ ig))))))
 clear E2 hsz bg bA dF mH eZ ig
 go_wp2_with fail
 generalize w2.alloc (.cells #[rV (aD (s+7)).x,rV (aD (s+7)).y,rV (aD (s+7)).w] 84)=w2b at *
 clear fB fC fD fE fF fG kF kG kH Bf Bg Bh sO sQ sS wM wN wO
 obtain⟨E2,hsz,bg,bA,dF,mH,eZ,ig⟩:=HH.out
 clear HH
 refine (qh mb _ (s+14) i a d w2b E2.2 (R2.mono (by omega)) ⟨pF,pG,nM⟩ ⟨ab3,ab4,ab2⟩).mono ?_
 rintro e w3 ⟨rfl,k3⟩
 have E3:ah w w3 mb (((L++dh s a b)++dh (s+7) a c)++dh (s+14) a d) (s+21) (i):=ah.trans E2 k3
 have R3:Room (((L++dh s a b)++dh (s+7) a c)++dh (s+14) a d) (s+21) 29:=Room.app 7 (k:=29) R2 (Nat.le_of_eq rfl)
 replace bg:=aB.kp bg k3.1
 replace bA:=aB.kp bA k3.1
 replace dF:=aB.kp dF k3.1
 replace mH:=aB.kp mH k3.1
 replace eZ:=aB.kp eZ k3.1
 replace ig:=aB.kp ig k3.1
 replace hsz:=Nat.le_trans hsz k3.1.size
 clear k3 E2 R2
 have iN:kT (w3.alloc (.cells #[rV (aD (s+14)).x,rV (aD (s+14)).y,rV (aD (s+14)).w] 84)) w3.heap.size (aD (s+14)):=heap_alloc_new w3 _
 replace E3:=E3.al (.cells #[rV (aD (s+14)).x,rV (aD (s+14)).y,rV (aD (s+14)).w] 84)
 replace bg:=aB.al bg (.cells #[rV (aD (s+14)).x,rV (aD (s+14)).y,rV (aD (s+14)).w] 84)
 replace bA:=aB.al bA (.cells #[rV (aD (s+14)).x,rV (aD (s+14)).y,rV (aD (s+14)).w] 84)
 replace dF:=aB.al dF (.cells #[rV (aD (s+14)).x,rV (aD (s+14)).y,rV (aD (s+14)).w] 84)
 replace mH:=aB.al mH (.cells #[rV (aD (s+14)).x,rV (aD (s+14)).y,rV (aD (s+14)).w] 84)
 replace eZ:=aB.al eZ (.cells #[rV (aD (s+14)).x,rV (aD (s+14)).y,rV (aD (s+14)).w] 84)
 replace ig:=aB.al ig (.cells #[rV (aD (s+14)).x,rV (aD (s+14)).y,rV (aD (s+14)).w] 84)
 replace hsz:_<=(w3.alloc (.cells #[rV (aD (s+14)).x,rV (aD (s+14)).y,rV (aD (s+14)).w] 84)).heap.size:=Nat.le_trans hsz (by simp)
 obtain⟨fB,fC,fD⟩:=cells3 bg
 obtain⟨fE,fF,fG⟩:=cells3 bA
 obtain⟨kF,kG,kH⟩:=cells3 dF
 obtain⟨Bf,Bg,Bh⟩:=cells3 mH
 obtain⟨sO,sQ,sS⟩:=cells3 eZ
 obtain⟨wM,wN,wO⟩:=cells3 ig
 obtain⟨Bj,Bl,Bn⟩:=cells3 iN
 have HH:Hid _:=zI E3 (zI hsz (zI bg (zI bA (zI dF (zI mH (zI eZ (zI ig iN)))))))
 clear E3 hsz bg bA dF mH eZ ig iN
 go_wp2_with fail
 generalize w3.alloc (.cells #[rV (aD (s+14)).x,rV (aD (s+14)).y,rV (aD (s+14)).w] 84)=w3b at *
 clear fB fC fD fE fF fG kF kG kH Bf Bg Bh sO sQ sS wM wN wO Bj Bl Bn
 obtain⟨E3,hsz,bg,bA,dF,mH,eZ,ig,iN⟩:=HH.out
 clear HH
 refine (AB mb _ (s+21) i (aD s) w3b E3.2 (R3.mono (by omega)) ⟨by show s+2 < 256;first | exact (by omega) | omega,by show s+5 < 256;first | exact (by omega) | omega,by show s+6 < 256;first | exact (by omega) | omega⟩).mono ?_
 rintro e w4 ⟨rfl,k4⟩
 have E4:ah w w4 mb ((((L++dh s a b)++dh (s+7) a c)++dh (s+14) a d)++lH (s+21) (aD s)) (s+26) (i):=ah.trans E3 k4
 have R4:Room ((((L++dh s a b)++dh (s+7) a c)++dh (s+14) a d)++lH (s+21) (aD s)) (s+26) 24:=Room.app 5 (k:=24) R3 (Nat.le_of_eq rfl)
 replace bg:=aB.kp bg k4.1
 replace bA:=aB.kp bA k4.1
 replace dF:=aB.kp dF k4.1
 replace mH:=aB.kp mH k4.1
 replace eZ:=aB.kp eZ k4.1
 replace ig:=aB.kp ig k4.1
 replace iN:=aB.kp iN k4.1
 replace hsz:=Nat.le_trans hsz k4.1.size
 clear k4 E3 R3
 have nJ:kT (w4.alloc (.cells #[rV (aR (s+21)).x,rV (aR (s+21)).y,rV (aR (s+21)).w] 84)) w4.heap.size (aR (s+21)):=heap_alloc_new w4 _
 replace E4:=E4.al (.cells #[rV (aR (s+21)).x,rV (aR (s+21)).y,rV (aR (s+21)).w] 84)
 replace bg:=aB.al bg (.cells #[rV (aR (s+21)).x,rV (aR (s+21)).y,rV (aR (s+21)).w] 84)
 replace bA:=aB.al bA (.cells #[rV (aR (s+21)).x,rV (aR (s+21)).y,rV (aR (s+21)).w] 84)
 replace dF:=aB.al dF (.cells #[rV (aR (s+21)).x,rV (aR (s+21)).y,rV (aR (s+21)).w] 84)
 replace mH:=aB.al mH (.cells #[rV (aR (s+21)).x,rV (aR (s+21)).y,rV (aR (s+21)).w] 84)
 replace eZ:=aB.al eZ (.cells #[rV (aR (s+21)).x,rV (aR (s+21)).y,rV (aR (s+21)).w] 84)
 replace ig:=aB.al ig (.cells #[rV (aR (s+21)).x,rV (aR (s+21)).y,rV (aR (s+21)).w] 84)
 replace iN:=aB.al iN (.cells #[rV (aR (s+21)).x,rV (aR (s+21)).y,rV (aR (s+21)).w] 84)
 replace hsz:_<=(w4.alloc (.cells #[rV (aR (s+21)).x,rV (aR (s+21)).y,rV (aR (s+21)).w] 84)).heap.size:=Nat.le_trans hsz (by simp)
 obtain⟨fB,fC,fD⟩:=cells3 bg
 obtain⟨fE,fF,fG⟩:=cells3 bA
 obtain⟨kF,kG,kH⟩:=cells3 dF
 obtain⟨Bf,Bg,Bh⟩:=cells3 mH
 obtain⟨sO,sQ,sS⟩:=cells3 eZ
 obtain⟨wM,wN,wO⟩:=cells3 ig
 obtain⟨Bj,Bl,Bn⟩:=cells3 iN
 obtain⟨G7,G8,G9⟩:=cells3 nJ
 have HH:Hid _:=zI E4 (zI hsz (zI bg (zI bA (zI dF (zI mH (zI eZ (zI ig (zI iN nJ))))))))
 clear E4 hsz bg bA dF mH eZ ig iN nJ
 go_wp2_with fail
 generalize w4.alloc (.cells #[rV (aR (s+21)).x,rV (aR (s+21)).y,rV (aR (s+21)).w] 84)=w4b at *
 clear fB fC fD fE fF fG kF kG kH Bf Bg Bh sO sQ sS wM wN wO Bj Bl Bn G7 G8 G9
 obtain⟨E4,hsz,bg,bA,dF,mH,eZ,ig,iN,nJ⟩:=HH.out
 clear HH
 refine (AB mb _ (s+26) i (aD (s+7)) w4b E4.2 (R4.mono (by omega)) ⟨by show s+9 < 256;first | exact (by omega) | omega,by show s+12 < 256;first | exact (by omega) | omega,by show s+13 < 256;first | exact (by omega) | omega⟩).mono ?_
 rintro e w5 ⟨rfl,k5⟩
 have E5:ah w w5 mb (((((L++dh s a b)++dh (s+7) a c)++dh (s+14) a d)++lH (s+21) (aD s))++lH (s+26) (aD (s+7))) (s+31) (i):=ah.trans E4 k5
 have R5:Room (((((L++dh s a b)++dh (s+7) a c)++dh (s+14) a d)++lH (s+21) (aD s))++lH (s+26) (aD (s+7))) (s+31) 19:=Room.app 5 (k:=19) R4 (Nat.le_of_eq rfl)
 replace bg:=aB.kp bg k5.1
 replace bA:=aB.kp bA k5.1
 replace dF:=aB.kp dF k5.1
 replace mH:=aB.kp mH k5.1
 replace eZ:=aB.kp eZ k5.1
 replace ig:=aB.kp ig k5.1
 replace iN:=aB.kp iN k5.1
 replace nJ:=aB.kp nJ k5.1
 replace hsz:=Nat.le_trans hsz k5.1.size
 clear k5 E4 R4
 have uU:kT (w5.alloc (.cells #[rV (aR (s+26)).x,rV (aR (s+26)).y,rV (aR (s+26)).w] 84)) w5.heap.size (aR (s+26)):=heap_alloc_new w5 _
 replace E5:=E5.al (.cells #[rV (aR (s+26)).x,rV (aR (s+26)).y,rV (aR (s+26)).w] 84)
 replace bg:=aB.al bg (.cells #[rV (aR (s+26)).x,rV (aR (s+26)).y,rV (aR (s+26)).w] 84)
 replace bA:=aB.al bA (.cells #[rV (aR (s+26)).x,rV (aR (s+26)).y,rV (aR (s+26)).w] 84)
 replace dF:=aB.al dF (.cells #[rV (aR (s+26)).x,rV (aR (s+26)).y,rV (aR (s+26)).w] 84)
 replace mH:=aB.al mH (.cells #[rV (aR (s+26)).x,rV (aR (s+26)).y,rV (aR (s+26)).w] 84)
 replace eZ:=aB.al eZ (.cells #[rV (aR (s+26)).x,rV (aR (s+26)).y,rV (aR (s+26)).w] 84)
 replace ig:=aB.al ig (.cells #[rV (aR (s+26)).x,rV (aR (s+26)).y,rV (aR (s+26)).w] 84)
 replace iN:=aB.al iN (.cells #[rV (aR (s+26)).x,rV (aR (s+26)).y,rV (aR (s+26)).w] 84)
 replace nJ:=aB.al nJ (.cells #[rV (aR (s+26)).x,rV (aR (s+26)).y,rV (aR (s+26)).w] 84)
 replace hsz:_<=(w5.alloc (.cells #[rV (aR (s+26)).x,rV (aR (s+26)).y,rV (aR (s+26)).w] 84)).heap.size:=Nat.le_trans hsz (by simp)
 obtain⟨fB,fC,fD⟩:=cells3 bg
 obtain⟨fE,fF,fG⟩:=cells3 bA
 obtain⟨kF,kG,kH⟩:=cells3 dF
 obtain⟨Bf,Bg,Bh⟩:=cells3 mH
 obtain⟨sO,sQ,sS⟩:=cells3 eZ
 obtain⟨wM,wN,wO⟩:=cells3 ig
 obtain⟨Bj,Bl,Bn⟩:=cells3 iN
 obtain⟨G7,G8,G9⟩:=cells3 nJ
 obtain⟨R8,R9,Sb⟩:=cells3 uU
 have HH:Hid _:=zI E5 (zI hsz (zI bg (zI bA (zI dF (zI mH (zI eZ (zI ig (zI iN (zI nJ uU)))))))))
 clear E5 hsz bg bA dF mH eZ ig iN nJ uU
 go_wp2_with fail
 generalize w5.alloc (.cells #[rV (aR (s+26)).x,rV (aR (s+26)).y,rV (aR (s+26)).w] 84)=w5b at *
 clear fB fC fD fE fF fG kF kG kH Bf Bg Bh sO sQ sS wM wN wO Bj Bl Bn G7 G8 G9 R8 R9 Sb
 obtain⟨E5,hsz,bg,bA,dF,mH,eZ,ig,iN,nJ,uU⟩:=HH.out
 clear HH
 refine (AB mb _ (s+31) i (aD (s+14)) w5b E5.2 (R5.mono (by omega)) ⟨by show s+16 < 256;first | exact (by omega) | omega,by show s+19 < 256;first | exact (by omega) | omega,by show s+20 < 256;first | exact (by omega) | omega⟩).mono ?_
 rintro e w6 ⟨rfl,k6⟩
 have E6:ah w w6 mb ((((((L++dh s a b)++dh (s+7) a c)++dh (s+14) a d)++lH (s+21) (aD s))++lH (s+26) (aD (s+7)))++lH (s+31) (aD (s+14))) (s+36) (i):=ah.trans E5 k6
 have R6:Room ((((((L++dh s a b)++dh (s+7) a c)++dh (s+14) a d)++lH (s+21) (aD s))++lH (s+26) (aD (s+7)))++lH (s+31) (aD (s+14))) (s+36) 14:=Room.app 5 (k:=14) R5 (Nat.le_of_eq rfl)
 replace bg:=aB.kp bg k6.1
 replace bA:=aB.kp bA k6.1
 replace dF:=aB.kp dF k6.1
 replace mH:=aB.kp mH k6.1
 replace eZ:=aB.kp eZ k6.1
 replace ig:=aB.kp ig k6.1
 replace iN:=aB.kp iN k6.1
 replace nJ:=aB.kp nJ k6.1
 replace uU:=aB.kp uU k6.1
 replace hsz:=Nat.le_trans hsz k6.1.size
 clear k6 E5 R5
 have Jp:kT (w6.alloc (.cells #[rV (aR (s+31)).x,rV (aR (s+31)).y,rV (aR (s+31)).w] 84)) w6.heap.size (aR (s+31)):=heap_alloc_new w6 _
 replace E6:=E6.al (.cells #[rV (aR (s+31)).x,rV (aR (s+31)).y,rV (aR (s+31)).w] 84)
 replace bg:=aB.al bg (.cells #[rV (aR (s+31)).x,rV (aR (s+31)).y,rV (aR (s+31)).w] 84)
 replace bA:=aB.al bA (.cells #[rV (aR (s+31)).x,rV (aR (s+31)).y,rV (aR (s+31)).w] 84)
 replace dF:=aB.al dF (.cells #[rV (aR (s+31)).x,rV (aR (s+31)).y,rV (aR (s+31)).w] 84)
 replace mH:=aB.al mH (.cells #[rV (aR (s+31)).x,rV (aR (s+31)).y,rV (aR (s+31)).w] 84)
 replace eZ:=aB.al eZ (.cells #[rV (aR (s+31)).x,rV (aR (s+31)).y,rV (aR (s+31)).w] 84)
 replace ig:=aB.al ig (.cells #[rV (aR (s+31)).x,rV (aR (s+31)).y,rV (aR (s+31)).w] 84)
 replace iN:=aB.al iN (.cells #[rV (aR (s+31)).x,rV (aR (s+31)).y,rV (aR (s+31)).w] 84)
 replace nJ:=aB.al nJ (.cells #[rV (aR (s+31)).x,rV (aR (s+31)).y,rV (aR (s+31)).w] 84)
 replace uU:=aB.al uU (.cells #[rV (aR (s+31)).x,rV (aR (s+31)).y,rV (aR (s+31)).w] 84)
 replace hsz:_<=(w6.alloc (.cells #[rV (aR (s+31)).x,rV (aR (s+31)).y,rV (aR (s+31)).w] 84)).heap.size:=Nat.le_trans hsz (by simp)
 obtain⟨fB,fC,fD⟩:=cells3 bg
 obtain⟨fE,fF,fG⟩:=cells3 bA
 obtain⟨kF,kG,kH⟩:=cells3 dF
 obtain⟨Bf,Bg,Bh⟩:=cells3 mH
 obtain⟨sO,sQ,sS⟩:=cells3 eZ
 obtain⟨wM,wN,wO⟩:=cells3 ig
 obtain⟨Bj,Bl,Bn⟩:=cells3 iN
 obtain⟨G7,G8,G9⟩:=cells3 nJ
 obtain⟨R8,R9,Sb⟩:=cells3 uU
 obtain⟨aa8,aa9,abb⟩:=cells3 Jp
 have HH:Hid _:=zI E6 (zI hsz (zI bg (zI bA (zI dF (zI mH (zI eZ (zI ig (zI iN (zI nJ (zI uU Jp))))))))))
 clear E6 hsz bg bA dF mH eZ ig iN nJ uU Jp
 go_wp2_with fail
 generalize w6.alloc (.cells #[rV (aR (s+31)).x,rV (aR (s+31)).y,rV (aR (s+31)).w] 84)=w6b at *
 clear fB fC fD fE fF fG kF kG kH Bf Bg Bh sO sQ sS wM wN wO Bj Bl Bn G7 G8 G9 R8 R9 Sb aa8 aa9 abb
 obtain⟨E6,hsz,bg,bA,dF,mH,eZ,ig,iN,nJ,uU,Jp⟩:=HH.out
 clear HH
 refine (sF mb _ (s+36) i (aR (s+21)) (aR (s+26)) (aR (s+31)) w6b E6.2 (R6.mono (by omega)) ⟨by show s+21 < 256;first | exact (by omega) | omega,by show s+22 < 256;first | exact (by omega) | omega,by show s+25 < 256;first | exact (by omega) | omega⟩ ⟨by show s+26 < 256;first | exact (by omega) | omega,by show s+27 < 256;first | exact (by omega) | omega,by show s+30 < 256;first | exact (by omega) | omega⟩ ⟨by show s+31 < 256;first | exact (by omega) | omega,by show s+32 < 256;first | exact (by omega) | omega,by show s+35 < 256;first | exact (by omega) | omega⟩).mono ?_
 rintro e w7 ⟨rfl,k7⟩
 have E7:ah w w7 mb (((((((L++dh s a b)++dh (s+7) a c)++dh (s+14) a d)++lH (s+21) (aD s))++lH (s+26) (aD (s+7)))++lH (s+31) (aD (s+14)))++iK (s+36) (aR (s+21)) (aR (s+26)) (aR (s+31))) (s+50) (i):=ah.trans E6 k7
 replace bg:=aB.kp bg k7.1
 replace bA:=aB.kp bA k7.1
 replace dF:=aB.kp dF k7.1
 replace mH:=aB.kp mH k7.1
 replace eZ:=aB.kp eZ k7.1
 replace ig:=aB.kp ig k7.1
 replace iN:=aB.kp iN k7.1
 replace nJ:=aB.kp nJ k7.1
 replace uU:=aB.kp uU k7.1
 replace Jp:=aB.kp Jp k7.1
 replace hsz:=Nat.le_trans hsz k7.1.size
 clear k7 E6 R6
 have HE:Hid _:=E7
 clear E7 bg bA dF mH eZ ig iN nJ uU Jp
 go_wp2
 go_ret
 have hL:(((((((L++dh s a b)++dh (s+7) a c)++dh (s+14) a d)++lH (s+21) (aD s))++lH (s+26) (aD (s+7)))++lH (s+31) (aD (s+14)))++iK (s+36) (aR (s+21)) (aR (s+26)) (aR (s+31)))=L++BI s a b c d:=by
  simp only[List.append_assoc]
  rfl
 exact⟨rfl,by rw[<- hL];exact HE.out⟩
abbrev vI (t:Th):Value:=.agg #[rV t.a.x,rV t.a.y,rV t.a.w,rV t.b.x,rV t.b.y,rV t.b.w,rV t.c.x,rV t.c.y,rV t.c.w,rV t.d.x,rV t.d.y,rV t.d.w]
abbrev kY (t:Th):Obj:=.cells #[rV t.a.x,rV t.a.y,rV t.a.w,rV t.b.x,rV t.b.y,rV t.b.w,rV t.c.x,rV t.c.y,rV t.c.w,rV t.d.x,rV t.d.y,rV t.d.w] 86
def iC (w:World) (k:Nat) (t:Th):Prop:=w.heap[k]?=some (kY t)
theorem iC.md {w w':World} {k:Nat} {t:Th} (h:iC w k t) (hk:Mod (fun _=>False) w w'):iC w' k t:=hk.keep h (fun f=>f)
theorem iC.kp {w w':World} {mb k:Nat} {t:Th} (h:iC w k t) (hk:Kp mb w w'):iC w' k t:=hk.keep h (by decide) (by decide)
theorem iC.al {w:World} {k:Nat} {t:Th} (h:iC w k t) (o:Obj):iC (w.alloc o) k t:=h.md ((Mod.refl _ w).alloc o)
theorem iC.new (w:World) (t:Th):iC (w.alloc (kY t)) w.heap.size t:=heap_alloc_new w _
structure abx (w:World) (k:Nat) (t:Th):Prop where
 c0:w.cell? ⟨k,0,none⟩=some (rV t.a.x)
 c1:w.cell? ⟨k,1,none⟩=some (rV t.a.y)
 c2:w.cell? ⟨k,2,none⟩=some (rV t.a.w)
 c3:w.cell? ⟨k,3,none⟩=some (rV t.b.x)
 c4:w.cell? ⟨k,4,none⟩=some (rV t.b.y)
 c5:w.cell? ⟨k,5,none⟩=some (rV t.b.w)
 c6:w.cell? ⟨k,6,none⟩=some (rV t.c.x)
 c7:w.cell? ⟨k,7,none⟩=some (rV t.c.y)
 c8:w.cell? ⟨k,8,none⟩=some (rV t.c.w)
 c9:w.cell? ⟨k,9,none⟩=some (rV t.d.x)
 c10:w.cell? ⟨k,10,none⟩=some (rV t.d.y)
 c11:w.cell? ⟨k,11,none⟩=some (rV t.d.w)
theorem iC.cs {w:World} {k:Nat} {t:Th} (h:iC w k t):abx w k t:=by
 unfold iC at h
 constructor<;>simp[World.cell?,h]
structure xB (t:Th):Prop where
 a:S8 t.a
 b:S8 t.b
 c:S8 t.c
 d:S8 t.d
theorem Q0 (mb:Nat) (L:List Stp) (s i:Nat) (t:Th) (w:World) (hM:dS w mb L s i) (hroom:Room L s 50) (h8:xB t) :
  Calls Tryz.prog 81 #[mP mb,S [99,111,110],vI t] w fun e w'=>e=.returned (rV (s+49))/\ah w w' mb (L++BI s t.a t.b t.c t.d) (s+50) i:=by
 have r2:=hroom.2
 have E0:ah w (w.alloc (kY t)) mb L s i:=ah.al (show ah w w mb L s i from ⟨Kp.refl mb w,hM⟩) _
 have bE:=iC.new w t
 obtain⟨c0,c1,c2,c3,c4,c5,c6,c7,c8,c9,c10,c11⟩:=bE.cs
 have HH:Hid _:=zI E0 bE
 clear E0 bE hM
 go_in
 go_wp2_with fail
 generalize w.alloc (.cells #[rV t.a.x,rV t.a.y,rV t.a.w,rV t.b.x,rV t.b.y,rV t.b.w,rV t.c.x,rV t.c.y,rV t.c.w,rV t.d.x,rV t.d.y,rV t.d.w] 86)=w0 at *
 clear c0 c1 c2 c3 c4 c5 c6 c7 c8 c9 c10 c11
 obtain⟨E0,bE⟩:=HH.out
 clear HH
 refine (Ri mb _ s i t.a t.b t.c t.d w0 E0.2 (hroom.mono (by omega)) h8.a h8.b h8.c h8.d).mono ?_
 rintro e w1 ⟨rfl,k1⟩
 have HE:Hid _:=ah.trans E0 k1
 clear k1 E0 bE
 go_wp2
 go_ret
 exact⟨rfl,HE.out⟩
theorem U8 (mb:Nat) (L:List Stp) (s i:Nat) (t:Th) (w:World) (hM:dS w mb L s i) (hroom:Room L s 5) (h8:xB t) :
  Calls Tryz.prog 81 #[mP mb,S [111,110],vI t] w fun e w'=>e=.returned (rV (s+4))/\ah w w' mb (L++vX s t.a t.b) (s+5) i:=by
 have r2:=hroom.2
 have E0:ah w (w.alloc (kY t)) mb L s i:=ah.al (show ah w w mb L s i from ⟨Kp.refl mb w,hM⟩) _
 have bE:=iC.new w t
 obtain⟨c0,c1,c2,c3,c4,c5,c6,c7,c8,c9,c10,c11⟩:=bE.cs
 have HH:Hid _:=zI E0 bE
 clear E0 bE hM
 go_in
 go_wp2_with fail
 generalize w.alloc (.cells #[rV t.a.x,rV t.a.y,rV t.a.w,rV t.b.x,rV t.b.y,rV t.b.w,rV t.c.x,rV t.c.y,rV t.c.w,rV t.d.x,rV t.d.y,rV t.d.w] 86)=w0 at *
 clear c0 c1 c2 c3 c4 c5 c6 c7 c8 c9 c10 c11
 obtain⟨E0,bE⟩:=HH.out
 clear HH
 refine (Gw mb _ s i t.a t.b w0 E0.2 (hroom.mono (by omega)) h8.a h8.b).mono ?_
 rintro e w1 ⟨rfl,k1⟩
 have HE:Hid _:=ah.trans E0 k1
 clear k1 E0 bE
 go_wp2
 go_ret
 exact⟨rfl,HE.out⟩
theorem Q5 (mb:Nat) (L:List Stp) (s i:Nat) (t:Th) (w:World) (hM:dS w mb L s i) (hroom:Room L s 3) (h8:xB t) :
  Calls Tryz.prog 81 #[mP mb,S [112,108,108],vI t] w fun e w'=>e=.returned (rV (s+2))/\ah w w' mb (L++bS s t.a.x t.b.y t.a.y t.b.x) (s+3) i:=by
 have r2:=hroom.2
 have E0:ah w (w.alloc (kY t)) mb L s i:=ah.al (show ah w w mb L s i from ⟨Kp.refl mb w,hM⟩) _
 have bE:=iC.new w t
 obtain⟨c0,c1,c2,c3,c4,c5,c6,c7,c8,c9,c10,c11⟩:=bE.cs
 have HH:Hid _:=zI E0 bE
 clear E0 bE hM
 go_in
 go_wp2_with fail
 generalize w.alloc (.cells #[rV t.a.x,rV t.a.y,rV t.a.w,rV t.b.x,rV t.b.y,rV t.b.w,rV t.c.x,rV t.c.y,rV t.c.w,rV t.d.x,rV t.d.y,rV t.d.w] 86)=w0 at *
 clear c0 c1 c2 c3 c4 c5 c6 c7 c8 c9 c10 c11
 obtain⟨E0,bE⟩:=HH.out
 clear HH
 refine (oQ mb _ s i t.a.x t.b.y t.a.y t.b.x w0 E0.2 (hroom.mono (by omega)) h8.a.1 h8.b.2.1 h8.a.2.1 h8.b.1).mono ?_
 rintro e w1 ⟨rfl,k1⟩
 have HE:Hid _:=ah.trans E0 k1
 clear k1 E0 bE
 go_wp2
 go_ret
 exact⟨rfl,HE.out⟩
theorem Q6 (mb:Nat) (L:List Stp) (s i:Nat) (t:Th) (w:World) (hM:dS w mb L s i) (hroom:Room L s 3) (h8:xB t) :
  Calls Tryz.prog 81 #[mP mb,S [112,114,112],vI t] w fun e w'=>e=.returned (rV (s+2))/\ah w w' mb (L++bJ s t.a.x t.b.x t.a.y t.b.y) (s+3) i:=by
 have r2:=hroom.2
 have E0:ah w (w.alloc (kY t)) mb L s i:=ah.al (show ah w w mb L s i from ⟨Kp.refl mb w,hM⟩) _
 have bE:=iC.new w t
 obtain⟨c0,c1,c2,c3,c4,c5,c6,c7,c8,c9,c10,c11⟩:=bE.cs
 have HH:Hid _:=zI E0 bE
 clear E0 bE hM
 go_in
 go_wp2_with fail
 generalize w.alloc (.cells #[rV t.a.x,rV t.a.y,rV t.a.w,rV t.b.x,rV t.b.y,rV t.b.w,rV t.c.x,rV t.c.y,rV t.c.w,rV t.d.x,rV t.d.y,rV t.d.w] 86)=w0 at *
 clear c0 c1 c2 c3 c4 c5 c6 c7 c8 c9 c10 c11
 obtain⟨E0,bE⟩:=HH.out
 clear HH
 refine (nk mb _ s i t.a.x t.b.x t.a.y t.b.y w0 E0.2 (hroom.mono (by omega)) h8.a.1 h8.b.1 h8.a.2.1 h8.b.2.1).mono ?_
 rintro e w1 ⟨rfl,k1⟩
 have HE:Hid _:=ah.trans E0 k1
 clear k1 E0 bE
 go_wp2
 go_ret
 exact⟨rfl,HE.out⟩
theorem QZ (mb:Nat) (L:List Stp) (s i:Nat) (t:Th) (w:World) (hM:dS w mb L s i) (hroom:Room L s 14) (h8:xB t) :
  Calls Tryz.prog 81 #[mP mb,S [99,111,108],vI t] w fun e w'=>e=.returned (rV (s+13))/\ah w w' mb (L++iK s t.a t.b t.c) (s+14) i:=by
 have r2:=hroom.2
 have E0:ah w (w.alloc (kY t)) mb L s i:=ah.al (show ah w w mb L s i from ⟨Kp.refl mb w,hM⟩) _
 have bE:=iC.new w t
 obtain⟨c0,c1,c2,c3,c4,c5,c6,c7,c8,c9,c10,c11⟩:=bE.cs
 have HH:Hid _:=zI E0 bE
 clear E0 bE hM
 go_in
 go_wp2_with fail
 generalize w.alloc (.cells #[rV t.a.x,rV t.a.y,rV t.a.w,rV t.b.x,rV t.b.y,rV t.b.w,rV t.c.x,rV t.c.y,rV t.c.w,rV t.d.x,rV t.d.y,rV t.d.w] 86)=w0 at *
 clear c0 c1 c2 c3 c4 c5 c6 c7 c8 c9 c10 c11
 obtain⟨E0,bE⟩:=HH.out
 clear HH
 refine (sF mb _ s i t.a t.b t.c w0 E0.2 (hroom.mono (by omega)) h8.a h8.b h8.c).mono ?_
 rintro e w1 ⟨rfl,k1⟩
 have HE:Hid _:=ah.trans E0 k1
 clear k1 E0 bE
 go_wp2
 go_ret
 exact⟨rfl,HE.out⟩
theorem U7 (mb:Nat) (L:List Stp) (s i:Nat) (t:Th) (w:World) (hM:dS w mb L s i) (hroom:Room L s 14) (h8:xB t) :
  Calls Tryz.prog 81 #[mP mb,S [99,99],vI t] w fun e w'=>e=.returned (rV (s+13))/\ah w w' mb (L++iK s t.a t.b t.c) (s+14) i:=by
 have r2:=hroom.2
 have E0:ah w (w.alloc (kY t)) mb L s i:=ah.al (show ah w w mb L s i from ⟨Kp.refl mb w,hM⟩) _
 have bE:=iC.new w t
 obtain⟨c0,c1,c2,c3,c4,c5,c6,c7,c8,c9,c10,c11⟩:=bE.cs
 have HH:Hid _:=zI E0 bE
 clear E0 bE hM
 go_in
 go_wp2_with fail
 generalize w.alloc (.cells #[rV t.a.x,rV t.a.y,rV t.a.w,rV t.b.x,rV t.b.y,rV t.b.w,rV t.c.x,rV t.c.y,rV t.c.w,rV t.d.x,rV t.d.y,rV t.d.w] 86)=w0 at *
 clear c0 c1 c2 c3 c4 c5 c6 c7 c8 c9 c10 c11
 obtain⟨E0,bE⟩:=HH.out
 clear HH
 refine (sF mb _ s i t.a t.b t.c w0 E0.2 (hroom.mono (by omega)) h8.a h8.b h8.c).mono ?_
 rintro e w1 ⟨rfl,k1⟩
 have HE:Hid _:=ah.trans E0 k1
 clear k1 E0 bE
 go_wp2
 go_ret
 exact⟨rfl,HE.out⟩
theorem Nw (mb:Nat) (L:List Stp) (s i:Nat) (t:Th) (w:World) (hM:dS w mb L s i) (hroom:Room L s 10) (h8:xB t) :
  Calls Tryz.prog 81 #[mP mb,S [115,97,109,101],vI t] w fun e w'=>e=.returned (rV (s+9))/\ah w w' mb (L++Cz s t.a t.b) (s+10) i:=by
 have r2:=hroom.2
 have E0:ah w (w.alloc (kY t)) mb L s i:=ah.al (show ah w w mb L s i from ⟨Kp.refl mb w,hM⟩) _
 have bE:=iC.new w t
 obtain⟨c0,c1,c2,c3,c4,c5,c6,c7,c8,c9,c10,c11⟩:=bE.cs
 have HH:Hid _:=zI E0 bE
 clear E0 bE hM
 go_in
 go_wp2_with fail
 generalize w.alloc (.cells #[rV t.a.x,rV t.a.y,rV t.a.w,rV t.b.x,rV t.b.y,rV t.b.w,rV t.c.x,rV t.c.y,rV t.c.w,rV t.d.x,rV t.d.y,rV t.d.w] 86)=w0 at *
 clear c0 c1 c2 c3 c4 c5 c6 c7 c8 c9 c10 c11
 obtain⟨E0,bE⟩:=HH.out
 clear HH
 refine (qh mb _ s i t.a t.b w0 E0.2 (hroom.mono (by omega)) h8.a h8.b).mono ?_
 rintro e w1 ⟨rfl,k1⟩
 have E1:=ah.trans E0 k1
 have R1:Room (L++dh s t.a t.b) (s+7) 3:=Room.app 7 (k:=3) hroom (Nat.le_of_eq rfl)
 have f_v:kT (w1.alloc (.cells #[rV (aD s).x,rV (aD s).y,rV (aD s).w] 84)) w1.heap.size (aD s):=heap_alloc_new w1 _
 replace E1:=ah.al E1 (.cells #[rV (aD s).x,rV (aD s).y,rV (aD s).w] 84)
 obtain⟨q0,q1,q2⟩:=cells3 f_v
 have HH:Hid _:=E1
 clear k1 E0 E1 bE f_v hroom
 go_wp2_with fail
 generalize w1.alloc (.cells #[rV (aD s).x,rV (aD s).y,rV (aD s).w] 84)=IL at *
 have E1:=HH.out
 clear HH q0 q1 q2
 refine (nk mb _ (s+7) i (aD s).x (aD s).x (aD s).y (aD s).y IL E1.2 R1 (by show s+2 < 256;omega) (by show s+2 < 256;omega) (by show s+5 < 256;omega) (by show s+5 < 256;omega)).mono ?_
 rintro e w2 ⟨rfl,k2⟩
 have HE:Hid _:=ah.trans E1 k2
 clear k2 E1
 go_wp2
 go_ret
 have hL:(L++dh s t.a t.b)++bJ (s+7) (aD s).x (aD s).x (aD s).y (aD s).y=L++Cz s t.a t.b:=by
  simp only[List.append_assoc]
  rfl
 exact⟨rfl,by rw[<- hL];exact HE.out⟩
theorem QK (mb:Nat) (L:List Stp) (s i:Nat) (t:Th) (w:World) (hM:dS w mb L s i) (hroom:Room L s 14) (h8:xB t) :
  Calls Tryz.prog 48 #[mP mb,S [99,99,119],vI t] w fun e w'=>e=.returned (rV (s+13))/\ah w w' mb (L++iK s t.a t.b t.c) (s+14) i:=by
 have r2:=hroom.2
 have E0:ah w (w.alloc (kY t)) mb L s i:=ah.al (show ah w w mb L s i from ⟨Kp.refl mb w,hM⟩) _
 have bE:=iC.new w t
 obtain⟨c0,c1,c2,c3,c4,c5,c6,c7,c8,c9,c10,c11⟩:=bE.cs
 have HH:Hid _:=zI E0 bE
 clear E0 bE hM
 go_in
 go_wp2_with fail
 generalize w.alloc (.cells #[rV t.a.x,rV t.a.y,rV t.a.w,rV t.b.x,rV t.b.y,rV t.b.w,rV t.c.x,rV t.c.y,rV t.c.w,rV t.d.x,rV t.d.y,rV t.d.w] 86)=w0 at *
 clear c0 c1 c2 c3 c4 c5 c6 c7 c8 c9 c10 c11
 obtain⟨E0,bE⟩:=HH.out
 clear HH
 refine (sF mb _ s i t.a t.b t.c w0 E0.2 (hroom.mono (by omega)) h8.a h8.b h8.c).mono ?_
 rintro e w1 ⟨rfl,k1⟩
 have HE:Hid _:=ah.trans E0 k1
 clear k1 E0 bE
 go_wp2
 go_ret
 exact⟨rfl,HE.out⟩
theorem QJ (mb:Nat) (L:List Stp) (s i:Nat) (t:Th) (w:World) (hM:dS w mb L s i) (hroom:Room L s 38) (h8:xB t) :
  Calls Tryz.prog 48 #[mP mb,S [98,116,119],vI t] w fun e w'=>e=.returned (rV (s+37))/\ah w w' mb (L++zV s t.a t.b t.c) (s+38) i:=by
 have r2:=hroom.2
 have E0:ah w (w.alloc (kY t)) mb L s i:=ah.al (show ah w w mb L s i from ⟨Kp.refl mb w,hM⟩) _
 have bE:=iC.new w t
 obtain⟨c0,c1,c2,c3,c4,c5,c6,c7,c8,c9,c10,c11⟩:=bE.cs
 have HH:Hid _:=zI E0 bE
 clear E0 bE hM
 go_in
 go_wp2_with fail
 generalize w.alloc (.cells #[rV t.a.x,rV t.a.y,rV t.a.w,rV t.b.x,rV t.b.y,rV t.b.w,rV t.c.x,rV t.c.y,rV t.c.w,rV t.d.x,rV t.d.y,rV t.d.w] 86)=w0 at *
 clear c0 c1 c2 c3 c4 c5 c6 c7 c8 c9 c10 c11
 obtain⟨E0,bE⟩:=HH.out
 clear HH
 refine (QS mb _ s i t.a t.b t.c w0 E0.2 (hroom.mono (by omega)) h8.a h8.b h8.c).mono ?_
 rintro e w1 ⟨rfl,k1⟩
 have HE:Hid _:=ah.trans E0 k1
 clear k1 E0 bE
 go_wp2
 go_ret
 exact⟨rfl,HE.out⟩
theorem u7 (wd:List UInt8) (K:List Stp) (n r:Nat) (mb:Nat) (L:List Stp) (s i:Nat) (t:Th) (w:World) (hM:dS w mb L s i) (hroom:Room L s (n+4)) (h1:(wd == [99,99,119])=false) (h2:(wd == [98,116,119])=false) (hr:r < n) (hn:K.length<=n) (hf:∀ W,dS W mb L s i->Calls Tryz.prog 81 #[mP mb,S wd,vI t] W fun e w'=>e=.returned (rV (s+r))/\ah W w' mb (L++K) (s+n) i) :
  Calls Tryz.prog 48 #[mP mb,S wd,vI t] w fun e w'=>e=.returned (rV (s+n+3))/\ah w w' mb (L++(K++eH (s+n) (s+r))) (s+n+4) i:=by
 have r2:=hroom.2
 have E0:ah w (w.alloc (kY t)) mb L s i:=ah.al (show ah w w mb L s i from ⟨Kp.refl mb w,hM⟩) _
 have bE:=iC.new w t
 obtain⟨c0,c1,c2,c3,c4,c5,c6,c7,c8,c9,c10,c11⟩:=bE.cs
 have HH:Hid _:=zI E0 bE
 clear E0 bE hM
 go_in
 go_wp2_with fail
 generalize w.alloc (.cells #[rV t.a.x,rV t.a.y,rV t.a.w,rV t.b.x,rV t.b.y,rV t.b.w,rV t.c.x,rV t.c.y,rV t.c.w,rV t.d.x,rV t.d.y,rV t.d.w] 86)=w0 at *
 clear c0 c1 c2 c3 c4 c5 c6 c7 c8 c9 c10 c11
 obtain⟨E0,bE⟩:=HH.out
 clear HH
 refine (hf _ E0.2).mono ?_
 rintro e w1 ⟨rfl,k1⟩
 have E1:=ah.trans E0 k1
 have R1:Room (L++K) (s+n) 4:=Room.app n (k:=4) hroom hn
 have HH:Hid _:=E1
 clear k1 E0 E1 bE hroom
 go_wp2_with fail
 have E1:=HH.out
 clear HH
 refine (GI mb _ (s+n) i (s+r) w1 E1.2 R1 (by omega)).mono ?_
 rintro e w2 ⟨rfl,k2⟩
 have HE:Hid _:=ah.trans E1 k2
 clear k2 E1
 go_wp2
 go_ret
 have hL:(L++K)++eH (s+n) (s+r)=L++(K++eH (s+n) (s+r)):=List.append_assoc _ _ _
 exact⟨rfl,by rw[<- hL];exact HE.out⟩
theorem Nl (mb:Nat) (L:List Stp) (s i:Nat) (t:Th) (w:World) (hM:dS w mb L s i) (hroom:Room L s 14) (h8:xB t):Calls Tryz.prog 48 #[mP mb,S [115,97,109,101],vI t] w fun e w'=>e=.returned (rV (s+13))/\ah w w' mb (L++(Cz s t.a t.b++eH (s+10) (s+9))) (s+14) i:=u7 _ _ 10 9 mb L s i t w hM hroom rfl rfl (by decide) (Nat.le_of_eq rfl) (fun W h=>Nw mb L s i t W h (hroom.mono (by omega)) h8)
theorem QM (mb:Nat) (L:List Stp) (s i:Nat) (t:Th) (w:World) (hM:dS w mb L s i) (hroom:Room L s 54) (h8:xB t):Calls Tryz.prog 48 #[mP mb,S [99,111,110],vI t] w fun e w'=>e=.returned (rV (s+53))/\ah w w' mb (L++(BI s t.a t.b t.c t.d++eH (s+50) (s+49))) (s+54) i:=u7 _ _ 50 49 mb L s i t w hM hroom rfl rfl (by decide) (Nat.le_of_eq rfl) (fun W h=>Q0 mb L s i t W h (hroom.mono (by omega)) h8)
theorem U0 (mb:Nat) (L:List Stp) (s i:Nat) (t:Th) (w:World) (hM:dS w mb L s i) (hroom:Room L s 9) (h8:xB t):Calls Tryz.prog 48 #[mP mb,S [111,110],vI t] w fun e w'=>e=.returned (rV (s+8))/\ah w w' mb (L++(vX s t.a t.b++eH (s+5) (s+4))) (s+9) i:=u7 _ _ 5 4 mb L s i t w hM hroom rfl rfl (by decide) (Nat.le_of_eq rfl) (fun W h=>U8 mb L s i t W h (hroom.mono (by omega)) h8)
theorem QN (mb:Nat) (L:List Stp) (s i:Nat) (t:Th) (w:World) (hM:dS w mb L s i) (hroom:Room L s 7) (h8:xB t):Calls Tryz.prog 48 #[mP mb,S [112,108,108],vI t] w fun e w'=>e=.returned (rV (s+6))/\ah w w' mb (L++(bS s t.a.x t.b.y t.a.y t.b.x++eH (s+3) (s+2))) (s+7) i:=u7 _ _ 3 2 mb L s i t w hM hroom rfl rfl (by decide) (Nat.le_of_eq rfl) (fun W h=>Q5 mb L s i t W h (hroom.mono (by omega)) h8)
theorem QO (mb:Nat) (L:List Stp) (s i:Nat) (t:Th) (w:World) (hM:dS w mb L s i) (hroom:Room L s 7) (h8:xB t):Calls Tryz.prog 48 #[mP mb,S [112,114,112],vI t] w fun e w'=>e=.returned (rV (s+6))/\ah w w' mb (L++(bJ s t.a.x t.b.x t.a.y t.b.y++eH (s+3) (s+2))) (s+7) i:=u7 _ _ 3 2 mb L s i t w hM hroom rfl rfl (by decide) (Nat.le_of_eq rfl) (fun W h=>Q6 mb L s i t W h (hroom.mono (by omega)) h8)
theorem QL (mb:Nat) (L:List Stp) (s i:Nat) (t:Th) (w:World) (hM:dS w mb L s i) (hroom:Room L s 18) (h8:xB t):Calls Tryz.prog 48 #[mP mb,S [99,111,108],vI t] w fun e w'=>e=.returned (rV (s+17))/\ah w w' mb (L++(iK s t.a t.b t.c++eH (s+14) (s+13))) (s+18) i:=u7 _ _ 14 13 mb L s i t w hM hroom rfl rfl (by decide) (Nat.le_of_eq rfl) (fun W h=>QZ mb L s i t W h (hroom.mono (by omega)) h8)
theorem UZ (mb:Nat) (L:List Stp) (s i:Nat) (t:Th) (w:World) (hM:dS w mb L s i) (hroom:Room L s 18) (h8:xB t):Calls Tryz.prog 48 #[mP mb,S [99,99],vI t] w fun e w'=>e=.returned (rV (s+17))/\ah w w' mb (L++(iK s t.a t.b t.c++eH (s+14) (s+13))) (s+18) i:=u7 _ _ 14 13 mb L s i t w hM hroom rfl rfl (by decide) (Nat.le_of_eq rfl) (fun W h=>U7 mb L s i t W h (hroom.mono (by omega)) h8)
end Go.Proofs.YtmnfndpbblpjiabGreatDoor

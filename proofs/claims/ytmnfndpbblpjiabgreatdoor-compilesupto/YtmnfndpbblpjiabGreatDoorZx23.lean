/- The maker: ways, lifted points, uprights. -/
import Derived.Test.YtmnfndpbblpjiabGreatDoorZx22
set_option maxHeartbeats 1600000
namespace Go.Proofs.YtmnfndpbblpjiabGreatDoor
open Go.RowKit Pu
theorem qh (mb:Nat) (L:List Stp) (s i:Nat) (f t:Tr) (w:World) (hM:dS w mb L s i) (hroom:Room L s 7) (h_f:S8 f) (h_t:S8 t) :
  Calls Tryz.prog 125 #[mP mb,dZ f,dZ t] w fun e w'=>e=.returned (dZ (aD s))/\ah w w' mb (L++dh s f t) (s+7) (i+0):=by
 obtain⟨ab5,ab6,Yn⟩:=h_f
 obtain⟨ab7,ab8,Yq⟩:=h_t
 have r2:=hroom.2
 have E0:ah w (((((w.alloc (aS f))).alloc (aS t))).alloc (d9)) mb L s i:=(ah.al (ah.al (ah.al (show ah w w mb L s i from ⟨Kp.refl mb w,hM⟩) _) _) _)
 have fM:kT (((((w.alloc (aS f))).alloc (aS t))).alloc (d9)) (w.heap.size) f:=by
  have h:=heap_alloc_new w (aS f)
  exact (aB.al (aB.al h _) _)
 have bE:kT (((((w.alloc (aS f))).alloc (aS t))).alloc (d9)) (w.heap.size+1) t:=by
  have h:=heap_alloc_new (w.alloc (aS f)) (aS t)
  simp only[bG]at h
  exact (aB.al h _)
 have ak:aB (((((w.alloc (aS f))).alloc (aS t))).alloc (d9)) (w.heap.size+1+1) (.int .u8 0) (.int .u8 0) (.int .u8 0):=by
  have h:=heap_alloc_new (((w.alloc (aS f))).alloc (aS t)) (d9)
  simp only[bG]at h
  exact h
 have hsz:w.heap.size+3<=((((((w.alloc (aS f))).alloc (aS t))).alloc (d9))).heap.size:=by simp only[bG];omega
 go_in
 go_wp2_with fail
 generalize (((w.alloc (.cells #[rV f.x,rV f.y,rV f.w] 84)).alloc (.cells #[rV t.x,rV t.y,rV t.w] 84)).alloc (.cells #[.int .u8 0,.int .u8 0,.int .u8 0] 84))=w0 at *
 refine (oQ mb _ s i t.x f.w f.x t.w w0 E0.2 (hroom.mono (by omega)) ab7 Yn ab5 Yq).mono ?_
 rintro e w1 ⟨he,k1⟩
 obtain⟨lT,hv⟩:∃ x:Nat,x=s+2:=⟨_,rfl⟩
 have Zv:lT < 256:=by omega
 have he2:e=.returned (rV lT):=by rw[hv];exact he
 have pU:Hid (lT=s+2):=hv
 clear he hv
 subst he2
 have E1:ah w w1 mb (L++bS s t.x f.w f.x t.w) (s+3) (i):=ah.trans E0 k1
 have R1:Room (L++bS s t.x f.w f.x t.w) (s+3) 4:=Room.app 3 (k:=4) hroom (Nat.le_of_eq rfl)
 replace fM:=aB.kp fM k1.1
 replace bE:=aB.kp bE k1.1
 replace ak:=aB.kp ak k1.1
 replace hsz:=Nat.le_trans hsz k1.1.size
 clear k1 E0 hroom
 obtain⟨mO,mQ,mR⟩:=cells3 fM
 obtain⟨vC,vD,vE⟩:=cells3 bE
 have HH:Hid _:=zI E1 (zI hsz (zI fM (zI bE ak)))
 clear E1 hsz fM bE ak
 go_wp2_with fail
 clear mO mQ mR vC vD vE
 obtain⟨E1,hsz,fM,bE,ak⟩:=HH.out
 clear HH
 refine (oQ mb _ (s+3) i t.y f.w f.y t.w w1 E1.2 (R1.mono (by omega)) ab8 Yn ab6 Yq).mono ?_
 rintro e w2 ⟨he,k2⟩
 obtain⟨jl,hv⟩:∃ x:Nat,x=s+3+2:=⟨_,rfl⟩
 have WG:jl < 256:=by omega
 have he2:e=.returned (rV jl):=by rw[hv];exact he
 have oD:Hid (jl=s+3+2):=hv
 clear he hv
 subst he2
 have E2:ah w w2 mb ((L++bS s t.x f.w f.x t.w)++bS (s+3) t.y f.w f.y t.w) (s+6) (i):=ah.trans E1 k2
 have R2:Room ((L++bS s t.x f.w f.x t.w)++bS (s+3) t.y f.w f.y t.w) (s+6) 1:=Room.app 3 (k:=1) R1 (Nat.le_of_eq rfl)
 replace fM:=aB.kp fM k2.1
 replace bE:=aB.kp bE k2.1
 replace ak:=aB.kp ak k2.1
 replace hsz:=Nat.le_trans hsz k2.1.size
 clear k2 E1 R1
 obtain⟨mO,mQ,mR⟩:=cells3 fM
 obtain⟨vC,vD,vE⟩:=cells3 bE
 have HH:Hid _:=zI E2 (zI hsz (zI fM (zI bE ak)))
 clear E2 hsz fM bE ak
 go_wp2_with fail
 clear mO mQ mR vC vD vE
 obtain⟨E2,hsz,fM,bE,ak⟩:=HH.out
 clear HH
 refine (fU mb _ (s+6) i f.w t.w w2 E2.2 (R2.mono (by omega)) Yn Yq).mono ?_
 rintro e w3 ⟨he,k3⟩
 obtain⟨jX,hv⟩:∃ x:Nat,x=s+6:=⟨_,rfl⟩
 have WE:jX < 256:=by omega
 have he2:e=.returned (rV jX):=by rw[hv];exact he
 have oC:Hid (jX=s+6):=hv
 clear he hv
 subst he2
 have E3:ah w w3 mb (((L++bS s t.x f.w f.x t.w)++bS (s+3) t.y f.w f.y t.w)++[⟨4,s+6,f.w,t.w⟩]) (s+7) (i):=ah.trans E2 k3
 replace fM:=aB.kp fM k3.1
 replace bE:=aB.kp bE k3.1
 replace ak:=aB.kp ak k3.1
 replace hsz:=Nat.le_trans hsz k3.1.size
 clear k3 E2 R2
 have z0:=dN ak 0
 have z1:=dN ak 1
 have z2:=dN ak 2
 obtain⟨y0,y1,y2⟩:=cells3 ak
 have HC:Hid _:=cells3 (dD (x':=rV (lT)) (y':=rV (jl)) (z':=rV (jX)) ak)
 have HE:Hid _:=E3.st (x':=rV (lT)) (y':=rV (jl)) (z':=rV (jX)) ak (by omega)
 have hlt:=lt_of_block ak
 clear E3 fM bE ak
 go_wp2_with fail
 obtain⟨g0,g1,g2⟩:=HC.out
 unfold gL at g0 g1 g2
 have hL:(((L++bS s t.x f.w f.x t.w)++bS (s+3) t.y f.w f.y t.w)++[⟨4,s+6,f.w,t.w⟩])=L++dh s f t:=by
  have MB:=pU.out
  have Jm:=oD.out
  have Jl:=oC.out
  subst MB Jm Jl
  simp only[List.append_assoc]
  rfl
 have hR:(.agg #[rV (lT),rV (jl),rV (jX)]:Value)=dZ (aD s):=by rw[pU.out,oD.out,oC.out];rfl
 exact bodyPost_ret (v:=.agg #[rV (lT),rV (jl),rV (jX)]) (by simp[results,Tryz.results125,go_sem,g0,g1,g2]) rfl ⟨by rw[hR],by rw[<- hL];exact HE.out⟩
theorem AB (mb:Nat) (L:List Stp) (s i:Nat) (p:Tr) (w:World) (hM:dS w mb L s i) (hroom:Room L s 5) (xQ:S8 p) :
  Calls Tryz.prog 175 #[mP mb,dZ p] w fun e w'=>e=.returned (dZ (aR s))/\ah w w' mb (L++lH s p) (s+5) (i+0):=by
 obtain⟨zq,zu,wm⟩:=xQ
 have r2:=hroom.2
 have E0:ah w (((w.alloc (aS p))).alloc (d9)) mb L s i:=(ah.al (ah.al (show ah w w mb L s i from ⟨Kp.refl mb w,hM⟩) _) _)
 have eO:kT (((w.alloc (aS p))).alloc (d9)) (w.heap.size) p:=by
  have h:=heap_alloc_new w (aS p)
  exact (aB.al h _)
 have ak:aB (((w.alloc (aS p))).alloc (d9)) (w.heap.size+1) (.int .u8 0) (.int .u8 0) (.int .u8 0):=by
  have h:=heap_alloc_new (w.alloc (aS p)) (d9)
  simp only[bG]at h
  exact h
 have hsz:w.heap.size+2<=((((w.alloc (aS p))).alloc (d9))).heap.size:=by simp only[bG];omega
 go_in
 go_wp2_with fail
 generalize ((w.alloc (.cells #[rV p.x,rV p.y,rV p.w] 84)).alloc (.cells #[.int .u8 0,.int .u8 0,.int .u8 0] 84))=w0 at *
 refine (fU mb _ s i p.x p.w w0 E0.2 (hroom.mono (by omega)) zq wm).mono ?_
 rintro e w1 ⟨he,k1⟩
 obtain⟨lT,hv⟩:∃ x:Nat,x=s:=⟨_,rfl⟩
 have Zv:lT < 256:=by omega
 have he2:e=.returned (rV lT):=by rw[hv];exact he
 have pU:Hid (lT=s):=hv
 clear he hv
 subst he2
 have E1:ah w w1 mb (L++[⟨4,s,p.x,p.w⟩]) (s+1) (i):=ah.trans E0 k1
 have R1:Room (L++[⟨4,s,p.x,p.w⟩]) (s+1) 4:=Room.app 1 (k:=4) hroom (Nat.le_of_eq rfl)
 replace eO:=aB.kp eO k1.1
 replace ak:=aB.kp ak k1.1
 replace hsz:=Nat.le_trans hsz k1.1.size
 clear k1 E0 hroom
 obtain⟨nV,nW,nX⟩:=cells3 eO
 have HH:Hid _:=zI E1 (zI hsz (zI eO ak))
 clear E1 hsz eO ak
 go_wp2_with fail
 clear nV nW nX
 obtain⟨E1,hsz,eO,ak⟩:=HH.out
 clear HH
 refine (fU mb _ (s+1) i p.y p.w w1 E1.2 (R1.mono (by omega)) zu wm).mono ?_
 rintro e w2 ⟨he,k2⟩
 obtain⟨jl,hv⟩:∃ x:Nat,x=s+1:=⟨_,rfl⟩
 have WG:jl < 256:=by omega
 have he2:e=.returned (rV jl):=by rw[hv];exact he
 have oD:Hid (jl=s+1):=hv
 clear he hv
 subst he2
 have E2:ah w w2 mb ((L++[⟨4,s,p.x,p.w⟩])++[⟨4,s+1,p.y,p.w⟩]) (s+2) (i):=ah.trans E1 k2
 have R2:Room ((L++[⟨4,s,p.x,p.w⟩])++[⟨4,s+1,p.y,p.w⟩]) (s+2) 3:=Room.app 1 (k:=3) R1 (Nat.le_of_eq rfl)
 replace eO:=aB.kp eO k2.1
 replace ak:=aB.kp ak k2.1
 replace hsz:=Nat.le_trans hsz k2.1.size
 clear k2 E1 R1
 obtain⟨nV,nW,nX⟩:=cells3 eO
 have HH:Hid _:=zI E2 (zI hsz (zI eO ak))
 clear E2 hsz eO ak
 go_wp2_with fail
 clear nV nW nX
 obtain⟨E2,hsz,eO,ak⟩:=HH.out
 clear HH
 refine (nk mb _ (s+2) i p.x p.x p.y p.y w2 E2.2 (R2.mono (by omega)) zq zq zu zu).mono ?_
 rintro e w3 ⟨he,k3⟩
 obtain⟨jX,hv⟩:∃ x:Nat,x=s+2+2:=⟨_,rfl⟩
 have WE:jX < 256:=by omega
 have he2:e=.returned (rV jX):=by rw[hv];exact he
 have oC:Hid (jX=s+2+2):=hv
 clear he hv
 subst he2
 have E3:ah w w3 mb (((L++[⟨4,s,p.x,p.w⟩])++[⟨4,s+1,p.y,p.w⟩])++bJ (s+2) p.x p.x p.y p.y) (s+5) (i):=ah.trans E2 k3
 replace eO:=aB.kp eO k3.1
 replace ak:=aB.kp ak k3.1
 replace hsz:=Nat.le_trans hsz k3.1.size
 clear k3 E2 R2
 have z0:=dN ak 0
 have z1:=dN ak 1
 have z2:=dN ak 2
 obtain⟨y0,y1,y2⟩:=cells3 ak
 have HC:Hid _:=cells3 (dD (x':=rV (lT)) (y':=rV (jl)) (z':=rV (jX)) ak)
 have HE:Hid _:=E3.st (x':=rV (lT)) (y':=rV (jl)) (z':=rV (jX)) ak (by omega)
 have hlt:=lt_of_block ak
 clear E3 eO ak
 go_wp2_with fail
 obtain⟨g0,g1,g2⟩:=HC.out
 unfold gL at g0 g1 g2
 have hL:(((L++[⟨4,s,p.x,p.w⟩])++[⟨4,s+1,p.y,p.w⟩])++bJ (s+2) p.x p.x p.y p.y)=L++lH s p:=by
  have MB:=pU.out
  have Jm:=oD.out
  have Jl:=oC.out
  subst MB Jm Jl
  simp only[List.append_assoc]
  rfl
 have hR:(.agg #[rV (lT),rV (jl),rV (jX)]:Value)=dZ (aR s):=by rw[pU.out,oD.out,oC.out];rfl
 exact bodyPost_ret (v:=.agg #[rV (lT),rV (jl),rV (jX)]) (by simp[results,Tryz.results175,go_sem,g0,g1,g2]) rfl ⟨by rw[hR],by rw[<- hL];exact HE.out⟩
theorem AL (mb:Nat) (L:List Stp) (s i:Nat) (p l:Tr) (w:World) (hM:dS w mb L s i) (hroom:Room L s 9) (xQ:S8 p) (Yo:S8 l) :
  Calls Tryz.prog 86 #[mP mb,dZ p,dZ l] w fun e w'=>e=.returned (dZ (eD s))/\ah w w' mb (L++tC s p l) (s+9) (i+0):=by
 obtain⟨zq,zu,wm⟩:=xQ
 obtain⟨D8,Ea,Jy⟩:=Yo
 have r2:=hroom.2
 have E0:ah w (((((w.alloc (aS p))).alloc (aS l))).alloc (d9)) mb L s i:=(ah.al (ah.al (ah.al (show ah w w mb L s i from ⟨Kp.refl mb w,hM⟩) _) _) _)
 have eO:kT (((((w.alloc (aS p))).alloc (aS l))).alloc (d9)) (w.heap.size) p:=by
  have h:=heap_alloc_new w (aS p)
  exact (aB.al (aB.al h _) _)
 have gZ:kT (((((w.alloc (aS p))).alloc (aS l))).alloc (d9)) (w.heap.size+1) l:=by
  have h:=heap_alloc_new (w.alloc (aS p)) (aS l)
  simp only[bG]at h
  exact (aB.al h _)
 have ak:aB (((((w.alloc (aS p))).alloc (aS l))).alloc (d9)) (w.heap.size+1+1) (.int .u8 0) (.int .u8 0) (.int .u8 0):=by
  have h:=heap_alloc_new (((w.alloc (aS p))).alloc (aS l)) (d9)
  simp only[bG]at h
  exact h
 have hsz:w.heap.size+3<=((((((w.alloc (aS p))).alloc (aS l))).alloc (d9))).heap.size:=by simp only[bG];omega
 go_in
 go_wp2_with fail
 generalize (((w.alloc (.cells #[rV p.x,rV p.y,rV p.w] 84)).alloc (.cells #[rV l.x,rV l.y,rV l.w] 84)).alloc (.cells #[.int .u8 0,.int .u8 0,.int .u8 0] 84))=w0 at *
 refine (AJ mb _ s i l.x w0 E0.2 (hroom.mono (by omega)) D8).mono ?_
 rintro e w1 ⟨he,k1⟩
 obtain⟨jl,hv⟩:∃ x:Nat,x=s+1:=⟨_,rfl⟩
 have WG:jl < 256:=by omega
 have he2:e=.returned (rV jl):=by rw[hv];exact he
 have oD:Hid (jl=s+1):=hv
 clear he hv
 subst he2
 have E1:ah w w1 mb (L++negL s l.x) (s+2) (i):=ah.trans E0 k1
 have R1:Room (L++negL s l.x) (s+2) 7:=Room.app 2 (k:=7) hroom (Nat.le_of_eq rfl)
 replace eO:=aB.kp eO k1.1
 replace gZ:=aB.kp gZ k1.1
 replace ak:=aB.kp ak k1.1
 replace hsz:=Nat.le_trans hsz k1.1.size
 clear k1 E0 hroom
 have Jq:aB (w1.alloc (.cells #[rV l.y,rV jl,rV l.w] 84)) w1.heap.size (rV l.y) (rV jl) (rV l.w):=heap_alloc_new w1 _
 have E1a:=E1.al (.cells #[rV l.y,rV jl,rV l.w] 84)
 have X5:=aB.al eO (.cells #[rV l.y,rV jl,rV l.w] 84)
 have X4:=aB.al gZ (.cells #[rV l.y,rV jl,rV l.w] 84)
 have PW:=aB.al ak (.cells #[rV l.y,rV jl,rV l.w] 84)
 have aaS:_<=(w1.alloc (.cells #[rV l.y,rV jl,rV l.w] 84)).heap.size:=Nat.le_trans hsz (by simp)
 obtain⟨nV,nW,nX⟩:=cells3 eO
 obtain⟨qR,qU,qV⟩:=cells3 gZ
 obtain⟨acv,acw,acy⟩:=cells3 X5
 obtain⟨acr,acs,acu⟩:=cells3 X4
 obtain⟨abf,abg,abh⟩:=cells3 Jq
 have HH:Hid _:=zI E1a (zI Jq (zI aaS (zI X5 (zI X4 PW))))
 clear E1a Jq aaS X5 X4 PW
 go_wp2_with fail
 generalize w1.alloc (.cells #[rV l.y,rV jl,rV l.w] 84)=IL at *
 clear nV nW nX qR qU qV acv acw acy acr acs acu abf abg abh E1 hsz eO gZ ak
 obtain⟨E1,Jq,hsz,eO,gZ,ak⟩:=HH.out
 clear HH
 refine (GK mb _ (s+2) i p ((⟨l.y,jl,l.w⟩:Tr)) IL E1.2 (R1.mono (by omega)) ⟨zq,zu,wm⟩ ⟨by show l.y < 256;first | exact Ea | omega,by show jl < 256;first | exact WG | omega,by show l.w < 256;first | exact Jy | omega⟩).mono ?_
 rintro e w2 ⟨rfl,k2⟩
 have E2:ah w w2 mb ((L++negL s l.x)++zx (s+2) p ((⟨l.y,jl,l.w⟩:Tr))) (s+9) (i):=ah.trans E1 k2
 replace eO:=aB.kp eO k2.1
 replace gZ:=aB.kp gZ k2.1
 replace ak:=aB.kp ak k2.1
 replace Jq:=aB.kp Jq k2.1
 replace hsz:=Nat.le_trans hsz k2.1.size
 clear k2 E1 R1
 have z0:=dN ak 0
 have z1:=dN ak 1
 have z2:=dN ak 2
 obtain⟨y0,y1,y2⟩:=cells3 ak
 have HC:Hid _:=cells3 (dD (x':=rV ((lZ (s+2)).x)) (y':=rV ((lZ (s+2)).y)) (z':=rV ((lZ (s+2)).w)) ak)
 have HE:Hid _:=E2.st (x':=rV ((lZ (s+2)).x)) (y':=rV ((lZ (s+2)).y)) (z':=rV ((lZ (s+2)).w)) ak (by omega)
 have hlt:=lt_of_block ak
 clear E2 eO gZ ak Jq
 go_wp2_with fail
 obtain⟨g0,g1,g2⟩:=HC.out
 unfold gL at g0 g1 g2
 have hL:((L++negL s l.x)++zx (s+2) p ((⟨l.y,jl,l.w⟩:Tr)))=L++tC s p l:=by
  have Jm:=oD.out
  subst Jm
  simp only[List.append_assoc]
  rfl
 have hR:(.agg #[rV ((lZ (s+2)).x),rV ((lZ (s+2)).y),rV ((lZ (s+2)).w)]:Value)=dZ (eD s):=rfl
 exact bodyPost_ret (v:=.agg #[rV ((lZ (s+2)).x),rV ((lZ (s+2)).y),rV ((lZ (s+2)).w)]) (by simp[results,Tryz.results86,go_sem,g0,g1,g2]) rfl ⟨by rw[hR],by rw[<- hL];exact HE.out⟩
theorem Db (mb:Nat) (L:List Stp) (s i:Nat) (p l:Tr) (w:World) (hM:dS w mb L s i) (hroom:Room L s 18) (xQ:S8 p) (Yo:S8 l) :
  Calls Tryz.prog 87 #[mP mb,dZ p,dZ l] w fun e w'=>e=.returned (dZ (dX s))/\ah w w' mb (L++jC s p l) (s+18) (i+0):=by
 obtain⟨zq,zu,wm⟩:=xQ
 obtain⟨D8,Ea,Jy⟩:=Yo
 have r2:=hroom.2
 have E0:ah w (((((w.alloc (aS p))).alloc (aS l))).alloc (d9)) mb L s i:=(ah.al (ah.al (ah.al (show ah w w mb L s i from ⟨Kp.refl mb w,hM⟩) _) _) _)
 have eO:kT (((((w.alloc (aS p))).alloc (aS l))).alloc (d9)) (w.heap.size) p:=by
  have h:=heap_alloc_new w (aS p)
  exact (aB.al (aB.al h _) _)
 have gZ:kT (((((w.alloc (aS p))).alloc (aS l))).alloc (d9)) (w.heap.size+1) l:=by
  have h:=heap_alloc_new (w.alloc (aS p)) (aS l)
  simp only[bG]at h
  exact (aB.al h _)
 have ak:aB (((((w.alloc (aS p))).alloc (aS l))).alloc (d9)) (w.heap.size+1+1) (.int .u8 0) (.int .u8 0) (.int .u8 0):=by
  have h:=heap_alloc_new (((w.alloc (aS p))).alloc (aS l)) (d9)
  simp only[bG]at h
  exact h
 have hsz:w.heap.size+3<=((((((w.alloc (aS p))).alloc (aS l))).alloc (d9))).heap.size:=by simp only[bG];omega
 go_in
 go_wp2_with fail
 generalize (((w.alloc (.cells #[rV p.x,rV p.y,rV p.w] 84)).alloc (.cells #[rV l.x,rV l.y,rV l.w] 84)).alloc (.cells #[.int .u8 0,.int .u8 0,.int .u8 0] 84))=w0 at *
 refine (AL mb _ s i p l w0 E0.2 (hroom.mono (by omega)) ⟨zq,zu,wm⟩ ⟨D8,Ea,Jy⟩).mono ?_
 rintro e w1 ⟨rfl,k1⟩
 have E1:ah w w1 mb (L++tC s p l) (s+9) (i):=ah.trans E0 k1
 have R1:Room (L++tC s p l) (s+9) 9:=Room.app 9 (k:=9) hroom (Nat.le_of_eq rfl)
 replace eO:=aB.kp eO k1.1
 replace gZ:=aB.kp gZ k1.1
 replace ak:=aB.kp ak k1.1
 replace hsz:=Nat.le_trans hsz k1.1.size
 clear k1 E0 hroom
 have Jo:kT (w1.alloc (.cells #[rV (eD s).x,rV (eD s).y,rV (eD s).w] 84)) w1.heap.size (eD s):=heap_alloc_new w1 _
 replace E1:=E1.al (.cells #[rV (eD s).x,rV (eD s).y,rV (eD s).w] 84)
 replace eO:=aB.al eO (.cells #[rV (eD s).x,rV (eD s).y,rV (eD s).w] 84)
 replace gZ:=aB.al gZ (.cells #[rV (eD s).x,rV (eD s).y,rV (eD s).w] 84)
 replace ak:=aB.al ak (.cells #[rV (eD s).x,rV (eD s).y,rV (eD s).w] 84)
 replace hsz:_<=(w1.alloc (.cells #[rV (eD s).x,rV (eD s).y,rV (eD s).w] 84)).heap.size:=Nat.le_trans hsz (by simp)
 obtain⟨nV,nW,nX⟩:=cells3 eO
 obtain⟨qR,qU,qV⟩:=cells3 gZ
 obtain⟨aa1,aa2,aa3⟩:=cells3 Jo
 have HH:Hid _:=zI E1 (zI hsz (zI eO (zI gZ (zI ak Jo))))
 clear E1 hsz eO gZ ak Jo
 go_wp2_with fail
 generalize w1.alloc (.cells #[rV (eD s).x,rV (eD s).y,rV (eD s).w] 84)=IL at *
 clear nV nW nX qR qU qV aa1 aa2 aa3
 obtain⟨E1,hsz,eO,gZ,ak,Jo⟩:=HH.out
 clear HH
 refine (lJ mb _ (s+9) i (eD s) l IL E1.2 (R1.mono (by omega)) ⟨by show s+2 < 256;first | exact (by omega) | omega,by show s+3 < 256;first | exact (by omega) | omega,by show s+8 < 256;first | exact (by omega) | omega⟩ ⟨D8,Ea,Jy⟩).mono ?_
 rintro e w2 ⟨rfl,k2⟩
 have E2:ah w w2 mb ((L++tC s p l)++dM (s+9) (eD s) l) (s+18) (i):=ah.trans E1 k2
 replace eO:=aB.kp eO k2.1
 replace gZ:=aB.kp gZ k2.1
 replace ak:=aB.kp ak k2.1
 replace Jo:=aB.kp Jo k2.1
 replace hsz:=Nat.le_trans hsz k2.1.size
 clear k2 E1 R1
 have z0:=dN ak 0
 have z1:=dN ak 1
 have z2:=dN ak 2
 obtain⟨y0,y1,y2⟩:=cells3 ak
 have HC:Hid _:=cells3 (dD (x':=rV ((aA (s+9)).x)) (y':=rV ((aA (s+9)).y)) (z':=rV ((aA (s+9)).w)) ak)
 have HE:Hid _:=E2.st (x':=rV ((aA (s+9)).x)) (y':=rV ((aA (s+9)).y)) (z':=rV ((aA (s+9)).w)) ak (by omega)
 have hlt:=lt_of_block ak
 clear E2 eO gZ ak Jo
 go_wp2_with fail
 obtain⟨g0,g1,g2⟩:=HC.out
 unfold gL at g0 g1 g2
 have hL:((L++tC s p l)++dM (s+9) (eD s) l)=L++jC s p l:=by
  simp only[List.append_assoc]
  rfl
 have hR:(.agg #[rV ((aA (s+9)).x),rV ((aA (s+9)).y),rV ((aA (s+9)).w)]:Value)=dZ (dX s):=rfl
 exact bodyPost_ret (v:=.agg #[rV ((aA (s+9)).x),rV ((aA (s+9)).y),rV ((aA (s+9)).w)]) (by simp[results,Tryz.results87,go_sem,g0,g1,g2]) rfl ⟨by rw[hR],by rw[<- hL];exact HE.out⟩
theorem Rh (mb:Nat) (L:List Stp) (s i:Nat) (p l:Tr) (w:World) (hM:dS w mb L s i) (hroom:Room L s 27) (xQ:S8 p) (Yo:S8 l) :
  Calls Tryz.prog 88 #[mP mb,dZ p,dZ l] w fun e w'=>e=.returned (dZ (wE s))/\ah w w' mb (L++Eh s p l) (s+27) (i+0):=by
 obtain⟨zq,zu,wm⟩:=xQ
 obtain⟨D8,Ea,Jy⟩:=Yo
 have r2:=hroom.2
 have E0:ah w (((((w.alloc (aS p))).alloc (aS l))).alloc (d9)) mb L s i:=(ah.al (ah.al (ah.al (show ah w w mb L s i from ⟨Kp.refl mb w,hM⟩) _) _) _)
 have eO:kT (((((w.alloc (aS p))).alloc (aS l))).alloc (d9)) (w.heap.size) p:=by
  have h:=heap_alloc_new w (aS p)
  exact (aB.al (aB.al h _) _)
 have gZ:kT (((((w.alloc (aS p))).alloc (aS l))).alloc (d9)) (w.heap.size+1) l:=by
  have h:=heap_alloc_new (w.alloc (aS p)) (aS l)
  simp only[bG]at h
  exact (aB.al h _)
 have ak:aB (((((w.alloc (aS p))).alloc (aS l))).alloc (d9)) (w.heap.size+1+1) (.int .u8 0) (.int .u8 0) (.int .u8 0):=by
  have h:=heap_alloc_new (((w.alloc (aS p))).alloc (aS l)) (d9)
  simp only[bG]at h
  exact h
 have hsz:w.heap.size+3<=((((((w.alloc (aS p))).alloc (aS l))).alloc (d9))).heap.size:=by simp only[bG];omega
 go_in
 go_wp2_with fail
 generalize (((w.alloc (.cells #[rV p.x,rV p.y,rV p.w] 84)).alloc (.cells #[rV l.x,rV l.y,rV l.w] 84)).alloc (.cells #[.int .u8 0,.int .u8 0,.int .u8 0] 84))=w0 at *
 refine (Db mb _ s i p l w0 E0.2 (hroom.mono (by omega)) ⟨zq,zu,wm⟩ ⟨D8,Ea,Jy⟩).mono ?_
 rintro e w1 ⟨rfl,k1⟩
 have E1:ah w w1 mb (L++jC s p l) (s+18) (i):=ah.trans E0 k1
 have R1:Room (L++jC s p l) (s+18) 9:=Room.app 18 (k:=9) hroom (Nat.le_of_eq rfl)
 replace eO:=aB.kp eO k1.1
 replace gZ:=aB.kp gZ k1.1
 replace ak:=aB.kp ak k1.1
 replace hsz:=Nat.le_trans hsz k1.1.size
 clear k1 E0 hroom
 have fM:kT (w1.alloc (.cells #[rV (dX s).x,rV (dX s).y,rV (dX s).w] 84)) w1.heap.size (dX s):=heap_alloc_new w1 _
 replace E1:=E1.al (.cells #[rV (dX s).x,rV (dX s).y,rV (dX s).w] 84)
 replace eO:=aB.al eO (.cells #[rV (dX s).x,rV (dX s).y,rV (dX s).w] 84)
 replace gZ:=aB.al gZ (.cells #[rV (dX s).x,rV (dX s).y,rV (dX s).w] 84)
 replace ak:=aB.al ak (.cells #[rV (dX s).x,rV (dX s).y,rV (dX s).w] 84)
 replace hsz:_<=(w1.alloc (.cells #[rV (dX s).x,rV (dX s).y,rV (dX s).w] 84)).heap.size:=Nat.le_trans hsz (by simp)
 obtain⟨nV,nW,nX⟩:=cells3 eO
 obtain⟨qR,qU,qV⟩:=cells3 gZ
 obtain⟨mO,mQ,mR⟩:=cells3 fM
 have HH:Hid _:=zI E1 (zI hsz (zI eO (zI gZ (zI ak fM))))
 clear E1 hsz eO gZ ak fM
 go_wp2_with fail
 generalize w1.alloc (.cells #[rV (dX s).x,rV (dX s).y,rV (dX s).w] 84)=IL at *
 clear nV nW nX qR qU qV mO mQ mR
 obtain⟨E1,hsz,eO,gZ,ak,fM⟩:=HH.out
 clear HH
 refine (sD mb _ (s+18) i (s+11) (s+11) IL E1.2 (R1.mono (by omega)) (by omega) (by omega)).mono ?_
 rintro e w2 ⟨he,k2⟩
 obtain⟨CG,hv⟩:∃ x:Nat,x=s+18:=⟨_,rfl⟩
 have abD:CG < 256:=by omega
 have he2:e=.returned (rV CG):=by rw[hv];exact he
 have ZT:Hid (CG=s+18):=hv
 clear he hv
 subst he2
 have E2:ah w w2 mb ((L++jC s p l)++[⟨2,s+18,s+11,s+11⟩]) (s+19) (i):=ah.trans E1 k2
 have R2:Room ((L++jC s p l)++[⟨2,s+18,s+11,s+11⟩]) (s+19) 8:=Room.app 1 (k:=8) R1 (Nat.le_of_eq rfl)
 replace eO:=aB.kp eO k2.1
 replace gZ:=aB.kp gZ k2.1
 replace ak:=aB.kp ak k2.1
 replace fM:=aB.kp fM k2.1
 replace hsz:=Nat.le_trans hsz k2.1.size
 clear k2 E1 R1
 obtain⟨nV,nW,nX⟩:=cells3 eO
 obtain⟨qR,qU,qV⟩:=cells3 gZ
 obtain⟨mO,mQ,mR⟩:=cells3 fM
 have HH:Hid _:=zI E2 (zI hsz (zI eO (zI gZ (zI ak fM))))
 clear E2 hsz eO gZ ak fM
 go_wp2_with fail
 clear nV nW nX qR qU qV mO mQ mR
 obtain⟨E2,hsz,eO,gZ,ak,fM⟩:=HH.out
 clear HH
 refine (sD mb _ (s+19) i (s+14) (s+14) w2 E2.2 (R2.mono (by omega)) (by omega) (by omega)).mono ?_
 rintro e w3 ⟨he,k3⟩
 obtain⟨Ih,hv⟩:∃ x:Nat,x=s+19:=⟨_,rfl⟩
 have abE:Ih < 256:=by omega
 have he2:e=.returned (rV Ih):=by rw[hv];exact he
 have ZU:Hid (Ih=s+19):=hv
 clear he hv
 subst he2
 have E3:ah w w3 mb (((L++jC s p l)++[⟨2,s+18,s+11,s+11⟩])++[⟨2,s+19,s+14,s+14⟩]) (s+20) (i):=ah.trans E2 k3
 have R3:Room (((L++jC s p l)++[⟨2,s+18,s+11,s+11⟩])++[⟨2,s+19,s+14,s+14⟩]) (s+20) 7:=Room.app 1 (k:=7) R2 (Nat.le_of_eq rfl)
 replace eO:=aB.kp eO k3.1
 replace gZ:=aB.kp gZ k3.1
 replace ak:=aB.kp ak k3.1
 replace fM:=aB.kp fM k3.1
 replace hsz:=Nat.le_trans hsz k3.1.size
 clear k3 E2 R2
 obtain⟨nV,nW,nX⟩:=cells3 eO
 obtain⟨qR,qU,qV⟩:=cells3 gZ
 obtain⟨mO,mQ,mR⟩:=cells3 fM
 have HH:Hid _:=zI E3 (zI hsz (zI eO (zI gZ (zI ak fM))))
 clear E3 hsz eO gZ ak fM
 go_wp2_with fail
 clear nV nW nX qR qU qV mO mQ mR
 obtain⟨E3,hsz,eO,gZ,ak,fM⟩:=HH.out
 clear HH
 refine (oQ mb _ (s+20) i CG p.w p.x (s+17) w3 E3.2 (R3.mono (by omega)) abD wm zq (by omega)).mono ?_
 rintro e w4 ⟨he,k4⟩
 obtain⟨lT,hv⟩:∃ x:Nat,x=s+20+2:=⟨_,rfl⟩
 have Zv:lT < 256:=by omega
 have he2:e=.returned (rV lT):=by rw[hv];exact he
 have pU:Hid (lT=s+20+2):=hv
 clear he hv
 subst he2
 have E4:ah w w4 mb ((((L++jC s p l)++[⟨2,s+18,s+11,s+11⟩])++[⟨2,s+19,s+14,s+14⟩])++bS (s+20) CG p.w p.x (s+17)) (s+23) (i):=ah.trans E3 k4
 have R4:Room ((((L++jC s p l)++[⟨2,s+18,s+11,s+11⟩])++[⟨2,s+19,s+14,s+14⟩])++bS (s+20) CG p.w p.x (s+17)) (s+23) 4:=Room.app 3 (k:=4) R3 (Nat.le_of_eq rfl)
 replace eO:=aB.kp eO k4.1
 replace gZ:=aB.kp gZ k4.1
 replace ak:=aB.kp ak k4.1
 replace fM:=aB.kp fM k4.1
 replace hsz:=Nat.le_trans hsz k4.1.size
 clear k4 E3 R3
 obtain⟨nV,nW,nX⟩:=cells3 eO
 obtain⟨qR,qU,qV⟩:=cells3 gZ
 obtain⟨mO,mQ,mR⟩:=cells3 fM
 have HH:Hid _:=zI E4 (zI hsz (zI eO (zI gZ (zI ak fM))))
 clear E4 hsz eO gZ ak fM
 go_wp2_with fail
 clear nV nW nX qR qU qV mO mQ mR
 obtain⟨E4,hsz,eO,gZ,ak,fM⟩:=HH.out
 clear HH
 refine (oQ mb _ (s+23) i Ih p.w p.y (s+17) w4 E4.2 (R4.mono (by omega)) abE wm zu (by omega)).mono ?_
 rintro e w5 ⟨he,k5⟩
 obtain⟨jl,hv⟩:∃ x:Nat,x=s+23+2:=⟨_,rfl⟩
 have WG:jl < 256:=by omega
 have he2:e=.returned (rV jl):=by rw[hv];exact he
 have oD:Hid (jl=s+23+2):=hv
 clear he hv
 subst he2
 have E5:ah w w5 mb (((((L++jC s p l)++[⟨2,s+18,s+11,s+11⟩])++[⟨2,s+19,s+14,s+14⟩])++bS (s+20) CG p.w p.x (s+17))++bS (s+23) Ih p.w p.y (s+17)) (s+26) (i):=ah.trans E4 k5
 have R5:Room (((((L++jC s p l)++[⟨2,s+18,s+11,s+11⟩])++[⟨2,s+19,s+14,s+14⟩])++bS (s+20) CG p.w p.x (s+17))++bS (s+23) Ih p.w p.y (s+17)) (s+26) 1:=Room.app 3 (k:=1) R4 (Nat.le_of_eq rfl)
 replace eO:=aB.kp eO k5.1
 replace gZ:=aB.kp gZ k5.1
 replace ak:=aB.kp ak k5.1
 replace fM:=aB.kp fM k5.1
 replace hsz:=Nat.le_trans hsz k5.1.size
 clear k5 E4 R4
 obtain⟨nV,nW,nX⟩:=cells3 eO
 obtain⟨qR,qU,qV⟩:=cells3 gZ
 obtain⟨mO,mQ,mR⟩:=cells3 fM
 have HH:Hid _:=zI E5 (zI hsz (zI eO (zI gZ (zI ak fM))))
 clear E5 hsz eO gZ ak fM
 go_wp2_with fail
 clear nV nW nX qR qU qV mO mQ mR
 obtain⟨E5,hsz,eO,gZ,ak,fM⟩:=HH.out
 clear HH
 refine (fU mb _ (s+26) i (s+17) p.w w5 E5.2 (R5.mono (by omega)) (by omega) wm).mono ?_
 rintro e w6 ⟨he,k6⟩
 obtain⟨jX,hv⟩:∃ x:Nat,x=s+26:=⟨_,rfl⟩
 have WE:jX < 256:=by omega
 have he2:e=.returned (rV jX):=by rw[hv];exact he
 have oC:Hid (jX=s+26):=hv
 clear he hv
 subst he2
 have E6:ah w w6 mb ((((((L++jC s p l)++[⟨2,s+18,s+11,s+11⟩])++[⟨2,s+19,s+14,s+14⟩])++bS (s+20) CG p.w p.x (s+17))++bS (s+23) Ih p.w p.y (s+17))++[⟨4,s+26,s+17,p.w⟩]) (s+27) (i):=ah.trans E5 k6
 replace eO:=aB.kp eO k6.1
 replace gZ:=aB.kp gZ k6.1
 replace ak:=aB.kp ak k6.1
 replace fM:=aB.kp fM k6.1
 replace hsz:=Nat.le_trans hsz k6.1.size
 clear k6 E5 R5
 have z0:=dN ak 0
 have z1:=dN ak 1
 have z2:=dN ak 2
 obtain⟨y0,y1,y2⟩:=cells3 ak
 have HC:Hid _:=cells3 (dD (x':=rV (lT)) (y':=rV (jl)) (z':=rV (jX)) ak)
 have HE:Hid _:=E6.st (x':=rV (lT)) (y':=rV (jl)) (z':=rV (jX)) ak (by omega)
 have hlt:=lt_of_block ak
 clear E6 eO gZ ak fM
 go_wp2_with fail
 obtain⟨g0,g1,g2⟩:=HC.out
 unfold gL at g0 g1 g2
 have hL:((((((L++jC s p l)++[⟨2,s+18,s+11,s+11⟩])++[⟨2,s+19,s+14,s+14⟩])++bS (s+20) CG p.w p.x (s+17))++bS (s+23) Ih p.w p.y (s+17))++[⟨4,s+26,s+17,p.w⟩])=L++Eh s p l:=by
  have abN:=ZT.out
  have abO:=ZU.out
  have MB:=pU.out
  have Jm:=oD.out
  have Jl:=oC.out
  subst abN abO MB Jm Jl
  simp only[List.append_assoc]
  rfl
 have hR:(.agg #[rV (lT),rV (jl),rV (jX)]:Value)=dZ (wE s):=by rw[pU.out,oD.out,oC.out];rfl
 exact bodyPost_ret (v:=.agg #[rV (lT),rV (jl),rV (jX)]) (by simp[results,Tryz.results88,go_sem,g0,g1,g2]) rfl ⟨by rw[hR],by rw[<- hL];exact HE.out⟩
theorem GD (mb:Nat) (L:List Stp) (s i:Nat) (a b:Tr) (w:World) (hM:dS w mb L s i) (hroom:Room L s 26) (nL:S8 a) (oI:S8 b) :
  Calls Tryz.prog 135 #[mP mb,dZ a,dZ b] w fun e w'=>e=.returned (dZ (dz s))/\ah w w' mb (L++rF s a b) (s+26) (i+0):=by
 obtain⟨pF,pG,nM⟩:=nL
 obtain⟨qI,qJ,pI⟩:=oI
 have r2:=hroom.2
 have E0:ah w (((((w.alloc (aS a))).alloc (aS b))).alloc (d9)) mb L s i:=(ah.al (ah.al (ah.al (show ah w w mb L s i from ⟨Kp.refl mb w,hM⟩) _) _) _)
 have bg:kT (((((w.alloc (aS a))).alloc (aS b))).alloc (d9)) (w.heap.size) a:=by
  have h:=heap_alloc_new w (aS a)
  exact (aB.al (aB.al h _) _)
 have bA:kT (((((w.alloc (aS a))).alloc (aS b))).alloc (d9)) (w.heap.size+1) b:=by
  have h:=heap_alloc_new (w.alloc (aS a)) (aS b)
  simp only[bG]at h
  exact (aB.al h _)
 have ak:aB (((((w.alloc (aS a))).alloc (aS b))).alloc (d9)) (w.heap.size+1+1) (.int .u8 0) (.int .u8 0) (.int .u8 0):=by
  have h:=heap_alloc_new (((w.alloc (aS a))).alloc (aS b)) (d9)
  simp only[bG]at h
  exact h
 have hsz:w.heap.size+3<=((((((w.alloc (aS a))).alloc (aS b))).alloc (d9))).heap.size:=by simp only[bG];omega
 go_in
 go_wp2_with fail
 generalize (((w.alloc (.cells #[rV a.x,rV a.y,rV a.w] 84)).alloc (.cells #[rV b.x,rV b.y,rV b.w] 84)).alloc (.cells #[.int .u8 0,.int .u8 0,.int .u8 0] 84))=w0 at *
 refine (GJ mb _ s i a b w0 E0.2 (hroom.mono (by omega)) ⟨pF,pG,nM⟩ ⟨qI,qJ,pI⟩).mono ?_
 rintro e w1 ⟨rfl,k1⟩
 have E1:ah w w1 mb (L++uI s a b) (s+8) (i):=ah.trans E0 k1
 have R1:Room (L++uI s a b) (s+8) 18:=Room.app 8 (k:=18) hroom (Nat.le_of_eq rfl)
 replace bg:=aB.kp bg k1.1
 replace bA:=aB.kp bA k1.1
 replace ak:=aB.kp ak k1.1
 replace hsz:=Nat.le_trans hsz k1.1.size
 clear k1 E0 hroom
 have gq:kT (w1.alloc (.cells #[rV (gP s).x,rV (gP s).y,rV (gP s).w] 84)) w1.heap.size (gP s):=heap_alloc_new w1 _
 replace E1:=E1.al (.cells #[rV (gP s).x,rV (gP s).y,rV (gP s).w] 84)
 replace bg:=aB.al bg (.cells #[rV (gP s).x,rV (gP s).y,rV (gP s).w] 84)
 replace bA:=aB.al bA (.cells #[rV (gP s).x,rV (gP s).y,rV (gP s).w] 84)
 replace ak:=aB.al ak (.cells #[rV (gP s).x,rV (gP s).y,rV (gP s).w] 84)
 replace hsz:_<=(w1.alloc (.cells #[rV (gP s).x,rV (gP s).y,rV (gP s).w] 84)).heap.size:=Nat.le_trans hsz (by simp)
 obtain⟨fB,fC,fD⟩:=cells3 bg
 obtain⟨fE,fF,fG⟩:=cells3 bA
 obtain⟨YX,YZ,Y0⟩:=cells3 gq
 have HH:Hid _:=zI E1 (zI hsz (zI bg (zI bA (zI ak gq))))
 clear E1 hsz bg bA ak gq
 go_wp2_with fail
 generalize w1.alloc (.cells #[rV (gP s).x,rV (gP s).y,rV (gP s).w] 84)=IL at *
 clear fB fC fD fE fF fG YX YZ Y0
 obtain⟨E1,hsz,bg,bA,ak,gq⟩:=HH.out
 clear HH
 refine (lJ mb _ (s+8) i a b IL E1.2 (R1.mono (by omega)) ⟨pF,pG,nM⟩ ⟨qI,qJ,pI⟩).mono ?_
 rintro e w2 ⟨rfl,k2⟩
 have E2:ah w w2 mb ((L++uI s a b)++dM (s+8) a b) (s+17) (i):=ah.trans E1 k2
 have R2:Room ((L++uI s a b)++dM (s+8) a b) (s+17) 9:=Room.app 9 (k:=9) R1 (Nat.le_of_eq rfl)
 replace bg:=aB.kp bg k2.1
 replace bA:=aB.kp bA k2.1
 replace ak:=aB.kp ak k2.1
 replace gq:=aB.kp gq k2.1
 replace hsz:=Nat.le_trans hsz k2.1.size
 clear k2 E1 R1
 have bE:kT (w2.alloc (.cells #[rV (aA (s+8)).x,rV (aA (s+8)).y,rV (aA (s+8)).w] 84)) w2.heap.size (aA (s+8)):=heap_alloc_new w2 _
 replace E2:=E2.al (.cells #[rV (aA (s+8)).x,rV (aA (s+8)).y,rV (aA (s+8)).w] 84)
 replace bg:=aB.al bg (.cells #[rV (aA (s+8)).x,rV (aA (s+8)).y,rV (aA (s+8)).w] 84)
 replace bA:=aB.al bA (.cells #[rV (aA (s+8)).x,rV (aA (s+8)).y,rV (aA (s+8)).w] 84)
 replace ak:=aB.al ak (.cells #[rV (aA (s+8)).x,rV (aA (s+8)).y,rV (aA (s+8)).w] 84)
 replace gq:=aB.al gq (.cells #[rV (aA (s+8)).x,rV (aA (s+8)).y,rV (aA (s+8)).w] 84)
 replace hsz:_<=(w2.alloc (.cells #[rV (aA (s+8)).x,rV (aA (s+8)).y,rV (aA (s+8)).w] 84)).heap.size:=Nat.le_trans hsz (by simp)
 obtain⟨fB,fC,fD⟩:=cells3 bg
 obtain⟨fE,fF,fG⟩:=cells3 bA
 obtain⟨YX,YZ,Y0⟩:=cells3 gq
 obtain⟨vC,vD,vE⟩:=cells3 bE
 have HH:Hid _:=zI E2 (zI hsz (zI bg (zI bA (zI ak (zI gq bE)))))
 clear E2 hsz bg bA ak gq bE
 go_wp2_with fail
 generalize w2.alloc (.cells #[rV (aA (s+8)).x,rV (aA (s+8)).y,rV (aA (s+8)).w] 84)=w2b at *
 clear fB fC fD fE fF fG YX YZ Y0 vC vD vE
 obtain⟨E2,hsz,bg,bA,ak,gq,bE⟩:=HH.out
 clear HH
 refine (AL mb _ (s+17) i (gP s) (aA (s+8)) w2b E2.2 (R2.mono (by omega)) ⟨by show s+2 < 256;first | exact (by omega) | omega,by show s+5 < 256;first | exact (by omega) | omega,by show s+7 < 256;first | exact (by omega) | omega⟩ ⟨by show s+10 < 256;first | exact (by omega) | omega,by show s+13 < 256;first | exact (by omega) | omega,by show s+16 < 256;first | exact (by omega) | omega⟩).mono ?_
 rintro e w3 ⟨rfl,k3⟩
 have E3:ah w w3 mb (((L++uI s a b)++dM (s+8) a b)++tC (s+17) (gP s) (aA (s+8))) (s+26) (i):=ah.trans E2 k3
 replace bg:=aB.kp bg k3.1
 replace bA:=aB.kp bA k3.1
 replace ak:=aB.kp ak k3.1
 replace gq:=aB.kp gq k3.1
 replace bE:=aB.kp bE k3.1
 replace hsz:=Nat.le_trans hsz k3.1.size
 clear k3 E2 R2
 have z0:=dN ak 0
 have z1:=dN ak 1
 have z2:=dN ak 2
 obtain⟨y0,y1,y2⟩:=cells3 ak
 have HC:Hid _:=cells3 (dD (x':=rV ((eD (s+17)).x)) (y':=rV ((eD (s+17)).y)) (z':=rV ((eD (s+17)).w)) ak)
 have HE:Hid _:=E3.st (x':=rV ((eD (s+17)).x)) (y':=rV ((eD (s+17)).y)) (z':=rV ((eD (s+17)).w)) ak (by omega)
 have hlt:=lt_of_block ak
 clear E3 bg bA ak gq bE
 go_wp2_with fail
 obtain⟨g0,g1,g2⟩:=HC.out
 unfold gL at g0 g1 g2
 have hL:(((L++uI s a b)++dM (s+8) a b)++tC (s+17) (gP s) (aA (s+8)))=L++rF s a b:=by
  simp only[List.append_assoc]
  rfl
 have hR:(.agg #[rV ((eD (s+17)).x),rV ((eD (s+17)).y),rV ((eD (s+17)).w)]:Value)=dZ (dz s):=rfl
 exact bodyPost_ret (v:=.agg #[rV ((eD (s+17)).x),rV ((eD (s+17)).y),rV ((eD (s+17)).w)]) (by simp[results,Tryz.results135,go_sem,g0,g1,g2]) rfl ⟨by rw[hR],by rw[<- hL];exact HE.out⟩
theorem QT (mb:Nat) (L:List Stp) (s i:Nat) (a b c:Tr) (w:World) (hM:dS w mb L s i) (hroom:Room L s 61) (nL:S8 a) (oI:S8 b) (h_c:S8 c) :
  Calls Tryz.prog 89 #[mP mb,dZ a,dZ b,dZ c] w fun e w'=>e=.returned (dZ (uT s))/\ah w w' mb (L++zW s a b c) (s+61) (i+0):=by
 obtain⟨pF,pG,nM⟩:=nL
 obtain⟨qI,qJ,pI⟩:=oI
 obtain⟨FX,FY,FW⟩:=h_c
 have r2:=hroom.2
 have E0:ah w (((((((w.alloc (aS a))).alloc (aS b))).alloc (aS c))).alloc (d9)) mb L s i:=(ah.al (ah.al (ah.al (ah.al (show ah w w mb L s i from ⟨Kp.refl mb w,hM⟩) _) _) _) _)
 have bg:kT (((((((w.alloc (aS a))).alloc (aS b))).alloc (aS c))).alloc (d9)) (w.heap.size) a:=by
  have h:=heap_alloc_new w (aS a)
  exact (aB.al (aB.al (aB.al h _) _) _)
 have bA:kT (((((((w.alloc (aS a))).alloc (aS b))).alloc (aS c))).alloc (d9)) (w.heap.size+1) b:=by
  have h:=heap_alloc_new (w.alloc (aS a)) (aS b)
  simp only[bG]at h
  exact (aB.al (aB.al h _) _)
 have dF:kT (((((((w.alloc (aS a))).alloc (aS b))).alloc (aS c))).alloc (d9)) (w.heap.size+1+1) c:=by
  have h:=heap_alloc_new (((w.alloc (aS a))).alloc (aS b)) (aS c)
  simp only[bG]at h
  exact (aB.al h _)
 have ak:aB (((((((w.alloc (aS a))).alloc (aS b))).alloc (aS c))).alloc (d9)) (w.heap.size+1+1+1) (.int .u8 0) (.int .u8 0) (.int .u8 0):=by
  have h:=heap_alloc_new (((((w.alloc (aS a))).alloc (aS b))).alloc (aS c)) (d9)
  simp only[bG]at h
  exact h
 have hsz:w.heap.size+4<=((((((((w.alloc (aS a))).alloc (aS b))).alloc (aS c))).alloc (d9))).heap.size:=by simp only[bG];omega
 go_in
 go_wp2_with fail
 generalize ((((w.alloc (.cells #[rV a.x,rV a.y,rV a.w] 84)).alloc (.cells #[rV b.x,rV b.y,rV b.w] 84)).alloc (.cells #[rV c.x,rV c.y,rV c.w] 84)).alloc (.cells #[.int .u8 0,.int .u8 0,.int .u8 0] 84))=w0 at *
 refine (GD mb _ s i a b w0 E0.2 (hroom.mono (by omega)) ⟨pF,pG,nM⟩ ⟨qI,qJ,pI⟩).mono ?_
 rintro e w1 ⟨rfl,k1⟩
 have E1:ah w w1 mb (L++rF s a b) (s+26) (i):=ah.trans E0 k1
 have R1:Room (L++rF s a b) (s+26) 35:=Room.app 26 (k:=35) hroom (Nat.le_of_eq rfl)
 replace bg:=aB.kp bg k1.1
 replace bA:=aB.kp bA k1.1
 replace dF:=aB.kp dF k1.1
 replace ak:=aB.kp ak k1.1
 replace hsz:=Nat.le_trans hsz k1.1.size
 clear k1 E0 hroom
 have fM:kT (w1.alloc (.cells #[rV (dz s).x,rV (dz s).y,rV (dz s).w] 84)) w1.heap.size (dz s):=heap_alloc_new w1 _
 replace E1:=E1.al (.cells #[rV (dz s).x,rV (dz s).y,rV (dz s).w] 84)
 replace bg:=aB.al bg (.cells #[rV (dz s).x,rV (dz s).y,rV (dz s).w] 84)
 replace bA:=aB.al bA (.cells #[rV (dz s).x,rV (dz s).y,rV (dz s).w] 84)
 replace dF:=aB.al dF (.cells #[rV (dz s).x,rV (dz s).y,rV (dz s).w] 84)
 replace ak:=aB.al ak (.cells #[rV (dz s).x,rV (dz s).y,rV (dz s).w] 84)
 replace hsz:_<=(w1.alloc (.cells #[rV (dz s).x,rV (dz s).y,rV (dz s).w] 84)).heap.size:=Nat.le_trans hsz (by simp)
 obtain⟨fB,fC,fD⟩:=cells3 bg
 obtain⟨fE,fF,fG⟩:=cells3 bA
 obtain⟨kF,kG,kH⟩:=cells3 dF
 obtain⟨mO,mQ,mR⟩:=cells3 fM
 have HH:Hid _:=zI E1 (zI hsz (zI bg (zI bA (zI dF (zI ak fM)))))
 clear E1 hsz bg bA dF ak fM
 go_wp2_with fail
 generalize w1.alloc (.cells #[rV (dz s).x,rV (dz s).y,rV (dz s).w] 84)=IL at *
 clear fB fC fD fE fF fG kF kG kH mO mQ mR
 obtain⟨E1,hsz,bg,bA,dF,ak,fM⟩:=HH.out
 clear HH
 refine (GD mb _ (s+26) i a c IL E1.2 (R1.mono (by omega)) ⟨pF,pG,nM⟩ ⟨FX,FY,FW⟩).mono ?_
 rintro e w2 ⟨rfl,k2⟩
 have E2:ah w w2 mb ((L++rF s a b)++rF (s+26) a c) (s+52) (i):=ah.trans E1 k2
 have R2:Room ((L++rF s a b)++rF (s+26) a c) (s+52) 9:=Room.app 26 (k:=9) R1 (Nat.le_of_eq rfl)
 replace bg:=aB.kp bg k2.1
 replace bA:=aB.kp bA k2.1
 replace dF:=aB.kp dF k2.1
 replace ak:=aB.kp ak k2.1
 replace fM:=aB.kp fM k2.1
 replace hsz:=Nat.le_trans hsz k2.1.size
 clear k2 E1 R1
 have bE:kT (w2.alloc (.cells #[rV (dz (s+26)).x,rV (dz (s+26)).y,rV (dz (s+26)).w] 84)) w2.heap.size (dz (s+26)):=heap_alloc_new w2 _
 replace E2:=E2.al (.cells #[rV (dz (s+26)).x,rV (dz (s+26)).y,rV (dz (s+26)).w] 84)
 replace bg:=aB.al bg (.cells #[rV (dz (s+26)).x,rV (dz (s+26)).y,rV (dz (s+26)).w] 84)
 replace bA:=aB.al bA (.cells #[rV (dz (s+26)).x,rV (dz (s+26)).y,rV (dz (s+26)).w] 84)
 replace dF:=aB.al dF (.cells #[rV (dz (s+26)).x,rV (dz (s+26)).y,rV (dz (s+26)).w] 84)
 replace ak:=aB.al ak (.cells #[rV (dz (s+26)).x,rV (dz (s+26)).y,rV (dz (s+26)).w] 84)
 replace fM:=aB.al fM (.cells #[rV (dz (s+26)).x,rV (dz (s+26)).y,rV (dz (s+26)).w] 84)
 replace hsz:_<=(w2.alloc (.cells #[rV (dz (s+26)).x,rV (dz (s+26)).y,rV (dz (s+26)).w] 84)).heap.size:=Nat.le_trans hsz (by simp)
 obtain⟨fB,fC,fD⟩:=cells3 bg
 obtain⟨fE,fF,fG⟩:=cells3 bA
 obtain⟨kF,kG,kH⟩:=cells3 dF
 obtain⟨mO,mQ,mR⟩:=cells3 fM
 obtain⟨vC,vD,vE⟩:=cells3 bE
 have HH:Hid _:=zI E2 (zI hsz (zI bg (zI bA (zI dF (zI ak (zI fM bE))))))
 clear E2 hsz bg bA dF ak fM bE
 go_wp2_with fail
 generalize w2.alloc (.cells #[rV (dz (s+26)).x,rV (dz (s+26)).y,rV (dz (s+26)).w] 84)=w2b at *
 clear fB fC fD fE fF fG kF kG kH mO mQ mR vC vD vE
 obtain⟨E2,hsz,bg,bA,dF,ak,fM,bE⟩:=HH.out
 clear HH
 refine (lJ mb _ (s+52) i (dz s) (dz (s+26)) w2b E2.2 (R2.mono (by omega)) ⟨by show s+19 < 256;first | exact (by omega) | omega,by show s+20 < 256;first | exact (by omega) | omega,by show s+25 < 256;first | exact (by omega) | omega⟩ ⟨by show s+45 < 256;first | exact (by omega) | omega,by show s+46 < 256;first | exact (by omega) | omega,by show s+51 < 256;first | exact (by omega) | omega⟩).mono ?_
 rintro e w3 ⟨rfl,k3⟩
 have E3:ah w w3 mb (((L++rF s a b)++rF (s+26) a c)++dM (s+52) (dz s) (dz (s+26))) (s+61) (i):=ah.trans E2 k3
 replace bg:=aB.kp bg k3.1
 replace bA:=aB.kp bA k3.1
 replace dF:=aB.kp dF k3.1
 replace ak:=aB.kp ak k3.1
 replace fM:=aB.kp fM k3.1
 replace bE:=aB.kp bE k3.1
 replace hsz:=Nat.le_trans hsz k3.1.size
 clear k3 E2 R2
 have z0:=dN ak 0
 have z1:=dN ak 1
 have z2:=dN ak 2
 obtain⟨y0,y1,y2⟩:=cells3 ak
 have HC:Hid _:=cells3 (dD (x':=rV ((aA (s+52)).x)) (y':=rV ((aA (s+52)).y)) (z':=rV ((aA (s+52)).w)) ak)
 have HE:Hid _:=E3.st (x':=rV ((aA (s+52)).x)) (y':=rV ((aA (s+52)).y)) (z':=rV ((aA (s+52)).w)) ak (by omega)
 have hlt:=lt_of_block ak
 clear E3 bg bA dF ak fM bE
 go_wp2_with fail
 obtain⟨g0,g1,g2⟩:=HC.out
 unfold gL at g0 g1 g2
 have hL:(((L++rF s a b)++rF (s+26) a c)++dM (s+52) (dz s) (dz (s+26)))=L++zW s a b c:=by
  simp only[List.append_assoc]
  rfl
 have hR:(.agg #[rV ((aA (s+52)).x),rV ((aA (s+52)).y),rV ((aA (s+52)).w)]:Value)=dZ (uT s):=rfl
 exact bodyPost_ret (v:=.agg #[rV ((aA (s+52)).x),rV ((aA (s+52)).y),rV ((aA (s+52)).w)]) (by simp[results,Tryz.results89,go_sem,g0,g1,g2]) rfl ⟨by rw[hR],by rw[<- hL];exact HE.out⟩
end Go.Proofs.YtmnfndpbblpjiabGreatDoor

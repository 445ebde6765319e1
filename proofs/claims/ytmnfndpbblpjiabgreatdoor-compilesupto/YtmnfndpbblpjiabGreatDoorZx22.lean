/- The maker in memory; a step that is added; the next register. -/
import Derived.Test.YtmnfndpbblpjiabGreatDoorZx08
import Derived.Test.YtmnfndpbblpjiabGreatDoorZx16
set_option maxHeartbeats 1600000
set_option maxRecDepth 4000
namespace Go.Proofs.YtmnfndpbblpjiabGreatDoor
open Go.RowKit Pu
def Stm (w:World) (k:Nat):Prop:=∃ c z,w.heap[k]?=some (.cells c 94 z)\/w.heap[k]?=some (.cells c 82 z)
def Kp (mb:Nat) (w w':World):Prop:=Mod (fun k=>Stm w k/\mb<=k) w w'
section
variable {mb:Nat}
theorem Kp.refl (mb:Nat) (w:World):Kp mb w w:=Mod.refl _ w
theorem Kp.trans {a b c:World} (h:Kp mb a b) (k:Kp mb b c):Kp mb a c :=
 ⟨k.os.trans h.os,k.tape.trans h.tape,k.output.trans h.output,Nat.le_trans h.size k.size,fun i hi hn=>by
  have e:=h.block i hi hn
  rw[<- e]
  refine k.block i (Nat.lt_of_lt_of_le hi h.size) (fun ⟨⟨c,z,hc⟩,hb⟩=>hn ⟨⟨c,z,?_⟩,hb⟩)
  rwa [e]at hc⟩
theorem Kp.of {w w':World} (h:Mod (fun _=>False) w w'):Kp mb w w':=h.mono (fun _ _ f=>f.elim)
theorem Kp.alloc {a b:World} (h:Kp mb a b) (o:Obj):Kp mb a (b.alloc o):=Mod.alloc h o
theorem Kp.keep {a b:World} (h:Kp mb a b) {k:Nat} {c:Array Value} {t:TypeId} {z:Nat × Nat} (hk:a.heap[k]?=some (.cells c t z)) (h1:t≠94) (h2:t≠82):b.heap[k]?=some (.cells c t z):=by
 refine Mod.keep h hk ?_
 rintro⟨⟨c',z',e | e⟩,-⟩
 ·rw[hk]at e;cases e;exact h1 rfl
 ·rw[hk]at e;cases e;exact h2 rfl
end
def dS (w:World) (mb:Nat) (L:List Stp) (s i:Nat):Prop:=∃ v,w.heap[mb]?=some (.cells #[v,.int .u8 s,.int .u8 i] 82 (0,0))/\gM w (mb+1) v L
theorem dS.lt {w:World} {mb s i:Nat} {L:List Stp} (h:dS w mb L s i):mb < w.heap.size:=by obtain⟨v,h1,-⟩:=h;exact lt_of_block h1
theorem dS.mod {w w':World} {mb s i:Nat} {L:List Stp} (h:dS w mb L s i) (hm:Mod (fun _=>False) w w'):dS w' mb L s i:=by
 obtain⟨v,h1,h2⟩:=h
 exact⟨v,hm.keep h1 (fun f=>f),h2.mod hm⟩
theorem dS.alloc {w:World} {mb s i:Nat} {L:List Stp} (h:dS w mb L s i) (o:Obj):dS (w.alloc o) mb L s i:=h.mod ((Mod.refl _ w).alloc o)
theorem lV (mb:Nat) (L:List Stp) (s i:Nat) (t:Stp) (w:World) (hM:dS w mb L s i) (hl:L.length<=3000) (ht:Small t) :
  Calls Tryz.prog 49 #[.pointer (some ⟨mb,0,none⟩),.int .u8 t.op,.int .u8 t.x,.int .u8 t.y,.int .u8 t.z] w fun e w'=>e=.returned (.tuple #[])/\Kp mb w w'/\dS w' mb (L++[t]) s i:=by
 obtain⟨i0,hi,hz0,hz1,hz2⟩:=info_parts Tryz.infoSt
 obtain⟨v,hb,hP⟩:=hM
 unfold gM at hP
 obtain⟨po,VF,rfl,-⟩:=aj hP
 obtain⟨c0,c1,c2⟩:=cells3 hb
 have hlt:=lt_of_block hb
 obtain⟨t1,t2,t3,t4⟩:=ht
 have hst:∀ k,(Value.slice po L.length VF).ownBlock=some k->Stm w k/\mb<=k:=by
  intro k hk
  have hlo:=(hP.lt k hk).1
  obtain⟨_,⟨he,_⟩ | ⟨g1,c1,XR,he1,_,hb1,_⟩⟩:=hP
  ·rw[he]at hk;simp[Value.ownBlock]at hk
  ·rw[he1]at hk
   simp[Value.ownBlock]at hk
   subst hk
   exact⟨⟨_,_,.inl hb1⟩,by omega⟩
 have HST:Hid _:=hst
 have HB:Hid _:=hb
 clear hst hb
 go_in
 go_wp2_with (at_builtin;refine wpList_append_own _ rfl _ _ 61 rfl (mb+1) 94 i0 _ 4 4 Tryz.underlying61 hi hz0 hz1 hz2 rfl (by decide) _ _ _ rfl (hP.alloc _) ⟨w.heap.size,0,none⟩ 1 1 (fO t) rfl rfl ?c1 ?c2 ?c3 ?c4 ?c5 ?_)
 case c1=>exact World.news_of_block (cs:=#[.int .u8 t.op,.int .u8 t.x,.int .u8 t.y,.int .u8 t.z]) (t:=94) (fr:=(0,0)) (heap_alloc_new w _)
 case c2=>simp[fO,Value.oneCell']
 case c3=>unfold maxLen;omega
 case c4=>omega
 case c5=>simp;omega
 intro v' w4 aG hgrow _
 obtain⟨vo,dO,rfl,-⟩:=aj aG
 have hgm:Mod (fun i=>mb+1<=i) w w4:=((Mod.refl _ w).alloc _).grown hgrow (fun i hi _=>(hP.lt i hi).1)
 have hkp:Kp mb w w4:=Mod.grown ((Mod.refl _ w).alloc _) hgrow (fun i hi _=>HST.out i hi)
 have hb4:=hgm.keep HB.out (by omega)
 have f0:=dN hb4 0
 have h5:=Sy (z':=.slice vo (L.length+1) dO) hb4
 have aaJ:Kp mb w (w4.setCell ⟨mb,0,none⟩ (.slice vo (L.length+1) dO)):=Mod.setCell hkp ⟨mb,0,none⟩ (.slice vo (L.length+1) dO) (fun _=>⟨⟨_,_,.inr HB.out⟩,Nat.le_refl _⟩)
 have hP5:gM (w4.setCell ⟨mb,0,none⟩ (.slice vo (L.length+1) dO)) (mb+1) (.slice vo (L.length+1) dO) (L++[t]):=by
  unfold gM;rw[<- pJ]
  refine au (p:=fun q=>q=mb) (by simpa using aG) ((Mod.refl _ w4).setCell ⟨mb,0,none⟩ (.slice vo (L.length+1) dO) (fun _=>rfl)) (fun g h1 h2=>by omega)
 obtain⟨d0,d1,d2⟩:=cells3 hb4
 have HX:Hid _:=zI aaJ (zI h5 hP5)
 clear aG hgrow hgm hkp h5 aaJ hP5 hP HST HB hb4
 go_wp2
 exact bodyPost_end (v:=.tuple #[]) (by simp[results,Tryz.results49]) rfl ⟨rfl,HX.out.1,_,HX.out.2.1,HX.out.2.2⟩
theorem dS.set1 {w:World} {mb s i:Nat} {L:List Stp} (h:dS w mb L s i) (j:Nat):dS (w.setCell ⟨mb,1,none⟩ (.int .u8 j)) mb L j i/\Kp mb w (w.setCell ⟨mb,1,none⟩ (.int .u8 j)):=by
 obtain⟨v,hb,hP⟩:=h
 refine⟨⟨v,Sz hb,?_⟩,Mod.setCell (Mod.refl _ w) ⟨mb,1,none⟩ _ (fun _=>⟨⟨_,_,.inr hb⟩,Nat.le_refl _⟩)⟩
 exact au (p:=fun q=>q=mb) hP ((Mod.refl _ w).setCell ⟨mb,1,none⟩ _ (fun _=>rfl)) (fun g h1 h2=>by omega)
theorem dS.set2 {w:World} {mb s i:Nat} {L:List Stp} (h:dS w mb L s i) (j:Nat):dS (w.setCell ⟨mb,2,none⟩ (.int .u8 j)) mb L s j/\Kp mb w (w.setCell ⟨mb,2,none⟩ (.int .u8 j)):=by
 obtain⟨v,hb,hP⟩:=h
 refine⟨⟨v,EB hb,?_⟩,Mod.setCell (Mod.refl _ w) ⟨mb,2,none⟩ _ (fun _=>⟨⟨_,_,.inr hb⟩,Nat.le_refl _⟩)⟩
 exact au (p:=fun q=>q=mb) hP ((Mod.refl _ w).setCell ⟨mb,2,none⟩ _ (fun _=>rfl)) (fun g h1 h2=>by omega)
theorem dS.cells {w:World} {mb s i:Nat} {L:List Stp} (h:dS w mb L s i):w.cell? ⟨mb,1,none⟩=some (.int .u8 s)/\w.cell? ⟨mb,2,none⟩=some (.int .u8 i)/\∀ k,w.frozen? ⟨mb,k,none⟩=false:=by
 obtain⟨v,hb,-⟩:=h
 obtain⟨c0,c1,c2⟩:=cells3 hb
 exact⟨c1,c2,fun k=>dN hb k⟩
def Room (L:List Stp) (s k:Nat):Prop:=L.length+k<=2500/\s+k<=200
theorem Room.mono {L:List Stp} {s k j:Nat} (h:Room L s k) (hj:j<=k):Room L s j:=⟨by have:=h.1;omega,by have:=h.2;omega⟩
theorem Room.app {L F:List Stp} {s k:Nat} (n:Nat) (h:Room L s (n+k)) (hF:F.length<=n):Room (L++F) (s+n) k:=⟨by have:=h.1;simp;omega,by have:=h.2;omega⟩
def ah (w w':World) (mb:Nat) (L:List Stp) (s i:Nat):Prop:=Kp mb w w'/\dS w' mb L s i
theorem nD (mb:Nat) (L:List Stp) (s i op y z:Nat) (w:World) (hM:dS w mb L s i) (hr:Room L s 1) (h1:op < 256) (h2:y < 256) (h3:z < 256) :
  Calls Tryz.prog 174 #[.pointer (some ⟨mb,0,none⟩),.int .u8 op,.int .u8 y,.int .u8 z] w fun e w'=>e=.returned (.int .u8 s)/\ah w w' mb (L++[⟨op,s,y,z⟩]) (s+1) i:=by
 obtain⟨r1,r2⟩:=hr
 have w1:IntKind.u8.wrap ((s:Int)+1)=((s+1:Nat):Int):=by simp[IntKind.wrap,IntKind.signed,IntKind.bits];omega
 obtain⟨c1,c2,f⟩:=hM.cells
 have f1:=f 1
 obtain⟨hM1,hk1⟩:=hM.set1 (s+1)
 have hlt:=hM.lt
 have hadd:=lV mb L (s+1) i ⟨op,s,y,z⟩ _ hM1 (by omega) ⟨h1,by show s < 256;omega,h2,h3⟩
 have HK:Hid _:=hk1
 clear hM hM1 hk1 f
 go_in
 go_wp2_with fail
 refine hadd.mono ?_
 rintro e w2 ⟨rfl,hk2,hM2⟩
 have HX:Hid _:=zI (Kp.trans HK.out hk2) hM2
 clear hadd hk2 hM2 HK
 go_wp2
 go_ret
 exact⟨rfl,HX.out⟩
end Go.Proofs.YtmnfndpbblpjiabGreatDoor

/- The maker's small methods: each sets the next registers. -/
namespace Go.Proofs.YtmnfndpbblpjiabGreatDoor
open Go.RowKit Pu
abbrev mP (mb:Nat):Value:=.pointer (some ⟨mb,0,none⟩)
abbrev rV (r:Nat):Value:=.int .u8 (r:Int)
theorem ah.trans {a b c:World} {mb s i s' i':Nat} {L L':List Stp} (h:ah a b mb L s i) (k:ah b c mb L' s' i'):ah a c mb L' s' i':=⟨Kp.trans h.1 k.1,k.2⟩
theorem wD (mb:Nat) (L:List Stp) (s i n:Nat) (w:World) (hM:dS w mb L s i) (hr:Room L s 1) (hn:n < 256) :
  Calls Tryz.prog 131 #[mP mb,rV n] w fun e w'=>e=.returned (rV s)/\ah w w' mb (L++[⟨1,s,n,0⟩]) (s+1) i:=by
 have h:=nD mb L s i 1 n 0 w hM hr (by omega) hn (by omega)
 clear hM
 go_in
 go_wp2_with fail
 refine h.mono ?_
 rintro e w2 ⟨rfl,hE⟩
 have HE:Hid _:=hE
 clear h hE
 go_wp2
 go_ret
 exact⟨rfl,HE.out⟩
theorem sD (mb:Nat) (L:List Stp) (s i y z:Nat) (w:World) (hM:dS w mb L s i) (hr:Room L s 1) (hy:y < 256) (hz:z < 256) :
  Calls Tryz.prog 134 #[mP mb,rV y,rV z] w fun e w'=>e=.returned (rV s)/\ah w w' mb (L++[⟨2,s,y,z⟩]) (s+1) i:=by
 have h:=nD mb L s i 2 y z w hM hr (by omega) hy hz
 clear hM
 go_in
 go_wp2_with fail
 refine h.mono ?_
 rintro e w2 ⟨rfl,hE⟩
 have HE:Hid _:=hE
 clear h hE
 go_wp2
 go_ret
 exact⟨rfl,HE.out⟩
theorem AA (mb:Nat) (L:List Stp) (s i y z:Nat) (w:World) (hM:dS w mb L s i) (hr:Room L s 1) (hy:y < 256) (hz:z < 256) :
  Calls Tryz.prog 132 #[mP mb,rV y,rV z] w fun e w'=>e=.returned (rV s)/\ah w w' mb (L++[⟨3,s,y,z⟩]) (s+1) i:=by
 have h:=nD mb L s i 3 y z w hM hr (by omega) hy hz
 clear hM
 go_in
 go_wp2_with fail
 refine h.mono ?_
 rintro e w2 ⟨rfl,hE⟩
 have HE:Hid _:=hE
 clear h hE
 go_wp2
 go_ret
 exact⟨rfl,HE.out⟩
theorem fU (mb:Nat) (L:List Stp) (s i y z:Nat) (w:World) (hM:dS w mb L s i) (hr:Room L s 1) (hy:y < 256) (hz:z < 256) :
  Calls Tryz.prog 127 #[mP mb,rV y,rV z] w fun e w'=>e=.returned (rV s)/\ah w w' mb (L++[⟨4,s,y,z⟩]) (s+1) i:=by
 have h:=nD mb L s i 4 y z w hM hr (by omega) hy hz
 clear hM
 go_in
 go_wp2_with fail
 refine h.mono ?_
 rintro e w2 ⟨rfl,hE⟩
 have HE:Hid _:=hE
 clear h hE
 go_wp2
 go_ret
 exact⟨rfl,HE.out⟩
theorem GL (mb:Nat) (L:List Stp) (s i y:Nat) (w:World) (hM:dS w mb L s i) (hr:Room L s 1) (hy:y < 256) :
  Calls Tryz.prog 130 #[mP mb,rV y] w fun e w'=>e=.returned (rV s)/\ah w w' mb (L++[⟨5,s,y,0⟩]) (s+1) i:=by
 have h:=nD mb L s i 5 y 0 w hM hr (by omega) hy (by omega)
 clear hM
 go_in
 go_wp2_with fail
 refine h.mono ?_
 rintro e w2 ⟨rfl,hE⟩
 have HE:Hid _:=hE
 clear h hE
 go_wp2
 go_ret
 exact⟨rfl,HE.out⟩
theorem AJ (mb:Nat) (L:List Stp) (s i y:Nat) (w:World) (hM:dS w mb L s i) (hroom:Room L s 2) (hy:y < 256) :
  Calls Tryz.prog 126 #[mP mb,rV y] w fun e w'=>e=.returned (rV (s+1))/\ah w w' mb (L++negL s y) (s+2) i:=by
 have r2:=hroom.2
 go_in
 go_wp2_with fail
 refine (wD mb L s i 0 w hM (hroom.mono (by omega)) (by omega)).mono ?_
 rintro e w1 ⟨rfl,hE1⟩
 have R1:Room (L++[⟨1,s,0,0⟩]) (s+1) 1:=Room.app 1 (k:=1) hroom (by simp)
 have IU:Hid _:=hE1
 clear hE1 hM
 go_wp2_with fail
 refine (AA mb (L++[⟨1,s,0,0⟩]) (s+1) i s y w1 IU.out.2 (R1.mono (by omega)) (by omega) hy).mono ?_
 rintro e w2 ⟨rfl,hE2⟩
 have HE2:Hid _:=ah.trans IU.out hE2
 clear hE2 IU
 go_wp2
 go_ret
 have hL:((L++[⟨1,s,0,0⟩])++[⟨3,s+1,s,y⟩])=L++negL s y:=by simp[negL]
 exact⟨rfl,by rw[<- hL];exact HE2.out⟩
theorem GI (mb:Nat) (L:List Stp) (s i y:Nat) (w:World) (hM:dS w mb L s i) (hroom:Room L s 4) (hy:y < 256) :
  Calls Tryz.prog 82 #[mP mb,rV y] w fun e w'=>e=.returned (rV (s+3))/\ah w w' mb (L++eH s y) (s+4) i:=by
 have r2:=hroom.2
 go_in
 go_wp2_with fail
 refine (GL mb L s i y w hM (hroom.mono (by omega)) hy).mono ?_
 rintro e w1 ⟨rfl,hE1⟩
 have R1:Room (L++[⟨5,s,y,0⟩]) (s+1) 3:=Room.app 1 (k:=3) hroom (by simp)
 have IU:Hid _:=hE1
 clear hE1 hM
 go_wp2_with fail
 refine (fU mb (L++[⟨5,s,y,0⟩]) (s+1) i s s w1 IU.out.2 (R1.mono (by omega)) (by omega) (by omega)).mono ?_
 rintro e w2 ⟨rfl,hE2⟩
 have R2:Room ((L++[⟨5,s,y,0⟩])++[⟨4,s+1,s,s⟩]) (s+2) 2:=Room.app 1 (k:=2) R1 (by simp)
 have HE2:Hid _:=ah.trans IU.out hE2
 clear hE2 IU
 go_wp2_with fail
 refine (wD mb ((L++[⟨5,s,y,0⟩])++[⟨4,s+1,s,s⟩]) (s+2) i 1 w2 HE2.out.2 (R2.mono (by omega)) (by omega)).mono ?_
 rintro e w3 ⟨rfl,WQ⟩
 have R3:Room (((L++[⟨5,s,y,0⟩])++[⟨4,s+1,s,s⟩])++[⟨1,s+2,1,0⟩]) (s+3) 1:=Room.app 1 (k:=1) R2 (by simp)
 have Xl:Hid _:=ah.trans HE2.out WQ
 clear WQ HE2
 go_wp2_with fail
 refine (AA mb (((L++[⟨5,s,y,0⟩])++[⟨4,s+1,s,s⟩])++[⟨1,s+2,1,0⟩]) (s+3) i (s+2) (s+1) w3 Xl.out.2 (R3.mono (by omega)) (by omega) (by omega)).mono ?_
 rintro e w4 ⟨rfl,hE4⟩
 have HE4:Hid _:=ah.trans Xl.out hE4
 clear hE4 Xl
 go_wp2
 go_ret
 have hL:((((L++[⟨5,s,y,0⟩])++[⟨4,s+1,s,s⟩])++[⟨1,s+2,1,0⟩])++[⟨3,s+3,s+2,s+1⟩])=L++eH s y:=by simp[eH]
 exact⟨rfl,by rw[<- hL];exact HE4.out⟩
theorem nk (mb:Nat) (L:List Stp) (s i p q r t:Nat) (w:World) (hM:dS w mb L s i) (hroom:Room L s 3) (hp:p < 256) (hq:q < 256) (hr:r < 256) (ht:t < 256) :
  Calls Tryz.prog 91 #[mP mb,rV p,rV q,rV r,rV t] w fun e w'=>e=.returned (rV (s+2))/\ah w w' mb (L++bJ s p q r t) (s+3) i:=by
 have r2:=hroom.2
 go_in
 go_wp2_with fail
 refine (fU mb L s i p q w hM (hroom.mono (by omega)) hp hq).mono ?_
 rintro e w1 ⟨rfl,hE1⟩
 have R1:Room (L++[⟨4,s,p,q⟩]) (s+1) 2:=Room.app 1 (k:=2) hroom (by simp)
 have IU:Hid _:=hE1
 clear hE1 hM
 go_wp2_with fail
 refine (fU mb (L++[⟨4,s,p,q⟩]) (s+1) i r t w1 IU.out.2 (R1.mono (by omega)) hr ht).mono ?_
 rintro e w2 ⟨rfl,hE2⟩
 have R2:Room ((L++[⟨4,s,p,q⟩])++[⟨4,s+1,r,t⟩]) (s+2) 1:=Room.app 1 (k:=1) R1 (by simp)
 have HE2:Hid _:=ah.trans IU.out hE2
 clear hE2 IU
 go_wp2_with fail
 refine (sD mb ((L++[⟨4,s,p,q⟩])++[⟨4,s+1,r,t⟩]) (s+2) i s (s+1) w2 HE2.out.2 (R2.mono (by omega)) (by omega) (by omega)).mono ?_
 rintro e w3 ⟨rfl,WQ⟩
 have Xl:Hid _:=ah.trans HE2.out WQ
 clear WQ HE2
 go_wp2
 go_ret
 have hL:(((L++[⟨4,s,p,q⟩])++[⟨4,s+1,r,t⟩])++[⟨2,s+2,s,s+1⟩])=L++bJ s p q r t:=by simp[bJ]
 exact⟨rfl,by rw[<- hL];exact Xl.out⟩
theorem oQ (mb:Nat) (L:List Stp) (s i p q r t:Nat) (w:World) (hM:dS w mb L s i) (hroom:Room L s 3) (hp:p < 256) (hq:q < 256) (hr:r < 256) (ht:t < 256) :
  Calls Tryz.prog 129 #[mP mb,rV p,rV q,rV r,rV t] w fun e w'=>e=.returned (rV (s+2))/\ah w w' mb (L++bS s p q r t) (s+3) i:=by
 have r2:=hroom.2
 go_in
 go_wp2_with fail
 refine (fU mb L s i p q w hM (hroom.mono (by omega)) hp hq).mono ?_
 rintro e w1 ⟨rfl,hE1⟩
 have R1:Room (L++[⟨4,s,p,q⟩]) (s+1) 2:=Room.app 1 (k:=2) hroom (by simp)
 have IU:Hid _:=hE1
 clear hE1 hM
 go_wp2_with fail
 refine (fU mb (L++[⟨4,s,p,q⟩]) (s+1) i r t w1 IU.out.2 (R1.mono (by omega)) hr ht).mono ?_
 rintro e w2 ⟨rfl,hE2⟩
 have R2:Room ((L++[⟨4,s,p,q⟩])++[⟨4,s+1,r,t⟩]) (s+2) 1:=Room.app 1 (k:=1) R1 (by simp)
 have HE2:Hid _:=ah.trans IU.out hE2
 clear hE2 IU
 go_wp2_with fail
 refine (AA mb ((L++[⟨4,s,p,q⟩])++[⟨4,s+1,r,t⟩]) (s+2) i s (s+1) w2 HE2.out.2 (R2.mono (by omega)) (by omega) (by omega)).mono ?_
 rintro e w3 ⟨rfl,WQ⟩
 have Xl:Hid _:=ah.trans HE2.out WQ
 clear WQ HE2
 go_wp2
 go_ret
 have hL:(((L++[⟨4,s,p,q⟩])++[⟨4,s+1,r,t⟩])++[⟨3,s+2,s,s+1⟩])=L++bS s p q r t:=by simp[bS]
 exact⟨rfl,by rw[<- hL];exact Xl.out⟩
theorem GH (mb:Nat) (L:List Stp) (s i:Nat) (w:World) (hM:dS w mb L s i) (hr:Room L s 1) (hi:i < 200) :
  Calls Tryz.prog 133 #[mP mb] w fun e w'=>e=.returned (rV s)/\ah w w' mb (L++[⟨0,s,i,0⟩]) (s+1) (i+1):=by
 have w1:IntKind.u8.wrap ((i:Int)+1)=((i+1:Nat):Int):=by simp[IntKind.wrap,IntKind.signed,IntKind.bits];omega
 obtain⟨c1,c2,f⟩:=hM.cells
 have f2:=f 2
 obtain⟨hM1,hk1⟩:=hM.set2 (i+1)
 have hlt:=hM.lt
 have h:=nD mb L s (i+1) 0 i 0 _ hM1 hr (by omega) (by omega) (by omega)
 have HK:Hid _:=hk1
 clear hM hM1 hk1 f
 go_in
 go_wp2_with fail
 refine h.mono ?_
 rintro e w2 ⟨rfl,hk2,hM2⟩
 have HX:Hid _:=zI (Kp.trans HK.out hk2) hM2
 clear h hk2 hM2 HK
 go_wp2
 go_ret
 exact⟨rfl,HX.out⟩
abbrev dZ (t:Tr):Value:=.agg #[rV t.x,rV t.y,rV t.w]
abbrev aS (t:Tr):Obj:=.cells #[rV t.x,rV t.y,rV t.w] 84
theorem bG (w:World) (o:Obj):(w.alloc o).heap.size=w.heap.size+1:=by simp
abbrev d9:Obj:=.cells #[.int .u8 0,.int .u8 0,.int .u8 0] 84
def S8 (t:Tr):Prop:=t.x < 256/\t.y < 256/\t.w < 256
abbrev aB (w:World) (k:Nat) (x y z:Value):Prop:=w.heap[k]?=some (.cells #[x,y,z] 84 (0,0))
abbrev kT (w:World) (k:Nat) (t:Tr):Prop:=aB w k (rV t.x) (rV t.y) (rV t.w)
theorem aB.kp {w w':World} {mb k:Nat} {x y z:Value} (h:aB w k x y z) (hk:Kp mb w w'):aB w' k x y z:=hk.keep h (by decide) (by decide)
theorem aB.md {w w':World} {k:Nat} {x y z:Value} (h:aB w k x y z) (hk:Mod (fun _=>False) w w'):aB w' k x y z:=hk.keep h (fun f=>f)
theorem aB.al {w:World} {k:Nat} {x y z:Value} (h:aB w k x y z) (o:Obj):aB (w.alloc o) k x y z:=h.md ((Mod.refl _ w).alloc o)
theorem ah.al {a b:World} {mb s i:Nat} {L:List Stp} (h:ah a b mb L s i) (o:Obj):ah a (b.alloc o) mb L s i:=⟨h.1.alloc o,h.2.alloc o⟩
theorem ah.st {a b:World} {mb s i k:Nat} {L:List Stp} {x y z x' y' z':Value} (h:ah a b mb L s i) (hz:aB b k x y z) (hk:a.heap.size<=k):ah a (gL b k x' y' z') mb L s i:=by
 refine⟨qz h.1 k x' y' z' hk,?_⟩
 obtain⟨v,hb,hP⟩:=h.2
 have hm:=wU b k x' y' z'
 refine⟨v,hm.keep hb (fun e=>?_),dW hP hm (fun g hg e=>?_)⟩
 ·subst e;unfold aB at hz;rw[hb]at hz;cases hz
 ·subst e
  obtain⟨_,⟨he,_⟩ | ⟨g1,c1,XR,he1,_,hb1,_⟩⟩:=hP
  ·rw[he]at hg;simp[Value.ownBlock]at hg
  ·rw[he1]at hg
   simp[Value.ownBlock]at hg
   subst hg
   unfold aB at hz
   rw[hb1]at hz;cases hz
theorem lJ (mb:Nat) (L:List Stp) (s i:Nat) (a b:Tr) (w:World) (hM:dS w mb L s i) (hroom:Room L s 9) (nL:S8 a) (oI:S8 b) :
  Calls Tryz.prog 90 #[mP mb,dZ a,dZ b] w fun e w'=>e=.returned (dZ (aA s))/\ah w w' mb (L++dM s a b) (s+9) (i+0):=by
 obtain⟨pF,pG,nM⟩:=nL
 obtain⟨qI,qJ,pI⟩:=oI
 have r2:=hroom.2
 have E0:ah w (((((w.alloc (aS a))).alloc (aS b))).alloc (d9)) mb L s i:=(ah.al (ah.al (ah.al (show ah w w mb L s i from ⟨Kp.refl mb w,hM⟩) _) _) _)
 have bg:kT (((((w.alloc (aS a))).alloc (aS b))).alloc (d9)) (w.heap.size) a:=by
  have h:=heap_alloc_new w (aS a)
  exact (aB.al (aB.al h _) _)
 have bA:kT (((((w.alloc (aS a))).alloc (aS b))).alloc (d9)) (w.heap.size+1) b:=by
  have h:=heap_alloc_new (w.alloc (aS a)) (aS b)
  simp only[bG]at h
  exact (aB.al h _)
 have ak:aB (((((w.alloc (aS a))).alloc (aS b))).alloc (d9)) (w.heap.size+1+1) (.int .u8 0) (.int .u8 0) (.int .u8 0):=by
  have h:=heap_alloc_new (((w.alloc (aS a))).alloc (aS b)) (d9)
  simp only[bG]at h
  exact h
 have hsz:w.heap.size+3<=((((((w.alloc (aS a))).alloc (aS b))).alloc (d9))).heap.size:=by simp only[bG];omega
 go_in
 go_wp2_with fail
 generalize (((w.alloc (.cells #[rV a.x,rV a.y,rV a.w] 84)).alloc (.cells #[rV b.x,rV b.y,rV b.w] 84)).alloc (.cells #[.int .u8 0,.int .u8 0,.int .u8 0] 84))=w0 at *
 refine (oQ mb _ s i a.y b.w a.w b.y w0 E0.2 (hroom.mono (by omega)) pG pI nM qJ).mono ?_
 rintro e w1 ⟨he,k1⟩
 obtain⟨lT,hv⟩:∃ x:Nat,x=s+2:=⟨_,rfl⟩
 have Zv:lT < 256:=by omega
 have he2:e=.returned (rV lT):=by rw[hv];exact he
 have pU:Hid (lT=s+2):=hv
 clear he hv
 subst he2
 have E1:ah w w1 mb (L++bS s a.y b.w a.w b.y) (s+3) (i):=ah.trans E0 k1
 have R1:Room (L++bS s a.y b.w a.w b.y) (s+3) 6:=Room.app 3 (k:=6) hroom (Nat.le_of_eq rfl)
 replace bg:=aB.kp bg k1.1
 replace bA:=aB.kp bA k1.1
 replace ak:=aB.kp ak k1.1
 replace hsz:=Nat.le_trans hsz k1.1.size
 clear k1 E0 hroom
 obtain⟨fB,fC,fD⟩:=cells3 bg
 obtain⟨fE,fF,fG⟩:=cells3 bA
 have HH:Hid _:=zI E1 (zI hsz (zI bg (zI bA ak)))
 clear E1 hsz bg bA ak
 go_wp2_with fail
 clear fB fC fD fE fF fG
 obtain⟨E1,hsz,bg,bA,ak⟩:=HH.out
 clear HH
 refine (oQ mb _ (s+3) i a.w b.x a.x b.w w1 E1.2 (R1.mono (by omega)) nM qI pF pI).mono ?_
 rintro e w2 ⟨he,k2⟩
 obtain⟨jl,hv⟩:∃ x:Nat,x=s+3+2:=⟨_,rfl⟩
 have WG:jl < 256:=by omega
 have he2:e=.returned (rV jl):=by rw[hv];exact he
 have oD:Hid (jl=s+3+2):=hv
 clear he hv
 subst he2
 have E2:ah w w2 mb ((L++bS s a.y b.w a.w b.y)++bS (s+3) a.w b.x a.x b.w) (s+6) (i):=ah.trans E1 k2
 have R2:Room ((L++bS s a.y b.w a.w b.y)++bS (s+3) a.w b.x a.x b.w) (s+6) 3:=Room.app 3 (k:=3) R1 (Nat.le_of_eq rfl)
 replace bg:=aB.kp bg k2.1
 replace bA:=aB.kp bA k2.1
 replace ak:=aB.kp ak k2.1
 replace hsz:=Nat.le_trans hsz k2.1.size
 clear k2 E1 R1
 obtain⟨fB,fC,fD⟩:=cells3 bg
 obtain⟨fE,fF,fG⟩:=cells3 bA
 have HH:Hid _:=zI E2 (zI hsz (zI bg (zI bA ak)))
 clear E2 hsz bg bA ak
 go_wp2_with fail
 clear fB fC fD fE fF fG
 obtain⟨E2,hsz,bg,bA,ak⟩:=HH.out
 clear HH
 refine (oQ mb _ (s+6) i a.x b.y a.y b.x w2 E2.2 (R2.mono (by omega)) pF qJ pG qI).mono ?_
 rintro e w3 ⟨he,k3⟩
 obtain⟨jX,hv⟩:∃ x:Nat,x=s+6+2:=⟨_,rfl⟩
 have WE:jX < 256:=by omega
 have he2:e=.returned (rV jX):=by rw[hv];exact he
 have oC:Hid (jX=s+6+2):=hv
 clear he hv
 subst he2
 have E3:ah w w3 mb (((L++bS s a.y b.w a.w b.y)++bS (s+3) a.w b.x a.x b.w)++bS (s+6) a.x b.y a.y b.x) (s+9) (i):=ah.trans E2 k3
 replace bg:=aB.kp bg k3.1
 replace bA:=aB.kp bA k3.1
 replace ak:=aB.kp ak k3.1
 replace hsz:=Nat.le_trans hsz k3.1.size
 clear k3 E2 R2
 have z0:=dN ak 0
 have z1:=dN ak 1
 have z2:=dN ak 2
 obtain⟨y0,y1,y2⟩:=cells3 ak
 have HC:Hid _:=cells3 (dD (x':=rV (lT)) (y':=rV (jl)) (z':=rV (jX)) ak)
 have HE:Hid _:=E3.st (x':=rV (lT)) (y':=rV (jl)) (z':=rV (jX)) ak (by omega)
 have hlt:=lt_of_block ak
 clear E3 bg bA ak
 go_wp2_with fail
 obtain⟨g0,g1,g2⟩:=HC.out
 unfold gL at g0 g1 g2
 have hL:(((L++bS s a.y b.w a.w b.y)++bS (s+3) a.w b.x a.x b.w)++bS (s+6) a.x b.y a.y b.x)=L++dM s a b:=by
  have MB:=pU.out
  have Jm:=oD.out
  have Jl:=oC.out
  subst MB Jm Jl
  simp only[List.append_assoc]
  rfl
 have hR:(.agg #[rV (lT),rV (jl),rV (jX)]:Value)=dZ (aA s):=by rw[pU.out,oD.out,oC.out];rfl
 exact bodyPost_ret (v:=.agg #[rV (lT),rV (jl),rV (jX)]) (by simp[results,Tryz.results90,go_sem,g0,g1,g2]) rfl ⟨by rw[hR],by rw[<- hL];exact HE.out⟩
theorem Gw (mb:Nat) (L:List Stp) (s i:Nat) (a b:Tr) (w:World) (hM:dS w mb L s i) (hroom:Room L s 5) (nL:S8 a) (oI:S8 b) :
  Calls Tryz.prog 124 #[mP mb,dZ a,dZ b] w fun e w'=>e=.returned (rV (s+4))/\ah w w' mb (L++vX s a b) (s+5) (i+0):=by
 obtain⟨pF,pG,nM⟩:=nL
 obtain⟨qI,qJ,pI⟩:=oI
 have r2:=hroom.2
 have E0:ah w (((w.alloc (aS a))).alloc (aS b)) mb L s i:=(ah.al (ah.al (show ah w w mb L s i from ⟨Kp.refl mb w,hM⟩) _) _)
 have bg:kT (((w.alloc (aS a))).alloc (aS b)) (w.heap.size) a:=by
  have h:=heap_alloc_new w (aS a)
  exact (aB.al h _)
 have bA:kT (((w.alloc (aS a))).alloc (aS b)) (w.heap.size+1) b:=by
  have h:=heap_alloc_new (w.alloc (aS a)) (aS b)
  simp only[bG]at h
  exact h
 have hsz:w.heap.size+2<=((((w.alloc (aS a))).alloc (aS b))).heap.size:=by simp only[bG];omega
 go_in
 go_wp2_with fail
 generalize ((w.alloc (.cells #[rV a.x,rV a.y,rV a.w] 84)).alloc (.cells #[rV b.x,rV b.y,rV b.w] 84))=w0 at *
 refine (nk mb _ s i a.x b.x a.y b.y w0 E0.2 (hroom.mono (by omega)) pF qI pG qJ).mono ?_
 rintro e w1 ⟨he,k1⟩
 obtain⟨Ow,hv⟩:∃ x:Nat,x=s+2:=⟨_,rfl⟩
 have abF:Ow < 256:=by omega
 have he2:e=.returned (rV Ow):=by rw[hv];exact he
 have ZV:Hid (Ow=s+2):=hv
 clear he hv
 subst he2
 have E1:ah w w1 mb (L++bJ s a.x b.x a.y b.y) (s+3) (i):=ah.trans E0 k1
 have R1:Room (L++bJ s a.x b.x a.y b.y) (s+3) 2:=Room.app 3 (k:=2) hroom (Nat.le_of_eq rfl)
 replace bg:=aB.kp bg k1.1
 replace bA:=aB.kp bA k1.1
 replace hsz:=Nat.le_trans hsz k1.1.size
 clear k1 E0 hroom
 obtain⟨fB,fC,fD⟩:=cells3 bg
 obtain⟨fE,fF,fG⟩:=cells3 bA
 have HH:Hid _:=zI E1 (zI hsz (zI bg bA))
 clear E1 hsz bg bA
 go_wp2_with fail
 clear fB fC fD fE fF fG
 obtain⟨E1,hsz,bg,bA⟩:=HH.out
 clear HH
 refine (fU mb _ (s+3) i a.w b.w w1 E1.2 (R1.mono (by omega)) nM pI).mono ?_
 rintro e w2 ⟨he,k2⟩
 obtain⟨jX,hv⟩:∃ x:Nat,x=s+3:=⟨_,rfl⟩
 have WE:jX < 256:=by omega
 have he2:e=.returned (rV jX):=by rw[hv];exact he
 have oC:Hid (jX=s+3):=hv
 clear he hv
 subst he2
 have E2:ah w w2 mb ((L++bJ s a.x b.x a.y b.y)++[⟨4,s+3,a.w,b.w⟩]) (s+4) (i):=ah.trans E1 k2
 have R2:Room ((L++bJ s a.x b.x a.y b.y)++[⟨4,s+3,a.w,b.w⟩]) (s+4) 1:=Room.app 1 (k:=1) R1 (Nat.le_of_eq rfl)
 replace bg:=aB.kp bg k2.1
 replace bA:=aB.kp bA k2.1
 replace hsz:=Nat.le_trans hsz k2.1.size
 clear k2 E1 R1
 obtain⟨fB,fC,fD⟩:=cells3 bg
 obtain⟨fE,fF,fG⟩:=cells3 bA
 have HH:Hid _:=zI E2 (zI hsz (zI bg bA))
 clear E2 hsz bg bA
 go_wp2_with fail
 clear fB fC fD fE fF fG
 obtain⟨E2,hsz,bg,bA⟩:=HH.out
 clear HH
 refine (sD mb _ (s+4) i Ow jX w2 E2.2 (R2.mono (by omega)) abF WE).mono ?_
 rintro e w3 ⟨rfl,k3⟩
 have E3:ah w w3 mb (((L++bJ s a.x b.x a.y b.y)++[⟨4,s+3,a.w,b.w⟩])++[⟨2,s+4,Ow,jX⟩]) (s+5) (i):=ah.trans E2 k3
 replace bg:=aB.kp bg k3.1
 replace bA:=aB.kp bA k3.1
 replace hsz:=Nat.le_trans hsz k3.1.size
 clear k3 E2 R2
 have HE:Hid _:=E3
 clear E3 bg bA
 go_wp2
 go_ret
 have hL:(((L++bJ s a.x b.x a.y b.y)++[⟨4,s+3,a.w,b.w⟩])++[⟨2,s+4,Ow,jX⟩])=L++vX s a b:=by
  have abP:=ZV.out
  have Jl:=oC.out
  subst abP Jl
  simp only[List.append_assoc]
  rfl
 exact⟨rfl,by rw[<- hL];exact HE.out⟩
theorem sF (mb:Nat) (L:List Stp) (s i:Nat) (a b c:Tr) (w:World) (hM:dS w mb L s i) (hroom:Room L s 14) (nL:S8 a) (oI:S8 b) (h_c:S8 c) :
  Calls Tryz.prog 79 #[mP mb,dZ a,dZ b,dZ c] w fun e w'=>e=.returned (rV (s+13))/\ah w w' mb (L++iK s a b c) (s+14) (i+0):=by
 obtain⟨pF,pG,nM⟩:=nL
 obtain⟨qI,qJ,pI⟩:=oI
 obtain⟨FX,FY,FW⟩:=h_c
 have r2:=hroom.2
 have E0:ah w (((((w.alloc (aS a))).alloc (aS b))).alloc (aS c)) mb L s i:=(ah.al (ah.al (ah.al (show ah w w mb L s i from ⟨Kp.refl mb w,hM⟩) _) _) _)
 have bg:kT (((((w.alloc (aS a))).alloc (aS b))).alloc (aS c)) (w.heap.size) a:=by
  have h:=heap_alloc_new w (aS a)
  exact (aB.al (aB.al h _) _)
 have bA:kT (((((w.alloc (aS a))).alloc (aS b))).alloc (aS c)) (w.heap.size+1) b:=by
  have h:=heap_alloc_new (w.alloc (aS a)) (aS b)
  simp only[bG]at h
  exact (aB.al h _)
 have dF:kT (((((w.alloc (aS a))).alloc (aS b))).alloc (aS c)) (w.heap.size+1+1) c:=by
  have h:=heap_alloc_new (((w.alloc (aS a))).alloc (aS b)) (aS c)
  simp only[bG]at h
  exact h
 have hsz:w.heap.size+3<=((((((w.alloc (aS a))).alloc (aS b))).alloc (aS c))).heap.size:=by simp only[bG];omega
 go_in
 go_wp2_with fail
 generalize (((w.alloc (.cells #[rV a.x,rV a.y,rV a.w] 84)).alloc (.cells #[rV b.x,rV b.y,rV b.w] 84)).alloc (.cells #[rV c.x,rV c.y,rV c.w] 84))=w0 at *
 refine (lJ mb _ s i a b w0 E0.2 (hroom.mono (by omega)) ⟨pF,pG,nM⟩ ⟨qI,qJ,pI⟩).mono ?_
 rintro e w1 ⟨rfl,k1⟩
 have E1:ah w w1 mb (L++dM s a b) (s+9) (i):=ah.trans E0 k1
 have R1:Room (L++dM s a b) (s+9) 5:=Room.app 9 (k:=5) hroom (Nat.le_of_eq rfl)
 replace bg:=aB.kp bg k1.1
 replace bA:=aB.kp bA k1.1
 replace dF:=aB.kp dF k1.1
 replace hsz:=Nat.le_trans hsz k1.1.size
 clear k1 E0 hroom
 have bE:kT (w1.alloc (.cells #[rV (aA s).x,rV (aA s).y,rV (aA s).w] 84)) w1.heap.size (aA s):=heap_alloc_new w1 _
 replace E1:=E1.al (.cells #[rV (aA s).x,rV (aA s).y,rV (aA s).w] 84)
 replace bg:=aB.al bg (.cells #[rV (aA s).x,rV (aA s).y,rV (aA s).w] 84)
 replace bA:=aB.al bA (.cells #[rV (aA s).x,rV (aA s).y,rV (aA s).w] 84)
 replace dF:=aB.al dF (.cells #[rV (aA s).x,rV (aA s).y,rV (aA s).w] 84)
 replace hsz:_<=(w1.alloc (.cells #[rV (aA s).x,rV (aA s).y,rV (aA s).w] 84)).heap.size:=Nat.le_trans hsz (by simp)
 obtain⟨fB,fC,fD⟩:=cells3 bg
 obtain⟨fE,fF,fG⟩:=cells3 bA
 obtain⟨kF,kG,kH⟩:=cells3 dF
 obtain⟨vC,vD,vE⟩:=cells3 bE
 have HH:Hid _:=zI E1 (zI hsz (zI bg (zI bA (zI dF bE))))
 clear E1 hsz bg bA dF bE
 go_wp2_with fail
 generalize w1.alloc (.cells #[rV (aA s).x,rV (aA s).y,rV (aA s).w] 84)=IL at *
 clear fB fC fD fE fF fG kF kG kH vC vD vE
 obtain⟨E1,hsz,bg,bA,dF,bE⟩:=HH.out
 clear HH
 refine (Gw mb _ (s+9) i (aA s) c IL E1.2 (R1.mono (by omega)) ⟨by show s+2 < 256;first | exact (by omega) | omega,by show s+5 < 256;first | exact (by omega) | omega,by show s+8 < 256;first | exact (by omega) | omega⟩ ⟨FX,FY,FW⟩).mono ?_
 rintro e w2 ⟨rfl,k2⟩
 have E2:ah w w2 mb ((L++dM s a b)++vX (s+9) (aA s) c) (s+14) (i):=ah.trans E1 k2
 replace bg:=aB.kp bg k2.1
 replace bA:=aB.kp bA k2.1
 replace dF:=aB.kp dF k2.1
 replace bE:=aB.kp bE k2.1
 replace hsz:=Nat.le_trans hsz k2.1.size
 clear k2 E1 R1
 have HE:Hid _:=E2
 clear E2 bg bA dF bE
 go_wp2
 go_ret
 have hL:((L++dM s a b)++vX (s+9) (aA s) c)=L++iK s a b c:=by
  simp only[List.append_assoc]
  rfl
 exact⟨rfl,by rw[<- hL];exact HE.out⟩
theorem Q7 (mb:Nat) (L:List Stp) (s i:Nat) (w:World) (hM:dS w mb L s i) (hroom:Room L s 3)  (hin:i < 100) :
  Calls Tryz.prog 83 #[mP mb] w fun e w'=>e=.returned (dZ (jP s))/\ah w w' mb (L++Ae s i) (s+3) (i+2):=by
 have r2:=hroom.2
 have E0:ah w (w.alloc (d9)) mb L s i:=(ah.al (show ah w w mb L s i from ⟨Kp.refl mb w,hM⟩) _)
 have ak:aB (w.alloc (d9)) (w.heap.size) (.int .u8 0) (.int .u8 0) (.int .u8 0):=by
  have h:=heap_alloc_new w (d9)
  exact h
 have hsz:w.heap.size+1<=((w.alloc (d9))).heap.size:=by simp only[bG];omega
 go_in
 go_wp2_with fail
 generalize (w.alloc (.cells #[.int .u8 0,.int .u8 0,.int .u8 0] 84))=w0 at *
 refine (GH mb _ s i  w0 E0.2 (hroom.mono (by omega))  (by omega)).mono ?_
 rintro e w1 ⟨he,k1⟩
 obtain⟨lT,hv⟩:∃ x:Nat,x=s:=⟨_,rfl⟩
 have Zv:lT < 256:=by omega
 have he2:e=.returned (rV lT):=by rw[hv];exact he
 have pU:Hid (lT=s):=hv
 clear he hv
 subst he2
 have E1:ah w w1 mb (L++[⟨0,s,i,0⟩]) (s+1) (i+1):=ah.trans E0 k1
 have R1:Room (L++[⟨0,s,i,0⟩]) (s+1) 2:=Room.app 1 (k:=2) hroom (Nat.le_of_eq rfl)
 replace ak:=aB.kp ak k1.1
 replace hsz:=Nat.le_trans hsz k1.1.size
 clear k1 E0 hroom
 have HH:Hid _:=zI E1 (zI hsz ak)
 clear E1 hsz ak
 go_wp2_with fail
 obtain⟨E1,hsz,ak⟩:=HH.out
 clear HH
 refine (GH mb _ (s+1) (i+1)  w1 E1.2 (R1.mono (by omega))  (by omega)).mono ?_
 rintro e w2 ⟨he,k2⟩
 obtain⟨jl,hv⟩:∃ x:Nat,x=s+1:=⟨_,rfl⟩
 have WG:jl < 256:=by omega
 have he2:e=.returned (rV jl):=by rw[hv];exact he
 have oD:Hid (jl=s+1):=hv
 clear he hv
 subst he2
 have E2:ah w w2 mb ((L++[⟨0,s,i,0⟩])++[⟨0,s+1,i+1,0⟩]) (s+2) (i+2):=ah.trans E1 k2
 have R2:Room ((L++[⟨0,s,i,0⟩])++[⟨0,s+1,i+1,0⟩]) (s+2) 1:=Room.app 1 (k:=1) R1 (Nat.le_of_eq rfl)
 replace ak:=aB.kp ak k2.1
 replace hsz:=Nat.le_trans hsz k2.1.size
 clear k2 E1 R1
 have HH:Hid _:=zI E2 (zI hsz ak)
 clear E2 hsz ak
 go_wp2_with fail
 obtain⟨E2,hsz,ak⟩:=HH.out
 clear HH
 refine (wD mb _ (s+2) (i+2) 1 w2 E2.2 (R2.mono (by omega)) (by omega)).mono ?_
 rintro e w3 ⟨he,k3⟩
 obtain⟨jX,hv⟩:∃ x:Nat,x=s+2:=⟨_,rfl⟩
 have WE:jX < 256:=by omega
 have he2:e=.returned (rV jX):=by rw[hv];exact he
 have oC:Hid (jX=s+2):=hv
 clear he hv
 subst he2
 have E3:ah w w3 mb (((L++[⟨0,s,i,0⟩])++[⟨0,s+1,i+1,0⟩])++[⟨1,s+2,1,0⟩]) (s+3) (i+2):=ah.trans E2 k3
 replace ak:=aB.kp ak k3.1
 replace hsz:=Nat.le_trans hsz k3.1.size
 clear k3 E2 R2
 have z0:=dN ak 0
 have z1:=dN ak 1
 have z2:=dN ak 2
 obtain⟨y0,y1,y2⟩:=cells3 ak
 have HC:Hid _:=cells3 (dD (x':=rV (lT)) (y':=rV (jl)) (z':=rV (jX)) ak)
 have HE:Hid _:=E3.st (x':=rV (lT)) (y':=rV (jl)) (z':=rV (jX)) ak (by omega)
 have hlt:=lt_of_block ak
 clear E3 ak
 go_wp2_with fail
 obtain⟨g0,g1,g2⟩:=HC.out
 unfold gL at g0 g1 g2
 have hL:(((L++[⟨0,s,i,0⟩])++[⟨0,s+1,i+1,0⟩])++[⟨1,s+2,1,0⟩])=L++Ae s i:=by
  have MB:=pU.out
  have Jm:=oD.out
  have Jl:=oC.out
  subst MB Jm Jl
  simp only[List.append_assoc]
  rfl
 have hR:(.agg #[rV (lT),rV (jl),rV (jX)]:Value)=dZ (jP s):=by rw[pU.out,oD.out,oC.out];rfl
 exact bodyPost_ret (v:=.agg #[rV (lT),rV (jl),rV (jX)]) (by simp[results,Tryz.results83,go_sem,g0,g1,g2]) rfl ⟨by rw[hR],by rw[<- hL];exact HE.out⟩
theorem GJ (mb:Nat) (L:List Stp) (s i:Nat) (a b:Tr) (w:World) (hM:dS w mb L s i) (hroom:Room L s 8) (nL:S8 a) (oI:S8 b) :
  Calls Tryz.prog 84 #[mP mb,dZ a,dZ b] w fun e w'=>e=.returned (dZ (gP s))/\ah w w' mb (L++uI s a b) (s+8) (i+0):=by
 obtain⟨pF,pG,nM⟩:=nL
 obtain⟨qI,qJ,pI⟩:=oI
 have r2:=hroom.2
 have E0:ah w (((((w.alloc (aS a))).alloc (aS b))).alloc (d9)) mb L s i:=(ah.al (ah.al (ah.al (show ah w w mb L s i from ⟨Kp.refl mb w,hM⟩) _) _) _)
 have bg:kT (((((w.alloc (aS a))).alloc (aS b))).alloc (d9)) (w.heap.size) a:=by
  have h:=heap_alloc_new w (aS a)
  exact (aB.al (aB.al h _) _)
 have bA:kT (((((w.alloc (aS a))).alloc (aS b))).alloc (d9)) (w.heap.size+1) b:=by
  have h:=heap_alloc_new (w.alloc (aS a)) (aS b)
  simp only[bG]at h
  exact (aB.al h _)
 have ak:aB (((((w.alloc (aS a))).alloc (aS b))).alloc (d9)) (w.heap.size+1+1) (.int .u8 0) (.int .u8 0) (.int .u8 0):=by
  have h:=heap_alloc_new (((w.alloc (aS a))).alloc (aS b)) (d9)
  simp only[bG]at h
  exact h
 have hsz:w.heap.size+3<=((((((w.alloc (aS a))).alloc (aS b))).alloc (d9))).heap.size:=by simp only[bG];omega
 go_in
 go_wp2_with fail
 generalize (((w.alloc (.cells #[rV a.x,rV a.y,rV a.w] 84)).alloc (.cells #[rV b.x,rV b.y,rV b.w] 84)).alloc (.cells #[.int .u8 0,.int .u8 0,.int .u8 0] 84))=w0 at *
 refine (nk mb _ s i a.x b.w b.x a.w w0 E0.2 (hroom.mono (by omega)) pF pI qI nM).mono ?_
 rintro e w1 ⟨he,k1⟩
 obtain⟨lT,hv⟩:∃ x:Nat,x=s+2:=⟨_,rfl⟩
 have Zv:lT < 256:=by omega
 have he2:e=.returned (rV lT):=by rw[hv];exact he
 have pU:Hid (lT=s+2):=hv
 clear he hv
 subst he2
 have E1:ah w w1 mb (L++bJ s a.x b.w b.x a.w) (s+3) (i):=ah.trans E0 k1
 have R1:Room (L++bJ s a.x b.w b.x a.w) (s+3) 5:=Room.app 3 (k:=5) hroom (Nat.le_of_eq rfl)
 replace bg:=aB.kp bg k1.1
 replace bA:=aB.kp bA k1.1
 replace ak:=aB.kp ak k1.1
 replace hsz:=Nat.le_trans hsz k1.1.size
 clear k1 E0 hroom
 obtain⟨fB,fC,fD⟩:=cells3 bg
 obtain⟨fE,fF,fG⟩:=cells3 bA
 have HH:Hid _:=zI E1 (zI hsz (zI bg (zI bA ak)))
 clear E1 hsz bg bA ak
 go_wp2_with fail
 clear fB fC fD fE fF fG
 obtain⟨E1,hsz,bg,bA,ak⟩:=HH.out
 clear HH
 refine (nk mb _ (s+3) i a.y b.w b.y a.w w1 E1.2 (R1.mono (by omega)) pG pI qJ nM).mono ?_
 rintro e w2 ⟨he,k2⟩
 obtain⟨jl,hv⟩:∃ x:Nat,x=s+3+2:=⟨_,rfl⟩
 have WG:jl < 256:=by omega
 have he2:e=.returned (rV jl):=by rw[hv];exact he
 have oD:Hid (jl=s+3+2):=hv
 clear he hv
 subst he2
 have E2:ah w w2 mb ((L++bJ s a.x b.w b.x a.w)++bJ (s+3) a.y b.w b.y a.w) (s+6) (i):=ah.trans E1 k2
 have R2:Room ((L++bJ s a.x b.w b.x a.w)++bJ (s+3) a.y b.w b.y a.w) (s+6) 2:=Room.app 3 (k:=2) R1 (Nat.le_of_eq rfl)
 replace bg:=aB.kp bg k2.1
 replace bA:=aB.kp bA k2.1
 replace ak:=aB.kp ak k2.1
 replace hsz:=Nat.le_trans hsz k2.1.size
 clear k2 E1 R1
 obtain⟨fB,fC,fD⟩:=cells3 bg
 obtain⟨fE,fF,fG⟩:=cells3 bA
 have HH:Hid _:=zI E2 (zI hsz (zI bg (zI bA ak)))
 clear E2 hsz bg bA ak
 go_wp2_with fail
 clear fB fC fD fE fF fG
 obtain⟨E2,hsz,bg,bA,ak⟩:=HH.out
 clear HH
 refine (fU mb _ (s+6) i a.w b.w w2 E2.2 (R2.mono (by omega)) nM pI).mono ?_
 rintro e w3 ⟨he,k3⟩
 obtain⟨IG,hv⟩:∃ x:Nat,x=s+6:=⟨_,rfl⟩
 have b_h:IG < 256:=by omega
 have he2:e=.returned (rV IG):=by rw[hv];exact he
 have Xw:Hid (IG=s+6):=hv
 clear he hv
 subst he2
 have E3:ah w w3 mb (((L++bJ s a.x b.w b.x a.w)++bJ (s+3) a.y b.w b.y a.w)++[⟨4,s+6,a.w,b.w⟩]) (s+7) (i):=ah.trans E2 k3
 have R3:Room (((L++bJ s a.x b.w b.x a.w)++bJ (s+3) a.y b.w b.y a.w)++[⟨4,s+6,a.w,b.w⟩]) (s+7) 1:=Room.app 1 (k:=1) R2 (Nat.le_of_eq rfl)
 replace bg:=aB.kp bg k3.1
 replace bA:=aB.kp bA k3.1
 replace ak:=aB.kp ak k3.1
 replace hsz:=Nat.le_trans hsz k3.1.size
 clear k3 E2 R2
 obtain⟨fB,fC,fD⟩:=cells3 bg
 obtain⟨fE,fF,fG⟩:=cells3 bA
 have HH:Hid _:=zI E3 (zI hsz (zI bg (zI bA ak)))
 clear E3 hsz bg bA ak
 go_wp2_with fail
 clear fB fC fD fE fF fG
 obtain⟨E3,hsz,bg,bA,ak⟩:=HH.out
 clear HH
 refine (sD mb _ (s+7) i IG IG w3 E3.2 (R3.mono (by omega)) b_h b_h).mono ?_
 rintro e w4 ⟨he,k4⟩
 obtain⟨jX,hv⟩:∃ x:Nat,x=s+7:=⟨_,rfl⟩
 have WE:jX < 256:=by omega
 have he2:e=.returned (rV jX):=by rw[hv];exact he
 have oC:Hid (jX=s+7):=hv
 clear he hv
 subst he2
 have E4:ah w w4 mb ((((L++bJ s a.x b.w b.x a.w)++bJ (s+3) a.y b.w b.y a.w)++[⟨4,s+6,a.w,b.w⟩])++[⟨2,s+7,IG,IG⟩]) (s+8) (i):=ah.trans E3 k4
 replace bg:=aB.kp bg k4.1
 replace bA:=aB.kp bA k4.1
 replace ak:=aB.kp ak k4.1
 replace hsz:=Nat.le_trans hsz k4.1.size
 clear k4 E3 R3
 have z0:=dN ak 0
 have z1:=dN ak 1
 have z2:=dN ak 2
 obtain⟨y0,y1,y2⟩:=cells3 ak
 have HC:Hid _:=cells3 (dD (x':=rV (lT)) (y':=rV (jl)) (z':=rV (jX)) ak)
 have HE:Hid _:=E4.st (x':=rV (lT)) (y':=rV (jl)) (z':=rV (jX)) ak (by omega)
 have hlt:=lt_of_block ak
 clear E4 bg bA ak
 go_wp2_with fail
 obtain⟨g0,g1,g2⟩:=HC.out
 unfold gL at g0 g1 g2
 have hL:((((L++bJ s a.x b.w b.x a.w)++bJ (s+3) a.y b.w b.y a.w)++[⟨4,s+6,a.w,b.w⟩])++[⟨2,s+7,IG,IG⟩])=L++uI s a b:=by
  have MB:=pU.out
  have Jm:=oD.out
  have e_h:=Xw.out
  have Jl:=oC.out
  subst MB Jm e_h Jl
  simp only[List.append_assoc]
  rfl
 have hR:(.agg #[rV (lT),rV (jl),rV (jX)]:Value)=dZ (gP s):=by rw[pU.out,oD.out,oC.out];rfl
 exact bodyPost_ret (v:=.agg #[rV (lT),rV (jl),rV (jX)]) (by simp[results,Tryz.results84,go_sem,g0,g1,g2]) rfl ⟨by rw[hR],by rw[<- hL];exact HE.out⟩
theorem GK (mb:Nat) (L:List Stp) (s i:Nat) (p l:Tr) (w:World) (hM:dS w mb L s i) (hroom:Room L s 7) (xQ:S8 p) (Yo:S8 l) :
  Calls Tryz.prog 85 #[mP mb,dZ p,dZ l] w fun e w'=>e=.returned (dZ (lZ s))/\ah w w' mb (L++zx s p l) (s+7) (i+0):=by
 obtain⟨zq,zu,wm⟩:=xQ
 obtain⟨D8,Ea,Jy⟩:=Yo
 have r2:=hroom.2
 have E0:ah w (((((w.alloc (aS p))).alloc (aS l))).alloc (d9)) mb L s i:=(ah.al (ah.al (ah.al (show ah w w mb L s i from ⟨Kp.refl mb w,hM⟩) _) _) _)
 have eO:kT (((((w.alloc (aS p))).alloc (aS l))).alloc (d9)) (w.heap.size) p:=by
  have h:=heap_alloc_new w (aS p)
  exact (aB.al (aB.al h _) _)
 have gZ:kT (((((w.alloc (aS p))).alloc (aS l))).alloc (d9)) (w.heap.size+1) l:=by
  have h:=heap_alloc_new (w.alloc (aS p)) (aS l)
  simp only[bG]at h
  exact (aB.al h _)
 have ak:aB (((((w.alloc (aS p))).alloc (aS l))).alloc (d9)) (w.heap.size+1+1) (.int .u8 0) (.int .u8 0) (.int .u8 0):=by
  have h:=heap_alloc_new (((w.alloc (aS p))).alloc (aS l)) (d9)
  simp only[bG]at h
  exact h
 have hsz:w.heap.size+3<=((((((w.alloc (aS p))).alloc (aS l))).alloc (d9))).heap.size:=by simp only[bG];omega
 go_in
 go_wp2_with fail
 generalize (((w.alloc (.cells #[rV p.x,rV p.y,rV p.w] 84)).alloc (.cells #[rV l.x,rV l.y,rV l.w] 84)).alloc (.cells #[.int .u8 0,.int .u8 0,.int .u8 0] 84))=w0 at *
 refine (fU mb _ s i l.x p.w w0 E0.2 (hroom.mono (by omega)) D8 wm).mono ?_
 rintro e w1 ⟨he,k1⟩
 obtain⟨lT,hv⟩:∃ x:Nat,x=s:=⟨_,rfl⟩
 have Zv:lT < 256:=by omega
 have he2:e=.returned (rV lT):=by rw[hv];exact he
 have pU:Hid (lT=s):=hv
 clear he hv
 subst he2
 have E1:ah w w1 mb (L++[⟨4,s,l.x,p.w⟩]) (s+1) (i):=ah.trans E0 k1
 have R1:Room (L++[⟨4,s,l.x,p.w⟩]) (s+1) 6:=Room.app 1 (k:=6) hroom (Nat.le_of_eq rfl)
 replace eO:=aB.kp eO k1.1
 replace gZ:=aB.kp gZ k1.1
 replace ak:=aB.kp ak k1.1
 replace hsz:=Nat.le_trans hsz k1.1.size
 clear k1 E0 hroom
 obtain⟨nV,nW,nX⟩:=cells3 eO
 obtain⟨qR,qU,qV⟩:=cells3 gZ
 have HH:Hid _:=zI E1 (zI hsz (zI eO (zI gZ ak)))
 clear E1 hsz eO gZ ak
 go_wp2_with fail
 clear nV nW nX qR qU qV
 obtain⟨E1,hsz,eO,gZ,ak⟩:=HH.out
 clear HH
 refine (fU mb _ (s+1) i l.y p.w w1 E1.2 (R1.mono (by omega)) Ea wm).mono ?_
 rintro e w2 ⟨he,k2⟩
 obtain⟨jl,hv⟩:∃ x:Nat,x=s+1:=⟨_,rfl⟩
 have WG:jl < 256:=by omega
 have he2:e=.returned (rV jl):=by rw[hv];exact he
 have oD:Hid (jl=s+1):=hv
 clear he hv
 subst he2
 have E2:ah w w2 mb ((L++[⟨4,s,l.x,p.w⟩])++[⟨4,s+1,l.y,p.w⟩]) (s+2) (i):=ah.trans E1 k2
 have R2:Room ((L++[⟨4,s,l.x,p.w⟩])++[⟨4,s+1,l.y,p.w⟩]) (s+2) 5:=Room.app 1 (k:=5) R1 (Nat.le_of_eq rfl)
 replace eO:=aB.kp eO k2.1
 replace gZ:=aB.kp gZ k2.1
 replace ak:=aB.kp ak k2.1
 replace hsz:=Nat.le_trans hsz k2.1.size
 clear k2 E1 R1
 obtain⟨nV,nW,nX⟩:=cells3 eO
 obtain⟨qR,qU,qV⟩:=cells3 gZ
 have HH:Hid _:=zI E2 (zI hsz (zI eO (zI gZ ak)))
 clear E2 hsz eO gZ ak
 go_wp2_with fail
 clear nV nW nX qR qU qV
 obtain⟨E2,hsz,eO,gZ,ak⟩:=HH.out
 clear HH
 refine (nk mb _ (s+2) i l.x p.x l.y p.y w2 E2.2 (R2.mono (by omega)) D8 zq Ea zu).mono ?_
 rintro e w3 ⟨he,k3⟩
 obtain⟨IG,hv⟩:∃ x:Nat,x=s+2+2:=⟨_,rfl⟩
 have b_h:IG < 256:=by omega
 have he2:e=.returned (rV IG):=by rw[hv];exact he
 have Xw:Hid (IG=s+2+2):=hv
 clear he hv
 subst he2
 have E3:ah w w3 mb (((L++[⟨4,s,l.x,p.w⟩])++[⟨4,s+1,l.y,p.w⟩])++bJ (s+2) l.x p.x l.y p.y) (s+5) (i):=ah.trans E2 k3
 have R3:Room (((L++[⟨4,s,l.x,p.w⟩])++[⟨4,s+1,l.y,p.w⟩])++bJ (s+2) l.x p.x l.y p.y) (s+5) 2:=Room.app 3 (k:=2) R2 (Nat.le_of_eq rfl)
 replace eO:=aB.kp eO k3.1
 replace gZ:=aB.kp gZ k3.1
 replace ak:=aB.kp ak k3.1
 replace hsz:=Nat.le_trans hsz k3.1.size
 clear k3 E2 R2
 obtain⟨nV,nW,nX⟩:=cells3 eO
 obtain⟨qR,qU,qV⟩:=cells3 gZ
 have HH:Hid _:=zI E3 (zI hsz (zI eO (zI gZ ak)))
 clear E3 hsz eO gZ ak
 go_wp2_with fail
 clear nV nW nX qR qU qV
 obtain⟨E3,hsz,eO,gZ,ak⟩:=HH.out
 clear HH
 refine (AJ mb _ (s+5) i IG w3 E3.2 (R3.mono (by omega)) b_h).mono ?_
 rintro e w4 ⟨he,k4⟩
 obtain⟨jX,hv⟩:∃ x:Nat,x=s+5+1:=⟨_,rfl⟩
 have WE:jX < 256:=by omega
 have he2:e=.returned (rV jX):=by rw[hv];exact he
 have oC:Hid (jX=s+5+1):=hv
 clear he hv
 subst he2
 have E4:ah w w4 mb ((((L++[⟨4,s,l.x,p.w⟩])++[⟨4,s+1,l.y,p.w⟩])++bJ (s+2) l.x p.x l.y p.y)++negL (s+5) IG) (s+7) (i):=ah.trans E3 k4
 replace eO:=aB.kp eO k4.1
 replace gZ:=aB.kp gZ k4.1
 replace ak:=aB.kp ak k4.1
 replace hsz:=Nat.le_trans hsz k4.1.size
 clear k4 E3 R3
 have z0:=dN ak 0
 have z1:=dN ak 1
 have z2:=dN ak 2
 obtain⟨y0,y1,y2⟩:=cells3 ak
 have HC:Hid _:=cells3 (dD (x':=rV (lT)) (y':=rV (jl)) (z':=rV (jX)) ak)
 have HE:Hid _:=E4.st (x':=rV (lT)) (y':=rV (jl)) (z':=rV (jX)) ak (by omega)
 have hlt:=lt_of_block ak
 clear E4 eO gZ ak
 go_wp2_with fail
 obtain⟨g0,g1,g2⟩:=HC.out
 unfold gL at g0 g1 g2
 have hL:((((L++[⟨4,s,l.x,p.w⟩])++[⟨4,s+1,l.y,p.w⟩])++bJ (s+2) l.x p.x l.y p.y)++negL (s+5) IG)=L++zx s p l:=by
  have MB:=pU.out
  have Jm:=oD.out
  have e_h:=Xw.out
  have Jl:=oC.out
  subst MB Jm e_h Jl
  simp only[List.append_assoc]
  rfl
 have hR:(.agg #[rV (lT),rV (jl),rV (jX)]:Value)=dZ (lZ s):=by rw[pU.out,oD.out,oC.out];rfl
 exact bodyPost_ret (v:=.agg #[rV (lT),rV (jl),rV (jX)]) (by simp[results,Tryz.results85,go_sem,g0,g1,g2]) rfl ⟨by rw[hR],by rw[<- hL];exact HE.out⟩
end Go.Proofs.YtmnfndpbblpjiabGreatDoor

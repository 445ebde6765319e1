/- The document's weight of a statement. -/
import Derived.Test.YtmnfndpbblpjiaaGreatDoorZr27
namespace Go.Proofs.YtmnfndpbblpjiaaGreatDoor
open Go.RowKit Pu
theorem gv_take {p:List (St × Nat)} {i:Nat} {l:List St} (h:sts p=l.take p.length) (hi:i≤p.length):sts (p.take i)=l.take i:=by
 have:sts (p.take i)=(sts p).take i:=by simp [sts]
 rw [this,h,List.take_take];congr 1;omega
set_option maxHeartbeats 1600000 in
set_option maxRecDepth 100000 in
theorem weight_step (v:Value) (l:List St) (base i:Nat) (w:World) (p:List (St × Nat)) (hl:l.length≤1000) (hi:i < l.length) (hL:RLst w base v l) (hok:Ok p) (hp:sts p=l.take p.length) (hip:i≤p.length)
  (hg:∀ a∈l[i].args,gvI (l.take i) a.toNat≠-1) (h4:l[i].args.length≤4)
  (ih:∀ j (hj:j < p.length),j < i→Calls Tryz.prog 70 #[v,.int .i64 j] w fun e w'=>e=.returned (.int .i64 p[j].2)∧w=w') :
  Calls Tryz.prog 70 #[v,.int .i64 i] w fun e w'=>e=.returned (.int .i64 (wgh (p.take i) l[i]))∧w=w':=by
 obtain ⟨ao,cap,rfl,-⟩:=owns_form hL
 obtain ⟨gb,rfl,c0,c1,c2⟩:=hL.cell hi
 have IH:Hid (∀ j (hj:j < p.length),j < i→Calls Tryz.prog 70 #[.slice (some ⟨gb,0,none⟩) l.length cap,.int .i64 j] w fun e w'=>e=.returned (.int .i64 p[j].2)∧w=w'):=ih
 clear ih
 have hst:=gv_take hp hip
 have hoki:Ok (p.take i):=fun j hj=>by
  have hj':j < p.length:=by simp at hj;omega
  have hji:j < i:=by simp at hj;omega
  have:=hok j hj'
  rw [List.take_take,show min j i=j by omega,List.getElem_take];exact this
 have HO:Hid (Ok (p.take i)):=hoki
 have HG:Hid (∀ a∈l[i].args,gvI (l.take i) a.toNat≠-1):=hg
 have HST:Hid (sts (p.take i)=l.take i):=hst
 have HWG:Hid (∀ nm wd ag,l[i]=⟨nm,wd,ag⟩→wgh (p.take i) l[i]=if nm=0 then 0 else wG wd (sumW (p.take i) ag) (lastW (p.take i) ag)):=fun nm wd ag h=>by rw [h];rfl
 clear hst hoki hg hp hok
 generalize hx:l[i]=x at *
 obtain ⟨nm,wd,ag⟩:=x
 simp only at c0 c1 c2 h4 HG
 have HWG2:Hid (wgh (p.take i) ⟨nm,wd,ag⟩=if nm=0 then 0 else wG wd (sumW (p.take i) ag) (lastW (p.take i) ag)):=rfl
 clear HWG hx
 generalize wgh (p.take i) ⟨nm,wd,ag⟩=res at *
 by_cases h0:nm=0
 ·have hb:((nm:Int) == 0)=true:=beq_t (m:=0) h0
  have HR:Hid (res=0):=show res=0 by rw [HWG2.out,if_pos h0]
  clear h0
  go_enter Tryz.func70,Tryz.ntmps70
  go_wp2_with fail
  go_ret
  exact ⟨by rw [HR.out];rfl,rfl⟩
 ·have hb:((nm:Int) == 0)=false:=beq_f (m:=0) h0
  have HR:Hid (res=wG wd (sumW (p.take i) ag) (lastW (p.take i) ag)):=show res=wG wd (sumW (p.take i) ag) (lastW (p.take i) ag) by rw [HWG2.out,if_neg h0]
  clear h0 HWG2
  cases hpt:(wd == [112,116]) with
  | true =>
   have HR2:Hid (res=1):=show res=1 by rw [HR.out];simp [wG,hpt]
   go_enter Tryz.func70,Tryz.ntmps70
   go_wp2_with fail
   go_ret
   exact ⟨by rw [HR2.out];rfl,rfl⟩
  | false =>
   go_enter Tryz.func70,Tryz.ntmps70
   go_wp2_with fail
   go_loop [5,6,7] (fun a b i'=>∃ k:Nat,k≤ag.length∧i'=.int .i64 k∧a=.int .i64 (sumW (p.take i) (ag.take k))∧b=.int .i64 (lastW (p.take i) (ag.take k))) (fun _ _ i'=>ag.length - (intOf i').toNat)
   case atStart=>exact ⟨0,by omega,rfl,rfl,rfl⟩
   case round =>
    obtain ⟨k,hk,rfl,rfl,rfl⟩:=hrel
    have b1:=HO.out.sumW (ag.take k)
    have b2:=HO.out.lastW (ag.take k)
    have b3:(ag.take k).length≤k:=List.length_take_le _ _
    by_cases hlt:k < ag.length
    ·have HT:Hid (ag.take (k+1)=ag.take k++[ag[k]]):=take_snoc' _ _ hlt
     obtain ⟨j,hj,hgj,-⟩:=given_lt (p:=p.take i) (nm:=ag[k].toNat) (by rw [HST.out];exact HG.out _ (List.getElem_mem hlt))
     have hji:j < i:=by simp at hj;omega
     have hjp:j < p.length:=by simp at hj;omega
     have HW:Hid (argW (p.take i) ag[k].toNat=p[j].2):=show argW (p.take i) ag[k].toNat=p[j].2 by simp [argW,who_of hj hgj]
     have hwb:p[j].2≤64:=by have:=HO.out.argW ag[k].toNat;rw [HW.out] at this;exact this
     have HJ:Hid (gvI (l.take i) ag[k].toNat=(j:Int)):=show gvI (l.take i) ag[k].toNat=(j:Int) by rw [← HST.out];exact hgj
     clear hgj hj
     have hso:∀ h,(⟨ag.toArray⟩:ByteArray)[k]'h=ag[k]:=fun _=>rfl
     go_wp2_with fail
     have hgv:=given_any (.slice (some ⟨gb,0,none⟩) l.length cap) l i ag[k].toNat base w hl (by omega) hL
     rw [HJ.out] at hgv
     refine hgv.mono ?_
     rintro e w2 ⟨rfl,rfl⟩
     clear hgv
     go_wp2_with fail
     refine (IH.out j hjp hji).mono ?_
     rintro e w2 ⟨rfl,rfl⟩
     go_wp2_with fail
     go_round
     case rel=>exact ⟨k+1,by omega,by go_num,by rw [HT.out,sumW_snoc,HW.out];go_num,by rw [HT.out,lastW_snoc,HW.out]⟩
     case measure=>simp [intOf];omega
    ·have hkl:k=ag.length:=by omega
     subst hkl
     rw [List.take_length] at b1 b2 ⊢
     clear b3
     cases hf:(wd == [102,111,111,116]) with
     | true =>
      have HR2:Hid (res=sumW (p.take i) ag+lastW (p.take i) ag):=show res=sumW (p.take i) ag+lastW (p.take i) ag by rw [HR.out];simp [wG,hpt,hf]
      go_wp2_with fail
      go_ret
      exact ⟨by rw [HR2.out];rfl,rfl⟩
     | false =>
      cases hm:(wd == [109,105,114,114,111,114]) with
      | true =>
       have HR2:Hid (res=2*sumW (p.take i) ag):=show res=2*sumW (p.take i) ag by rw [HR.out];simp [wG,hpt,hf,hm]
       go_wp2_with fail
       go_ret
       exact ⟨by rw [HR2.out];rfl,rfl⟩
      | false =>
       cases hc:(wd == [99,101,110,116,114,101]) with
       | true =>
        have HR2:Hid (res=4*sumW (p.take i) ag):=show res=4*sumW (p.take i) ag by rw [HR.out];simp [wG,hpt,hf,hm,hc]
        go_wp2_with fail
        go_ret
        exact ⟨by rw [HR2.out];rfl,rfl⟩
       | false =>
        have HR2:Hid (res=sumW (p.take i) ag):=show res=sumW (p.take i) ag by rw [HR.out];simp [wG,hpt,hf,hm,hc]
        go_wp2_with fail
        go_ret
        exact ⟨by rw [HR2.out];rfl,rfl⟩
theorem weight_at (v:Value) (l:List St) (base:Nat) (w:World) (p:List (St × Nat)) (hl:l.length≤1000) (hL:RLst w base v l) (hok:Ok p) (hp:sts p=l.take p.length) (hpl:p.length≤l.length) :
  ∀ n j (hj:j < p.length),j < n→Calls Tryz.prog 70 #[v,.int .i64 j] w fun e w'=>e=.returned (.int .i64 p[j].2)∧w=w':=by
 intro n
 induction n with
 | zero=>intro j hj h;omega
 | succ n ih =>
  intro j hj hjn
  have hjl:j < l.length:=by omega
  have hx:p[j].1=l[j]:=by
   have h1:(sts p)[j]?=(l.take p.length)[j]?:=by rw [hp]
   simp [sts,hj,hjl] at h1
   exact h1
  obtain ⟨he,hw⟩:=hok j hj
  have hz:=err_zero he
  rw [hx] at hz hw
  have hn:=hz.2.2.1
  rw [gv_take hp (by omega)] at hn
  have:=weight_step v l base j w p hl hjl hL hok hp (by omega) (names_each hn) (by have:=fm_len l[j].word;rw [hz.2.1];omega) (fun i hi hij=>ih i hi (by omega))
  rw [← hw] at this
  exact this
theorem weight_next (v:Value) (l:List St) (base:Nat) (w:World) (p:List (St × Nat)) (hl:l.length≤1000) (hL:RLst w base v l) (hok:Ok p) (hp:sts p=l.take p.length) (hi:p.length < l.length)
  (hg:∀ a∈l[p.length].args,gvI (sts p) a.toNat≠-1) (h4:l[p.length].args.length≤4) :
  Calls Tryz.prog 70 #[v,.int .i64 p.length] w fun e w'=>e=.returned (.int .i64 (wgh p l[p.length]))∧w=w':=by
 have:=weight_step v l base p.length w p hl hi hL hok hp (Nat.le_refl _) (by rw [← hp];exact hg) h4 (fun j hj _=>weight_at v l base w p hl hL hok hp (by omega) (j+1) j hj (by omega))
 rw [List.take_length] at this
 exact this
theorem RLst.mod {w w':World} {base:Nat} {v:Value} {l:List St} (h:RLst w base v l) (hm:Mod (fun _=>False) w w'):RLst w' base v l:=owns_mod h hm (fun _ _ f=>f)
theorem sx_new (w:World) (nm:Nat) (wd ag:List UInt8):Sx (w.alloc (.cells #[.int .u8 nm,S wd,S ag] 124)) w.heap.size ⟨nm,wd,ag⟩:=by
 unfold Sx;show (w.heap.push _)[w.heap.size]?=_;simp
theorem gvI_ge (l:List St) (nm:Nat):gvI l nm=-1∨0≤gvI l nm:=by
 rcases gvI_cases l nm with ⟨h,_⟩ | ⟨k,_,h,_⟩
 ·exact .inl h
 ·exact .inr (by omega)
theorem sortsF_no {p:List (St × Nat)} {ag so:List UInt8} {k:Nat} (hk:k < ag.length) (hs:k < so.length) (h:¬ (fm (argWord p ag[k].toNat)).2=so[k].toNat):sortsOk p ag so=false:=by
 unfold sortsOk
 rw [Bool.eq_false_iff,ne_eq,List.all_eq_true]
 intro H
 have:=H (ag[k],so[k]) (by rw [← List.getElem_zip (h:=by simp;omega)];exact List.getElem_mem _)
 exact h (by simpa using this)
theorem sortsF_yes {p:List (St × Nat)} {ag so:List UInt8} (h:∀ j (hj:j < ag.length) (hs:j < so.length),(fm (argWord p ag[j].toNat)).2=so[j].toNat):sortsOk p ag so=true:=by
 unfold sortsOk
 rw [List.all_eq_true]
 intro y hy
 obtain ⟨j,hj,rfl⟩:=List.getElem_of_mem hy
 have hj':j < min ag.length so.length:=by simpa using hj
 simpa using h j (by omega) (by omega)
theorem known_iff (nm:Nat) (wd ag:List UInt8) (gv:Nat) (h:(fm wd).2=gv):known ⟨nm,wd,ag⟩=!((gv == 0) || ((decide (gv=63)) != (decide (nm=0)))):=by
 unfold known;simp only [h]
 by_cases h0:gv=0
 ·simp [h0]
 ·by_cases h1:gv=63 <;> by_cases h2:nm=0 <;> simp [h1,h2,bne]
set_option maxHeartbeats 2000000 in
set_option maxRecDepth 100000 in
theorem fault_any (v:Value) (l:List St) (base:Nat) (w:World) (p:List (St × Nat)) (hl:l.length≤1000) (hL:RLst w base v l) (hok:Ok p) (hp:sts p=l.take p.length) (hi:p.length < l.length) :
  Calls Tryz.prog 67 #[v,.int .i64 p.length] w fun e w'=>e=.returned (.int .i64 (err p l[p.length]))∧Mod (fun _=>False) w w':=by
 obtain ⟨ao,cap,rfl,-⟩:=owns_form hL
 obtain ⟨gb,rfl,c0,c1,c2⟩:=hL.cell hi
 have HO:Hid (Ok p):=hok
 have HP:Hid (sts p=l.take p.length):=hp
 have HWN:Hid (∀ W,RLst W base (.slice (some ⟨gb,0,none⟩) l.length cap) l→(∀ a∈l[p.length].args,gvI (sts p) a.toNat≠-1)→l[p.length].args.length≤4→Calls Tryz.prog 70 #[.slice (some ⟨gb,0,none⟩) l.length cap,.int .i64 p.length] W fun e w'=>e=.returned (.int .i64 (wgh p l[p.length]))∧W=w') :=
  fun W hLW h1 h2=>weight_next _ l base W p hl hLW hok hp hi h1 h2
 clear hok hp
 generalize hx:l[p.length]=x at *
 obtain ⟨nm,wd,ag⟩:=x
 have hX:=sx_new w nm wd ag
 have hm0:Mod (fun _=>False) w (w.alloc (.cells #[.int .u8 nm,S wd,S ag] 124)):=(Mod.refl _ w).alloc _
 have hL1:=hL.mod hm0
 simp only at c0 c1 c2 HWN
 clear hx hL
 have hfl:=fm_len wd
 have hFM:=form_any ⟨wd.toArray⟩ (w.alloc (.cells #[.int .u8 nm,S wd,S ag] 124))
 rw [ByteArray.toList_mk] at hFM
 have HFM:Hid (Calls Tryz.prog 113 #[S wd] (w.alloc (.cells #[.int .u8 nm,S wd,S ag] 124)) fun e w'=>e=.returned (.tuple #[S (fm wd).1,.int .u8 (fm wd).2])∧w.alloc (.cells #[.int .u8 nm,S wd,S ag] 124)=w'):=hFM
 clear hFM
 have HE:Hid (err p ⟨nm,wd,ag⟩=if known ⟨nm,wd,ag⟩=false then 3 else if ag.length≠(fm wd).1.length then 4 else if namesOk (sts p) ⟨nm,wd,ag⟩=false then 5 else if sortsOk p ag (fm wd).1=false then 6 else if 64 < wgh p ⟨nm,wd,ag⟩ then 7 else 0):=rfl
 generalize err p ⟨nm,wd,ag⟩=er at *
 generalize hgv:(fm wd).2=gv at *
 generalize hso:(fm wd).1=so at *
 have hkn:=known_iff nm wd ag gv hgv
 clear hgv hso
 by_cases hz:gv=0
 ·have HR:Hid (er=3):=show er=3 by rw [HE.out,hkn];simp [hz]
  clear HE hkn HWN
  have hb:((gv:Int) == 0)=true:=beq_t (m:=0) hz
  clear hz
  go_enter Tryz.func67,Tryz.ntmps67
  go_wp2_with fail
  refine HFM.out.mono ?_
  rintro e w2 ⟨rfl,rfl⟩
  go_wp2_with fail
  go_ret
  exact ⟨by rw [HR.out];rfl,hm0⟩
 ·have hb:((gv:Int) == 0)=false:=beq_f (m:=0) hz
  have e1:((gv:Int) == 63)=decide (gv=63):=by rw [Bool.eq_iff_iff];simp;omega
  have e2:((nm:Int) == 0)=decide (nm=0):=by rw [Bool.eq_iff_iff];simp
  have e3:((nm:Int) != 0)=!decide (nm=0):=by rw [bne,e2]
  have hkn':known ⟨nm,wd,ag⟩=!((decide (gv=63)) != (decide (nm=0))):=by rw [hkn];simp [hz]
  clear hkn hz
  have HN0:Hid (∀ b,decide (nm=0)=b→(nm == 0)=b):=fun b h=>by rw [← h];rfl
  generalize decide (gv=63)=b1 at *
  generalize hd:decide (nm=0)=b2 at *
  have HND:Hid ((nm == 0)=b2):=HN0.out b2 rfl
  clear hd HN0
  have x0:=hX.c0
  have x2:=hX.c2
  by_cases hbb:b1=b2
  ·subst hbb
   have HKN:Hid (known ⟨nm,wd,ag⟩=true):=show known ⟨nm,wd,ag⟩=true by rw [hkn'];simp
   clear hkn'
   by_cases hc:ag.length=so.length
   ·have HC:Hid (ag.length=so.length):=hc
    have hcb:((ag.length:Int) != (so.length:Int))=false:=by rw [hc];simp
    have hal4:ag.length≤4:=by omega
    clear hc
    go_enter Tryz.func67,Tryz.ntmps67
    go_wp2_with fail
    refine HFM.out.mono ?_
    rintro e w2 ⟨rfl,rfl⟩
    go_wp2_with fail
    generalize w.alloc (.cells #[.int .u8 nm,S wd,S ag] 124)=W at *
    go_loop [8] (fun i=>∃ k:Nat,k≤ag.length∧i=.int .i64 k∧∀ j (hj:j < ag.length),j < k→gvI (l.take p.length) ag[j].toNat≠-1) (fun i=>ag.length - (intOf i).toNat)
    case atStart=>exact ⟨0,by omega,rfl,fun j hj h=>by omega⟩
    case round =>
     obtain ⟨k,hk,rfl,hN⟩:=hrel
     have HN:Hid (∀ j (hj:j < ag.length),j < k→gvI (l.take p.length) ag[j].toNat≠-1):=hN
     clear hN
     by_cases hlt:k < ag.length
     ·have hks:k < so.length:=by have:=HC.out;omega
      have hso:∀ h,(⟨ag.toArray⟩:ByteArray)[k]'h=ag[k]:=fun _=>rfl
      rcases gvI_ge (l.take p.length) ag[k].toNat with hg | hg
      ·have HG:Hid (gvI (l.take p.length) ag[k].toNat=-1):=hg
       clear hg
       go_wp2_with fail
       have hgv:=given_any (.slice (some ⟨gb,0,none⟩) l.length cap) l p.length ag[k].toNat base W hl (by omega) hL1
       rw [HG.out] at hgv
       refine hgv.mono ?_
       rintro e w2 ⟨rfl,rfl⟩
       clear hgv
       go_wp2_with fail
       go_ret
       have HR:er=5:=by
        have h5:namesOk (sts p) ⟨nm,wd,ag⟩=false:=by rw [HP.out];exact names_no (x:=⟨nm,wd,ag⟩) hlt HG.out
        rw [HE.out,HKN.out,h5];simp [HC.out]
       exact ⟨by rw [HR];rfl,hm0⟩
      ·have HG:Hid (gvI (l.take p.length) ag[k].toNat≠-1):=show gvI (l.take p.length) ag[k].toNat≠-1 by omega
       have hgb:decide (gvI (l.take p.length) ag[k].toNat < 0)=false:=by simp;exact hg
       go_wp2_with fail
       refine (given_any (.slice (some ⟨gb,0,none⟩) l.length cap) l p.length ag[k].toNat base W hl (by omega) hL1).mono ?_
       rintro e w2 ⟨rfl,rfl⟩
       go_wp2_with fail
       go_round
       case rel=>exact ⟨k+1,by omega,by go_num,fun j hj h=>by by_cases e:j=k;(· subst e;exact HG.out);exact HN.out j hj (by omega)⟩
       case measure=>simp [intOf];omega
     ·have HALL:Hid (∀ a∈ag,gvI (l.take p.length) a.toNat≠-1):=fun a ha=>by
       obtain ⟨j,hj,rfl⟩:=List.getElem_of_mem ha
       exact HN.out j hj (by omega)
      have hks:so.length≤k:=by have:=HC.out;omega
      clear HN
      cases b1 with
      | true =>
       simp only [Bool.not_true] at e3
       have HNM:Hid (namesOk (sts p) ⟨nm,wd,ag⟩=true):=show namesOk (sts p) ⟨nm,wd,ag⟩=true by
        have ha:ag.all (fun a=>gvI (sts p) a.toNat != -1)=true:=by rw [List.all_eq_true];intro a ha;rw [bne_iff_ne,HP.out];exact HALL.out a ha
        simp only [namesOk,ha,HND.out];rfl
       go_wp2_with fail
       go_loop [9] (fun i=>∃ k:Nat,k≤ag.length∧i=.int .i64 k∧∀ j (hj:j < ag.length) (hs:j < so.length),j < k→(fm (argWord p ag[j].toNat)).2=so[j].toNat) (fun i=>ag.length - (intOf i).toNat)
       case atStart=>exact ⟨0,by omega,rfl,fun j hj hs h=>by omega⟩
       case round =>
        obtain ⟨k,hk,rfl,hN⟩:=hrel
        have HN:Hid (∀ j (hj:j < ag.length) (hs:j < so.length),j < k→(fm (argWord p ag[j].toNat)).2=so[j].toNat):=hN
        clear hN
        by_cases hlt:k < ag.length
        ·have hks:k < so.length:=by have:=HC.out;omega
         have hsa:∀ h,(⟨ag.toArray⟩:ByteArray)[k]'h=ag[k]:=fun _=>rfl
         have hso:∀ h,(⟨so.toArray⟩:ByteArray)[k]'h=so[k]:=fun _=>rfl
         obtain ⟨j,hj,hgj,-⟩:=given_lt (p:=p) (nm:=ag[k].toNat) (by rw [HP.out];exact HALL.out _ (List.getElem_mem hlt))
         have hjl:j < l.length:=by omega
         have hpj:p[j].1=l[j]:=by
          have h1:(sts p)[j]?=(l.take p.length)[j]?:=by rw [HP.out]
          simp [sts,hj,hjl] at h1
          exact h1
         have HW:Hid (argWord p ag[k].toNat=l[j].word):=show argWord p ag[k].toNat=l[j].word by simp [argWord,who_of hj hgj,hpj]
         have HJ:Hid (gvI (l.take p.length) ag[k].toNat=(j:Int)):=show gvI (l.take p.length) ag[k].toNat=(j:Int) by rw [← HP.out];exact hgj
         obtain ⟨gb',hgb',-,d1,-⟩:=hL1.cell hjl
         cases hgb'
         clear hgj hpj
         have hF2:=form_any ⟨l[j].word.toArray⟩ W
         rw [ByteArray.toList_mk] at hF2
         have HF2:Hid (Calls Tryz.prog 113 #[S l[j].word] W fun e w'=>e=.returned (.tuple #[S (fm l[j].word).1,.int .u8 (fm l[j].word).2])∧W=w'):=hF2
         clear hF2
         generalize l[j].word=wj at *
         generalize (fm wj).1=f1 at *
         generalize hf2:(fm wj).2=f2 at *
         have HF:Hid ((fm wj).2=f2):=hf2
         clear hf2
         by_cases he:f2=so[k].toNat
         ·have HEQ:Hid (f2=so[k].toNat):=he
          have hbe:((f2:Int) != (so[k].toNat:Int))=false:=by rw [he];simp
          clear he
          go_wp2_with fail
          have hgv:=given_any (.slice (some ⟨gb,0,none⟩) l.length cap) l p.length ag[k].toNat base W hl (by omega) hL1
          rw [HJ.out] at hgv
          refine hgv.mono ?_
          rintro e w2 ⟨rfl,rfl⟩
          clear hgv
          go_wp2_with fail
          refine HF2.out.mono ?_
          rintro e w2 ⟨rfl,rfl⟩
          go_wp2_with fail
          go_round
          case rel=>exact ⟨k+1,by omega,by go_num,fun j hj hs h=>by by_cases e:j=k;(· subst e;rw [HW.out,HF.out];exact HEQ.out);exact HN.out j hj hs (by omega)⟩
          case measure=>simp [intOf];omega
         ·have hbe:((f2:Int) != (so[k].toNat:Int))=true:=by rw [bne_iff_ne];omega
          go_wp2_with fail
          have hgv:=given_any (.slice (some ⟨gb,0,none⟩) l.length cap) l p.length ag[k].toNat base W hl (by omega) hL1
          rw [HJ.out] at hgv
          refine hgv.mono ?_
          rintro e w2 ⟨rfl,rfl⟩
          clear hgv
          go_wp2_with fail
          refine HF2.out.mono ?_
          rintro e w2 ⟨rfl,rfl⟩
          go_wp2_with fail
          go_ret
          have HR:er=6:=by
           have h6:sortsOk p ag so=false:=sortsF_no hlt hks (by rw [HW.out,HF.out];exact he)
           rw [HE.out,HKN.out,HNM.out,h6];simp [HC.out]
          exact ⟨by rw [HR];rfl,hm0⟩
        ·have H6:Hid (sortsOk p ag so=true):=sortsF_yes (fun j hj hs=>HN.out j hj hs (by omega))
         have hks:so.length≤k:=by have:=HC.out;omega
         clear HN
         have hW:=HWN.out W hL1 (by rw [HP.out];exact HALL.out) hal4
         have HW:Hid (Calls Tryz.prog 70 #[.slice (some ⟨gb,0,none⟩) l.length cap,.int .i64 p.length] W fun e w'=>e=.returned (.int .i64 (wgh p ⟨nm,wd,ag⟩))∧W=w'):=hW
         clear hW HWN
         generalize wgh p ⟨nm,wd,ag⟩=wv at *
         by_cases h64:64 < wv
         ·have HR:Hid (er=7):=show er=7 by rw [HE.out,HKN.out,HNM.out,H6.out];simp [HC.out,h64]
          go_wp2_with fail
          refine HW.out.mono ?_
          rintro e w2 ⟨rfl,rfl⟩
          go_wp2_with fail
          go_ret
          exact ⟨by rw [HR.out];rfl,hm0⟩
         ·have HR:Hid (er=0):=show er=0 by rw [HE.out,HKN.out,HNM.out,H6.out];simp [HC.out,h64]
          go_wp2_with fail
          refine HW.out.mono ?_
          rintro e w2 ⟨rfl,rfl⟩
          go_wp2_with fail
          go_ret
          exact ⟨by rw [HR.out];rfl,hm0⟩
      | false =>
       simp only [Bool.not_false] at e3
       rcases gvI_ge (l.take p.length) nm with hg | hg
       ·have HG:Hid (gvI (l.take p.length) nm=-1):=hg
        clear hg
        have HNM:Hid (namesOk (sts p) ⟨nm,wd,ag⟩=true):=show namesOk (sts p) ⟨nm,wd,ag⟩=true by
         have ha:ag.all (fun a=>gvI (sts p) a.toNat != -1)=true:=by rw [List.all_eq_true];intro a ha;rw [bne_iff_ne,HP.out];exact HALL.out a ha
         have hgn:gvI (sts p) nm=-1:=by rw [HP.out];exact HG.out
         simp only [namesOk,ha,HND.out,hgn];rfl
        go_wp2_with fail
        have hgv:=given_any (.slice (some ⟨gb,0,none⟩) l.length cap) l p.length nm base W hl (by omega) hL1
        rw [HG.out] at hgv
        refine hgv.mono ?_
        rintro e w2 ⟨rfl,rfl⟩
        clear hgv
        go_wp2_with fail
        go_loop [9] (fun i=>∃ k:Nat,k≤ag.length∧i=.int .i64 k∧∀ j (hj:j < ag.length) (hs:j < so.length),j < k→(fm (argWord p ag[j].toNat)).2=so[j].toNat) (fun i=>ag.length - (intOf i).toNat)
        case atStart=>exact ⟨0,by omega,rfl,fun j hj hs h=>by omega⟩
        case round =>
         obtain ⟨k,hk,rfl,hN⟩:=hrel
         have HN:Hid (∀ j (hj:j < ag.length) (hs:j < so.length),j < k→(fm (argWord p ag[j].toNat)).2=so[j].toNat):=hN
         clear hN
         by_cases hlt:k < ag.length
         ·have hks:k < so.length:=by have:=HC.out;omega
          have hsa:∀ h,(⟨ag.toArray⟩:ByteArray)[k]'h=ag[k]:=fun _=>rfl
          have hso:∀ h,(⟨so.toArray⟩:ByteArray)[k]'h=so[k]:=fun _=>rfl
          obtain ⟨j,hj,hgj,-⟩:=given_lt (p:=p) (nm:=ag[k].toNat) (by rw [HP.out];exact HALL.out _ (List.getElem_mem hlt))
          have hjl:j < l.length:=by omega
          have hpj:p[j].1=l[j]:=by
           have h1:(sts p)[j]?=(l.take p.length)[j]?:=by rw [HP.out]
           simp [sts,hj,hjl] at h1
           exact h1
          have HW:Hid (argWord p ag[k].toNat=l[j].word):=show argWord p ag[k].toNat=l[j].word by simp [argWord,who_of hj hgj,hpj]
          have HJ:Hid (gvI (l.take p.length) ag[k].toNat=(j:Int)):=show gvI (l.take p.length) ag[k].toNat=(j:Int) by rw [← HP.out];exact hgj
          obtain ⟨gb',hgb',-,d1,-⟩:=hL1.cell hjl
          cases hgb'
          clear hgj hpj
          have hF2:=form_any ⟨l[j].word.toArray⟩ W
          rw [ByteArray.toList_mk] at hF2
          have HF2:Hid (Calls Tryz.prog 113 #[S l[j].word] W fun e w'=>e=.returned (.tuple #[S (fm l[j].word).1,.int .u8 (fm l[j].word).2])∧W=w'):=hF2
          clear hF2
          generalize l[j].word=wj at *
          generalize (fm wj).1=f1 at *
          generalize hf2:(fm wj).2=f2 at *
          have HF:Hid ((fm wj).2=f2):=hf2
          clear hf2
          by_cases he:f2=so[k].toNat
          ·have HEQ:Hid (f2=so[k].toNat):=he
           have hbe:((f2:Int) != (so[k].toNat:Int))=false:=by rw [he];simp
           clear he
           go_wp2_with fail
           have hgv:=given_any (.slice (some ⟨gb,0,none⟩) l.length cap) l p.length ag[k].toNat base W hl (by omega) hL1
           rw [HJ.out] at hgv
           refine hgv.mono ?_
           rintro e w2 ⟨rfl,rfl⟩
           clear hgv
           go_wp2_with fail
           refine HF2.out.mono ?_
           rintro e w2 ⟨rfl,rfl⟩
           go_wp2_with fail
           go_round
           case rel=>exact ⟨k+1,by omega,by go_num,fun j hj hs h=>by by_cases e:j=k;(· subst e;rw [HW.out,HF.out];exact HEQ.out);exact HN.out j hj hs (by omega)⟩
           case measure=>simp [intOf];omega
          ·have hbe:((f2:Int) != (so[k].toNat:Int))=true:=by rw [bne_iff_ne];omega
           go_wp2_with fail
           have hgv:=given_any (.slice (some ⟨gb,0,none⟩) l.length cap) l p.length ag[k].toNat base W hl (by omega) hL1
           rw [HJ.out] at hgv
           refine hgv.mono ?_
           rintro e w2 ⟨rfl,rfl⟩
           clear hgv
           go_wp2_with fail
           refine HF2.out.mono ?_
           rintro e w2 ⟨rfl,rfl⟩
           go_wp2_with fail
           go_ret
           have HR:er=6:=by
            have h6:sortsOk p ag so=false:=sortsF_no hlt hks (by rw [HW.out,HF.out];exact he)
            rw [HE.out,HKN.out,HNM.out,h6];simp [HC.out]
           exact ⟨by rw [HR];rfl,hm0⟩
         ·have H6:Hid (sortsOk p ag so=true):=sortsF_yes (fun j hj hs=>HN.out j hj hs (by omega))
          have hks:so.length≤k:=by have:=HC.out;omega
          clear HN
          have hW:=HWN.out W hL1 (by rw [HP.out];exact HALL.out) hal4
          have HW:Hid (Calls Tryz.prog 70 #[.slice (some ⟨gb,0,none⟩) l.length cap,.int .i64 p.length] W fun e w'=>e=.returned (.int .i64 (wgh p ⟨nm,wd,ag⟩))∧W=w'):=hW
          clear hW HWN
          generalize wgh p ⟨nm,wd,ag⟩=wv at *
          by_cases h64:64 < wv
          ·have HR:Hid (er=7):=show er=7 by rw [HE.out,HKN.out,HNM.out,H6.out];simp [HC.out,h64]
           go_wp2_with fail
           refine HW.out.mono ?_
           rintro e w2 ⟨rfl,rfl⟩
           go_wp2_with fail
           go_ret
           exact ⟨by rw [HR.out];rfl,hm0⟩
          ·have HR:Hid (er=0):=show er=0 by rw [HE.out,HKN.out,HNM.out,H6.out];simp [HC.out,h64]
           go_wp2_with fail
           refine HW.out.mono ?_
           rintro e w2 ⟨rfl,rfl⟩
           go_wp2_with fail
           go_ret
           exact ⟨by rw [HR.out];rfl,hm0⟩
       ·have HNM:Hid (namesOk (sts p) ⟨nm,wd,ag⟩=false):=show namesOk (sts p) ⟨nm,wd,ag⟩=false by
         have h1:(gvI (sts p) nm == -1)=false:=by rw [beq_eq_false_iff_ne,HP.out];omega
         simp [namesOk,HND.out,h1]
        have HR:Hid (er=5):=show er=5 by rw [HE.out,HKN.out,HNM.out];simp [HC.out]
        go_wp2_with fail
        refine (given_any (.slice (some ⟨gb,0,none⟩) l.length cap) l p.length nm base W hl (by omega) hL1).mono ?_
        rintro e w2 ⟨rfl,rfl⟩
        go_wp2_with fail
        go_ret
        exact ⟨by rw [HR.out];rfl,hm0⟩
   ·have hcb:((ag.length:Int) != (so.length:Int))=true:=by rw [bne_iff_ne];omega
    have HR:Hid (er=4):=show er=4 by rw [HE.out,HKN.out];simp [hc]
    go_enter Tryz.func67,Tryz.ntmps67
    go_wp2_with fail
    refine HFM.out.mono ?_
    rintro e w2 ⟨rfl,rfl⟩
    go_wp2_with fail
    go_ret
    exact ⟨by rw [HR.out];rfl,hm0⟩
  ·have hb2:b2=!b1:=by cases b1 <;> cases b2 <;> simp_all
   subst hb2
   have HR:Hid (er=3):=show er=3 by rw [HE.out,hkn'];simp
   clear HE hkn' HWN hbb
   go_enter Tryz.func67,Tryz.ntmps67
   go_wp2_with fail
   refine HFM.out.mono ?_
   rintro e w2 ⟨rfl,rfl⟩
   go_wp2_with fail
   go_ret
   exact ⟨by rw [HR.out];rfl,hm0⟩
end Go.Proofs.YtmnfndpbblpjiaaGreatDoor

/- The scanner's step, state by state. -/
namespace Go.Proofs.YtmnfndpbblpjiaaGreatDoor
set_option linter.unusedVariables false
open Go.RowKit Pu
set_option maxHeartbeats 1000000 in
set_option maxRecDepth 100000 in
theorem next0_0 (xb n le ar c:Nat) (w:World) (hX:Scn w xb ⟨0,n,le,ar⟩) (hn:n≤300) (hl:le≤300) (ha:ar≤300) (hc:c < 256) (hq16:((n:Int) == 16)=true) :
  Calls Tryz.prog 112 #[.pointer (some ⟨xb,0,none⟩),.int .u8 c] w (NextEnd xb ⟨0,n,le,ar⟩ c w):=by
 have c0:=hX.c0
 have c1:=hX.c1
 have c2:=hX.c2
 have c3:=hX.c3
 have f0:=hX.fz 0
 have f1:=hX.fz 1
 have f2:=hX.fz 2
 have f3:=hX.fz 3
 have HX:Hid (Scn w xb ⟨0,n,le,ar⟩):=hX
 have HN:Hid (nx ⟨0,n,le,ar⟩ c=none):=show nx ⟨0,n,le,ar⟩ c=none by
  have e_n16:n=16:=by have:=hq16;simp at this;omega
  simp [nx,e_n16]
 clear hX
 go_enter Tryz.func112,Tryz.ntmps112
 go_wp2_with (go_at_call 82;refine (lettr _ _).mono ?_;rintro e w' ⟨rfl,rfl⟩)
 go_ret
 exact ne_no HN.out
set_option maxHeartbeats 1000000 in
set_option maxRecDepth 100000 in
theorem next0_1 (xb n le ar c:Nat) (w:World) (hX:Scn w xb ⟨0,n,le,ar⟩) (hn:n≤300) (hl:le≤300) (ha:ar≤300) (hc:c < 256) (hq16:((n:Int) == 16)=false) (hq63:((c:Int) == 63)=true) :
  Calls Tryz.prog 112 #[.pointer (some ⟨xb,0,none⟩),.int .u8 c] w (NextEnd xb ⟨0,n,le,ar⟩ c w):=by
 have c0:=hX.c0
 have c1:=hX.c1
 have c2:=hX.c2
 have c3:=hX.c3
 have f0:=hX.fz 0
 have f1:=hX.fz 1
 have f2:=hX.fz 2
 have f3:=hX.fz 3
 have HX:Hid (Scn w xb ⟨0,n,le,ar⟩):=hX
 have HN:Hid (nx ⟨0,n,le,ar⟩ c=some ⟨2,n,le,ar⟩):=show nx ⟨0,n,le,ar⟩ c=some ⟨2,n,le,ar⟩ by
  have e_n16:¬ n=16:=by have:=hq16;simp at this;omega
  have e_c63:c=63:=by have:=hq63;simp at this;omega
  simp [nx,e_n16,e_c63]
 clear hX
 go_enter Tryz.func112,Tryz.ntmps112
 go_wp2_with (go_at_call 82;refine (lettr _ _).mono ?_;rintro e w' ⟨rfl,rfl⟩)
 go_ret
 exact ne_yes HN.out (HX.out.set0 2) (mod1 xb 0 _ _)
set_option maxHeartbeats 1000000 in
set_option maxRecDepth 100000 in
theorem next0_2 (xb n le ar c:Nat) (w:World) (hX:Scn w xb ⟨0,n,le,ar⟩) (hn:n≤300) (hl:le≤300) (ha:ar≤300) (hc:c < 256) (hq16:((n:Int) == 16)=false) (hq63:((c:Int) == 63)=false) (hL:isL c=true) :
  Calls Tryz.prog 112 #[.pointer (some ⟨xb,0,none⟩),.int .u8 c] w (NextEnd xb ⟨0,n,le,ar⟩ c w):=by
 have c0:=hX.c0
 have c1:=hX.c1
 have c2:=hX.c2
 have c3:=hX.c3
 have f0:=hX.fz 0
 have f1:=hX.fz 1
 have f2:=hX.fz 2
 have f3:=hX.fz 3
 have HX:Hid (Scn w xb ⟨0,n,le,ar⟩):=hX
 have HN:Hid (nx ⟨0,n,le,ar⟩ c=some ⟨1,n,le,ar⟩):=show nx ⟨0,n,le,ar⟩ c=some ⟨1,n,le,ar⟩ by
  have e_n16:¬ n=16:=by have:=hq16;simp at this;omega
  have e_c63:¬ c=63:=by have:=hq63;simp at this;omega
  simp [nx,e_n16,e_c63,hL]
 clear hX
 go_enter Tryz.func112,Tryz.ntmps112
 go_wp2_with (go_at_call 82;refine (lettr _ _).mono ?_;rintro e w' ⟨rfl,rfl⟩)
 go_ret
 exact ne_yes HN.out (HX.out.set0 1) (mod1 xb 0 _ _)
set_option maxHeartbeats 1000000 in
set_option maxRecDepth 100000 in
theorem next0_3 (xb n le ar c:Nat) (w:World) (hX:Scn w xb ⟨0,n,le,ar⟩) (hn:n≤300) (hl:le≤300) (ha:ar≤300) (hc:c < 256) (hq16:((n:Int) == 16)=false) (hq63:((c:Int) == 63)=false) (hL:isL c=false) :
  Calls Tryz.prog 112 #[.pointer (some ⟨xb,0,none⟩),.int .u8 c] w (NextEnd xb ⟨0,n,le,ar⟩ c w):=by
 have c0:=hX.c0
 have c1:=hX.c1
 have c2:=hX.c2
 have c3:=hX.c3
 have f0:=hX.fz 0
 have f1:=hX.fz 1
 have f2:=hX.fz 2
 have f3:=hX.fz 3
 have HX:Hid (Scn w xb ⟨0,n,le,ar⟩):=hX
 have HN:Hid (nx ⟨0,n,le,ar⟩ c=none):=show nx ⟨0,n,le,ar⟩ c=none by
  have e_n16:¬ n=16:=by have:=hq16;simp at this;omega
  have e_c63:¬ c=63:=by have:=hq63;simp at this;omega
  simp [nx,e_n16,e_c63,hL]
 clear hX
 go_enter Tryz.func112,Tryz.ntmps112
 go_wp2_with (go_at_call 82;refine (lettr _ _).mono ?_;rintro e w' ⟨rfl,rfl⟩)
 go_ret
 exact ne_no HN.out
set_option maxHeartbeats 1000000 in
set_option maxRecDepth 100000 in
theorem next1_0 (xb n le ar c:Nat) (w:World) (hX:Scn w xb ⟨1,n,le,ar⟩) (hn:n≤300) (hl:le≤300) (ha:ar≤300) (hc:c < 256) (hq61:((c:Int) == 61)=true) :
  Calls Tryz.prog 112 #[.pointer (some ⟨xb,0,none⟩),.int .u8 c] w (NextEnd xb ⟨1,n,le,ar⟩ c w):=by
 have c0:=hX.c0
 have c1:=hX.c1
 have c2:=hX.c2
 have c3:=hX.c3
 have f0:=hX.fz 0
 have f1:=hX.fz 1
 have f2:=hX.fz 2
 have f3:=hX.fz 3
 have HX:Hid (Scn w xb ⟨1,n,le,ar⟩):=hX
 have HN:Hid (nx ⟨1,n,le,ar⟩ c=some ⟨2,n,le,ar⟩):=show nx ⟨1,n,le,ar⟩ c=some ⟨2,n,le,ar⟩ by
  have e_c61:c=61:=by have:=hq61;simp at this;omega
  simp [nx,e_c61]
 clear hX
 go_enter Tryz.func112,Tryz.ntmps112
 go_wp2_with (go_at_call 82;refine (lettr _ _).mono ?_;rintro e w' ⟨rfl,rfl⟩)
 go_ret
 exact ne_yes HN.out (HX.out.set0 2) (mod1 xb 0 _ _)
set_option maxHeartbeats 1000000 in
set_option maxRecDepth 100000 in
theorem next1_1 (xb n le ar c:Nat) (w:World) (hX:Scn w xb ⟨1,n,le,ar⟩) (hn:n≤300) (hl:le≤300) (ha:ar≤300) (hc:c < 256) (hq61:((c:Int) == 61)=false) :
  Calls Tryz.prog 112 #[.pointer (some ⟨xb,0,none⟩),.int .u8 c] w (NextEnd xb ⟨1,n,le,ar⟩ c w):=by
 have c0:=hX.c0
 have c1:=hX.c1
 have c2:=hX.c2
 have c3:=hX.c3
 have f0:=hX.fz 0
 have f1:=hX.fz 1
 have f2:=hX.fz 2
 have f3:=hX.fz 3
 have HX:Hid (Scn w xb ⟨1,n,le,ar⟩):=hX
 have HN:Hid (nx ⟨1,n,le,ar⟩ c=none):=show nx ⟨1,n,le,ar⟩ c=none by
  have e_c61:¬ c=61:=by have:=hq61;simp at this;omega
  simp [nx,e_c61]
 clear hX
 go_enter Tryz.func112,Tryz.ntmps112
 go_wp2_with (go_at_call 82;refine (lettr _ _).mono ?_;rintro e w' ⟨rfl,rfl⟩)
 go_ret
 exact ne_no HN.out
set_option maxHeartbeats 1000000 in
set_option maxRecDepth 100000 in
theorem next2_0 (xb n le ar c:Nat) (w:World) (hX:Scn w xb ⟨2,n,le,ar⟩) (hn:n≤300) (hl:le≤300) (ha:ar≤300) (hc:c < 256) (hL:isL c=true) :
  Calls Tryz.prog 112 #[.pointer (some ⟨xb,0,none⟩),.int .u8 c] w (NextEnd xb ⟨2,n,le,ar⟩ c w):=by
 have c0:=hX.c0
 have c1:=hX.c1
 have c2:=hX.c2
 have c3:=hX.c3
 have f0:=hX.fz 0
 have f1:=hX.fz 1
 have f2:=hX.fz 2
 have f3:=hX.fz 3
 have HX:Hid (Scn w xb ⟨2,n,le,ar⟩):=hX
 have HN:Hid (nx ⟨2,n,le,ar⟩ c=some ⟨3,n,1,ar⟩):=show nx ⟨2,n,le,ar⟩ c=some ⟨3,n,1,ar⟩ by
  simp [nx,hL]
 clear hX
 go_enter Tryz.func112,Tryz.ntmps112
 go_wp2_with (go_at_call 82;refine (lettr _ _).mono ?_;rintro e w' ⟨rfl,rfl⟩)
 go_ret
 exact ne_yes HN.out ((HX.out.set2 1).set0 3) (mod2 xb 2 0 _ _ _)
set_option maxHeartbeats 1000000 in
set_option maxRecDepth 100000 in
theorem next2_1 (xb n le ar c:Nat) (w:World) (hX:Scn w xb ⟨2,n,le,ar⟩) (hn:n≤300) (hl:le≤300) (ha:ar≤300) (hc:c < 256) (hL:isL c=false) :
  Calls Tryz.prog 112 #[.pointer (some ⟨xb,0,none⟩),.int .u8 c] w (NextEnd xb ⟨2,n,le,ar⟩ c w):=by
 have c0:=hX.c0
 have c1:=hX.c1
 have c2:=hX.c2
 have c3:=hX.c3
 have f0:=hX.fz 0
 have f1:=hX.fz 1
 have f2:=hX.fz 2
 have f3:=hX.fz 3
 have HX:Hid (Scn w xb ⟨2,n,le,ar⟩):=hX
 have HN:Hid (nx ⟨2,n,le,ar⟩ c=none):=show nx ⟨2,n,le,ar⟩ c=none by
  simp [nx,hL]
 clear hX
 go_enter Tryz.func112,Tryz.ntmps112
 go_wp2_with (go_at_call 82;refine (lettr _ _).mono ?_;rintro e w' ⟨rfl,rfl⟩)
 go_ret
 exact ne_no HN.out
set_option linter.unusedVariables false
open Go.RowKit Pu
set_option maxHeartbeats 1000000 in
set_option maxRecDepth 100000 in
theorem next3_0 (xb n le ar c:Nat) (w:World) (hX:Scn w xb ⟨3,n,le,ar⟩) (hn:n≤300) (hl:le≤300) (ha:ar≤300) (hc:c < 256) (hL:isL c=true) (hle:le < 6) :
  Calls Tryz.prog 112 #[.pointer (some ⟨xb,0,none⟩),.int .u8 c] w (NextEnd xb ⟨3,n,le,ar⟩ c w):=by
 have c0:=hX.c0
 have c1:=hX.c1
 have c2:=hX.c2
 have c3:=hX.c3
 have f0:=hX.fz 0
 have f1:=hX.fz 1
 have f2:=hX.fz 2
 have f3:=hX.fz 3
 have HX:Hid (Scn w xb ⟨3,n,le,ar⟩):=hX
 have HN:Hid (nx ⟨3,n,le,ar⟩ c=some ⟨3,n,le+1,ar⟩):=show nx ⟨3,n,le,ar⟩ c=some ⟨3,n,le+1,ar⟩ by
  simp [nx,hL,hle]
 clear hX
 go_enter Tryz.func112,Tryz.ntmps112
 go_wp2_with (go_at_call 82;refine (lettr _ _).mono ?_;rintro e w' ⟨rfl,rfl⟩)
 go_ret
 exact ne_yes HN.out ((HX.out.set2 (le+1)).set0 3) (mod2 xb 2 0 _ _ _)
set_option maxHeartbeats 1000000 in
set_option maxRecDepth 100000 in
theorem next3_1 (xb n le ar c:Nat) (w:World) (hX:Scn w xb ⟨3,n,le,ar⟩) (hn:n≤300) (hl:le≤300) (ha:ar≤300) (hc:c < 256) (hL:isL c=true) (hle:6≤le) (hq40:((c:Int) == 40)=false) :
  Calls Tryz.prog 112 #[.pointer (some ⟨xb,0,none⟩),.int .u8 c] w (NextEnd xb ⟨3,n,le,ar⟩ c w):=by
 have c0:=hX.c0
 have c1:=hX.c1
 have c2:=hX.c2
 have c3:=hX.c3
 have f0:=hX.fz 0
 have f1:=hX.fz 1
 have f2:=hX.fz 2
 have f3:=hX.fz 3
 have HX:Hid (Scn w xb ⟨3,n,le,ar⟩):=hX
 have HN:Hid (nx ⟨3,n,le,ar⟩ c=none):=show nx ⟨3,n,le,ar⟩ c=none by
  have e_c40:¬ c=40:=by have:=hq40;simp at this;omega
  simp [nx,hL,show ¬ le < 6 by omega,e_c40]
 clear hX
 go_enter Tryz.func112,Tryz.ntmps112
 go_wp2_with (go_at_call 82;refine (lettr _ _).mono ?_;rintro e w' ⟨rfl,rfl⟩)
 go_ret
 exact ne_no HN.out
set_option maxHeartbeats 1000000 in
set_option maxRecDepth 100000 in
theorem next3_2 (xb n le ar c:Nat) (w:World) (hX:Scn w xb ⟨3,n,le,ar⟩) (hn:n≤300) (hl:le≤300) (ha:ar≤300) (hc:c < 256) (hL:isL c=false) (hq40:((c:Int) == 40)=true) :
  Calls Tryz.prog 112 #[.pointer (some ⟨xb,0,none⟩),.int .u8 c] w (NextEnd xb ⟨3,n,le,ar⟩ c w):=by
 have c0:=hX.c0
 have c1:=hX.c1
 have c2:=hX.c2
 have c3:=hX.c3
 have f0:=hX.fz 0
 have f1:=hX.fz 1
 have f2:=hX.fz 2
 have f3:=hX.fz 3
 have HX:Hid (Scn w xb ⟨3,n,le,ar⟩):=hX
 have HN:Hid (nx ⟨3,n,le,ar⟩ c=some ⟨4,n,le,0⟩):=show nx ⟨3,n,le,ar⟩ c=some ⟨4,n,le,0⟩ by
  have e_c40:c=40:=by have:=hq40;simp at this;omega
  simp [nx,e_c40,isL]
 clear hX
 go_enter Tryz.func112,Tryz.ntmps112
 go_wp2_with (go_at_call 82;refine (lettr _ _).mono ?_;rintro e w' ⟨rfl,rfl⟩)
 go_ret
 exact ne_yes HN.out ((HX.out.set3 0).set0 4) (mod2 xb 3 0 _ _ _)
set_option maxHeartbeats 1000000 in
set_option maxRecDepth 100000 in
theorem next3_3 (xb n le ar c:Nat) (w:World) (hX:Scn w xb ⟨3,n,le,ar⟩) (hn:n≤300) (hl:le≤300) (ha:ar≤300) (hc:c < 256) (hL:isL c=false) (hq40:((c:Int) == 40)=false) :
  Calls Tryz.prog 112 #[.pointer (some ⟨xb,0,none⟩),.int .u8 c] w (NextEnd xb ⟨3,n,le,ar⟩ c w):=by
 have c0:=hX.c0
 have c1:=hX.c1
 have c2:=hX.c2
 have c3:=hX.c3
 have f0:=hX.fz 0
 have f1:=hX.fz 1
 have f2:=hX.fz 2
 have f3:=hX.fz 3
 have HX:Hid (Scn w xb ⟨3,n,le,ar⟩):=hX
 have HN:Hid (nx ⟨3,n,le,ar⟩ c=none):=show nx ⟨3,n,le,ar⟩ c=none by
  have e_c40:¬ c=40:=by have:=hq40;simp at this;omega
  simp [nx,hL,e_c40]
 clear hX
 go_enter Tryz.func112,Tryz.ntmps112
 go_wp2_with (go_at_call 82;refine (lettr _ _).mono ?_;rintro e w' ⟨rfl,rfl⟩)
 go_ret
 exact ne_no HN.out
set_option maxHeartbeats 1000000 in
set_option maxRecDepth 100000 in
theorem next4_0 (xb n le ar c:Nat) (w:World) (hX:Scn w xb ⟨4,n,le,ar⟩) (hn:n≤300) (hl:le≤300) (ha:ar≤300) (hc:c < 256) (hL:isL c=true) :
  Calls Tryz.prog 112 #[.pointer (some ⟨xb,0,none⟩),.int .u8 c] w (NextEnd xb ⟨4,n,le,ar⟩ c w):=by
 have c0:=hX.c0
 have c1:=hX.c1
 have c2:=hX.c2
 have c3:=hX.c3
 have f0:=hX.fz 0
 have f1:=hX.fz 1
 have f2:=hX.fz 2
 have f3:=hX.fz 3
 have HX:Hid (Scn w xb ⟨4,n,le,ar⟩):=hX
 have HN:Hid (nx ⟨4,n,le,ar⟩ c=some ⟨5,n,le,ar+1⟩):=show nx ⟨4,n,le,ar⟩ c=some ⟨5,n,le,ar+1⟩ by
  simp [nx,hL]
 clear hX
 go_enter Tryz.func112,Tryz.ntmps112
 go_wp2_with (go_at_call 82;refine (lettr _ _).mono ?_;rintro e w' ⟨rfl,rfl⟩)
 go_ret
 exact ne_yes HN.out ((HX.out.set3 (ar+1)).set0 5) (mod2 xb 3 0 _ _ _)
set_option maxHeartbeats 1000000 in
set_option maxRecDepth 100000 in
theorem next4_1 (xb n le ar c:Nat) (w:World) (hX:Scn w xb ⟨4,n,le,ar⟩) (hn:n≤300) (hl:le≤300) (ha:ar≤300) (hc:c < 256) (hL:isL c=false) (hq41:((c:Int) == 41)=true) :
  Calls Tryz.prog 112 #[.pointer (some ⟨xb,0,none⟩),.int .u8 c] w (NextEnd xb ⟨4,n,le,ar⟩ c w):=by
 have c0:=hX.c0
 have c1:=hX.c1
 have c2:=hX.c2
 have c3:=hX.c3
 have f0:=hX.fz 0
 have f1:=hX.fz 1
 have f2:=hX.fz 2
 have f3:=hX.fz 3
 have HX:Hid (Scn w xb ⟨4,n,le,ar⟩):=hX
 have HN:Hid (nx ⟨4,n,le,ar⟩ c=some ⟨7,n,le,ar⟩):=show nx ⟨4,n,le,ar⟩ c=some ⟨7,n,le,ar⟩ by
  have e_c41:c=41:=by have:=hq41;simp at this;omega
  simp [nx,e_c41,isL]
 clear hX
 go_enter Tryz.func112,Tryz.ntmps112
 go_wp2_with (go_at_call 82;refine (lettr _ _).mono ?_;rintro e w' ⟨rfl,rfl⟩)
 go_ret
 exact ne_yes HN.out (HX.out.set0 7) (mod1 xb 0 _ _)
set_option maxHeartbeats 1000000 in
set_option maxRecDepth 100000 in
theorem next4_2 (xb n le ar c:Nat) (w:World) (hX:Scn w xb ⟨4,n,le,ar⟩) (hn:n≤300) (hl:le≤300) (ha:ar≤300) (hc:c < 256) (hL:isL c=false) (hq41:((c:Int) == 41)=false) :
  Calls Tryz.prog 112 #[.pointer (some ⟨xb,0,none⟩),.int .u8 c] w (NextEnd xb ⟨4,n,le,ar⟩ c w):=by
 have c0:=hX.c0
 have c1:=hX.c1
 have c2:=hX.c2
 have c3:=hX.c3
 have f0:=hX.fz 0
 have f1:=hX.fz 1
 have f2:=hX.fz 2
 have f3:=hX.fz 3
 have HX:Hid (Scn w xb ⟨4,n,le,ar⟩):=hX
 have HN:Hid (nx ⟨4,n,le,ar⟩ c=none):=show nx ⟨4,n,le,ar⟩ c=none by
  have e_c41:¬ c=41:=by have:=hq41;simp at this;omega
  simp [nx,hL,e_c41]
 clear hX
 go_enter Tryz.func112,Tryz.ntmps112
 go_wp2_with (go_at_call 82;refine (lettr _ _).mono ?_;rintro e w' ⟨rfl,rfl⟩)
 go_ret
 exact ne_no HN.out
set_option linter.unusedVariables false
open Go.RowKit Pu
set_option maxHeartbeats 1000000 in
set_option maxRecDepth 100000 in
theorem next5_0 (xb n le ar c:Nat) (w:World) (hX:Scn w xb ⟨5,n,le,ar⟩) (hn:n≤300) (hl:le≤300) (ha:ar≤300) (hc:c < 256) (hq41:((c:Int) == 41)=true) :
  Calls Tryz.prog 112 #[.pointer (some ⟨xb,0,none⟩),.int .u8 c] w (NextEnd xb ⟨5,n,le,ar⟩ c w):=by
 have c0:=hX.c0
 have c1:=hX.c1
 have c2:=hX.c2
 have c3:=hX.c3
 have f0:=hX.fz 0
 have f1:=hX.fz 1
 have f2:=hX.fz 2
 have f3:=hX.fz 3
 have HX:Hid (Scn w xb ⟨5,n,le,ar⟩):=hX
 have HN:Hid (nx ⟨5,n,le,ar⟩ c=some ⟨7,n,le,ar⟩):=show nx ⟨5,n,le,ar⟩ c=some ⟨7,n,le,ar⟩ by
  have e_c41:c=41:=by have:=hq41;simp at this;omega
  simp [nx,e_c41]
 clear hX
 go_enter Tryz.func112,Tryz.ntmps112
 go_wp2_with (go_at_call 82;refine (lettr _ _).mono ?_;rintro e w' ⟨rfl,rfl⟩)
 go_ret
 exact ne_yes HN.out (HX.out.set0 7) (mod1 xb 0 _ _)
set_option maxHeartbeats 1000000 in
set_option maxRecDepth 100000 in
theorem next5_1 (xb n le ar c:Nat) (w:World) (hX:Scn w xb ⟨5,n,le,ar⟩) (hn:n≤300) (hl:le≤300) (ha:ar≤300) (hc:c < 256) (hq41:((c:Int) == 41)=false) (hq44:((c:Int) == 44)=true) (hae:ar < 4) :
  Calls Tryz.prog 112 #[.pointer (some ⟨xb,0,none⟩),.int .u8 c] w (NextEnd xb ⟨5,n,le,ar⟩ c w):=by
 have c0:=hX.c0
 have c1:=hX.c1
 have c2:=hX.c2
 have c3:=hX.c3
 have f0:=hX.fz 0
 have f1:=hX.fz 1
 have f2:=hX.fz 2
 have f3:=hX.fz 3
 have HX:Hid (Scn w xb ⟨5,n,le,ar⟩):=hX
 have HN:Hid (nx ⟨5,n,le,ar⟩ c=some ⟨6,n,le,ar⟩):=show nx ⟨5,n,le,ar⟩ c=some ⟨6,n,le,ar⟩ by
  have e_c41:¬ c=41:=by have:=hq41;simp at this;omega
  have e_c44:c=44:=by have:=hq44;simp at this;omega
  simp [nx,e_c44,hae]
 clear hX
 go_enter Tryz.func112,Tryz.ntmps112
 go_wp2_with (go_at_call 82;refine (lettr _ _).mono ?_;rintro e w' ⟨rfl,rfl⟩)
 go_ret
 exact ne_yes HN.out (HX.out.set0 6) (mod1 xb 0 _ _)
set_option maxHeartbeats 1000000 in
set_option maxRecDepth 100000 in
theorem next5_2 (xb n le ar c:Nat) (w:World) (hX:Scn w xb ⟨5,n,le,ar⟩) (hn:n≤300) (hl:le≤300) (ha:ar≤300) (hc:c < 256) (hq41:((c:Int) == 41)=false) (hq44:((c:Int) == 44)=true) (hae:4≤ar) :
  Calls Tryz.prog 112 #[.pointer (some ⟨xb,0,none⟩),.int .u8 c] w (NextEnd xb ⟨5,n,le,ar⟩ c w):=by
 have c0:=hX.c0
 have c1:=hX.c1
 have c2:=hX.c2
 have c3:=hX.c3
 have f0:=hX.fz 0
 have f1:=hX.fz 1
 have f2:=hX.fz 2
 have f3:=hX.fz 3
 have HX:Hid (Scn w xb ⟨5,n,le,ar⟩):=hX
 have HN:Hid (nx ⟨5,n,le,ar⟩ c=none):=show nx ⟨5,n,le,ar⟩ c=none by
  have e_c41:¬ c=41:=by have:=hq41;simp at this;omega
  have e_c44:c=44:=by have:=hq44;simp at this;omega
  simp [nx,e_c44,show ¬ ar < 4 by omega]
 clear hX
 go_enter Tryz.func112,Tryz.ntmps112
 go_wp2_with (go_at_call 82;refine (lettr _ _).mono ?_;rintro e w' ⟨rfl,rfl⟩)
 go_ret
 exact ne_no HN.out
set_option maxHeartbeats 1000000 in
set_option maxRecDepth 100000 in
theorem next5_3 (xb n le ar c:Nat) (w:World) (hX:Scn w xb ⟨5,n,le,ar⟩) (hn:n≤300) (hl:le≤300) (ha:ar≤300) (hc:c < 256) (hq41:((c:Int) == 41)=false) (hq44:((c:Int) == 44)=false) :
  Calls Tryz.prog 112 #[.pointer (some ⟨xb,0,none⟩),.int .u8 c] w (NextEnd xb ⟨5,n,le,ar⟩ c w):=by
 have c0:=hX.c0
 have c1:=hX.c1
 have c2:=hX.c2
 have c3:=hX.c3
 have f0:=hX.fz 0
 have f1:=hX.fz 1
 have f2:=hX.fz 2
 have f3:=hX.fz 3
 have HX:Hid (Scn w xb ⟨5,n,le,ar⟩):=hX
 have HN:Hid (nx ⟨5,n,le,ar⟩ c=none):=show nx ⟨5,n,le,ar⟩ c=none by
  have e_c41:¬ c=41:=by have:=hq41;simp at this;omega
  have e_c44:¬ c=44:=by have:=hq44;simp at this;omega
  simp [nx,e_c41,e_c44]
 clear hX
 go_enter Tryz.func112,Tryz.ntmps112
 go_wp2_with (go_at_call 82;refine (lettr _ _).mono ?_;rintro e w' ⟨rfl,rfl⟩)
 go_ret
 exact ne_no HN.out
set_option maxHeartbeats 1000000 in
set_option maxRecDepth 100000 in
theorem next6_0 (xb n le ar c:Nat) (w:World) (hX:Scn w xb ⟨6,n,le,ar⟩) (hn:n≤300) (hl:le≤300) (ha:ar≤300) (hc:c < 256) (hL:isL c=true) :
  Calls Tryz.prog 112 #[.pointer (some ⟨xb,0,none⟩),.int .u8 c] w (NextEnd xb ⟨6,n,le,ar⟩ c w):=by
 have c0:=hX.c0
 have c1:=hX.c1
 have c2:=hX.c2
 have c3:=hX.c3
 have f0:=hX.fz 0
 have f1:=hX.fz 1
 have f2:=hX.fz 2
 have f3:=hX.fz 3
 have HX:Hid (Scn w xb ⟨6,n,le,ar⟩):=hX
 have HN:Hid (nx ⟨6,n,le,ar⟩ c=some ⟨5,n,le,ar+1⟩):=show nx ⟨6,n,le,ar⟩ c=some ⟨5,n,le,ar+1⟩ by
  simp [nx,hL]
 clear hX
 go_enter Tryz.func112,Tryz.ntmps112
 go_wp2_with (go_at_call 82;refine (lettr _ _).mono ?_;rintro e w' ⟨rfl,rfl⟩)
 go_ret
 exact ne_yes HN.out ((HX.out.set3 (ar+1)).set0 5) (mod2 xb 3 0 _ _ _)
set_option maxHeartbeats 1000000 in
set_option maxRecDepth 100000 in
theorem next6_1 (xb n le ar c:Nat) (w:World) (hX:Scn w xb ⟨6,n,le,ar⟩) (hn:n≤300) (hl:le≤300) (ha:ar≤300) (hc:c < 256) (hL:isL c=false) :
  Calls Tryz.prog 112 #[.pointer (some ⟨xb,0,none⟩),.int .u8 c] w (NextEnd xb ⟨6,n,le,ar⟩ c w):=by
 have c0:=hX.c0
 have c1:=hX.c1
 have c2:=hX.c2
 have c3:=hX.c3
 have f0:=hX.fz 0
 have f1:=hX.fz 1
 have f2:=hX.fz 2
 have f3:=hX.fz 3
 have HX:Hid (Scn w xb ⟨6,n,le,ar⟩):=hX
 have HN:Hid (nx ⟨6,n,le,ar⟩ c=none):=show nx ⟨6,n,le,ar⟩ c=none by
  simp [nx,hL]
 clear hX
 go_enter Tryz.func112,Tryz.ntmps112
 go_wp2_with (go_at_call 82;refine (lettr _ _).mono ?_;rintro e w' ⟨rfl,rfl⟩)
 go_ret
 exact ne_no HN.out
set_option maxHeartbeats 1000000 in
set_option maxRecDepth 100000 in
theorem next7_0 (xb n le ar c:Nat) (w:World) (hX:Scn w xb ⟨7,n,le,ar⟩) (hn:n≤300) (hl:le≤300) (ha:ar≤300) (hc:c < 256) (hq59:((c:Int) == 59)=true) :
  Calls Tryz.prog 112 #[.pointer (some ⟨xb,0,none⟩),.int .u8 c] w (NextEnd xb ⟨7,n,le,ar⟩ c w):=by
 have c0:=hX.c0
 have c1:=hX.c1
 have c2:=hX.c2
 have c3:=hX.c3
 have f0:=hX.fz 0
 have f1:=hX.fz 1
 have f2:=hX.fz 2
 have f3:=hX.fz 3
 have HX:Hid (Scn w xb ⟨7,n,le,ar⟩):=hX
 have HN:Hid (nx ⟨7,n,le,ar⟩ c=some ⟨0,n+1,le,ar⟩):=show nx ⟨7,n,le,ar⟩ c=some ⟨0,n+1,le,ar⟩ by
  have e_c59:c=59:=by have:=hq59;simp at this;omega
  simp [nx,e_c59]
 clear hX
 go_enter Tryz.func112,Tryz.ntmps112
 go_wp2_with (go_at_call 82;refine (lettr _ _).mono ?_;rintro e w' ⟨rfl,rfl⟩)
 go_ret
 exact ne_yes HN.out ((HX.out.set1 (n+1)).set0 0) (mod2 xb 1 0 _ _ _)
set_option maxHeartbeats 1000000 in
set_option maxRecDepth 100000 in
theorem next7_1 (xb n le ar c:Nat) (w:World) (hX:Scn w xb ⟨7,n,le,ar⟩) (hn:n≤300) (hl:le≤300) (ha:ar≤300) (hc:c < 256) (hq59:((c:Int) == 59)=false) :
  Calls Tryz.prog 112 #[.pointer (some ⟨xb,0,none⟩),.int .u8 c] w (NextEnd xb ⟨7,n,le,ar⟩ c w):=by
 have c0:=hX.c0
 have c1:=hX.c1
 have c2:=hX.c2
 have c3:=hX.c3
 have f0:=hX.fz 0
 have f1:=hX.fz 1
 have f2:=hX.fz 2
 have f3:=hX.fz 3
 have HX:Hid (Scn w xb ⟨7,n,le,ar⟩):=hX
 have HN:Hid (nx ⟨7,n,le,ar⟩ c=none):=show nx ⟨7,n,le,ar⟩ c=none by
  have e_c59:¬ c=59:=by have:=hq59;simp at this;omega
  simp [nx,e_c59]
 clear hX
 go_enter Tryz.func112,Tryz.ntmps112
 go_wp2_with (go_at_call 82;refine (lettr _ _).mono ?_;rintro e w' ⟨rfl,rfl⟩)
 go_ret
 exact ne_no HN.out
end Go.Proofs.YtmnfndpbblpjiaaGreatDoor

/- The scanner's step at every state, and place. -/
namespace Go.Proofs.YtmnfndpbblpjiaaGreatDoor
open Go.RowKit Pu
theorem Pu.nx_bound {x y:Sc} {c:Nat} (h:nx x c=some y):y.st≤7∧y.n≤x.n+1∧y.le≤x.le+1∧y.ar≤x.ar+1:=by
 unfold nx at h
 repeat' (split at h)
 all_goals first | (simp at h;done) | (injection h with h;subst h;simp)
theorem Pu.stA_bound {s:ByteArray}:∀ {k:Nat} {x:Sc},stA s k=some x→x.st≤7∧x.n≤k∧x.le≤k∧x.ar≤k:=by
 intro k
 induction k with
 | zero=>intro x h;simp [stA] at h;subst h;simp
 | succ k ih =>
  intro y h
  obtain ⟨x,hx,hn⟩:=stA_back h
  have:=ih hx
  have:=nx_bound hn
  omega
theorem next_any (xb:Nat) (x:Sc) (c:Nat) (w:World) (hX:Scn w xb x) (hst:x.st≤7) (hn:x.n≤300) (hl:x.le≤300) (ha:x.ar≤300) (hc:c < 256) :
  Calls Tryz.prog 112 #[.pointer (some ⟨xb,0,none⟩),.int .u8 c] w (NextEnd xb x c w):=by
 obtain ⟨st,n,le,ar⟩:=x
 have hLf:∀ {b:Prop},(isL c=true→b)→(isL c=false→b)→b:=fun p q=>by
  cases h:isL c
  ·exact q h
  ·exact p h
 simp only at hst hn hl ha
 match st,hst with
 | 0,_ =>
  by_cases h16:n=16
  ·exact next0_0 xb n le ar c w hX hn hl ha hc (beq_t (m:=16) h16)
  ·by_cases h63:c=63
   ·exact next0_1 xb n le ar c w hX hn hl ha hc (beq_f (m:=16) h16) (beq_t (m:=63) h63)
   ·exact hLf (fun h=>next0_2 xb n le ar c w hX hn hl ha hc (beq_f (m:=16) h16) (beq_f (m:=63) h63) h) (fun h=>next0_3 xb n le ar c w hX hn hl ha hc (beq_f (m:=16) h16) (beq_f (m:=63) h63) h)
 | 1,_ =>
  by_cases h61:c=61
  ·exact next1_0 xb n le ar c w hX hn hl ha hc (beq_t (m:=61) h61)
  ·exact next1_1 xb n le ar c w hX hn hl ha hc (beq_f (m:=61) h61)
 | 2,_=>exact hLf (fun h=>next2_0 xb n le ar c w hX hn hl ha hc h) (fun h=>next2_1 xb n le ar c w hX hn hl ha hc h)
 | 3,_ =>
  refine hLf (fun h=>?_) (fun h=>?_)
  ·by_cases hle:le < 6
   ·exact next3_0 xb n le ar c w hX hn hl ha hc h hle
   ·exact next3_1 xb n le ar c w hX hn hl ha hc h (by omega) (beq_f (m:=40) (by have:=(isL_iff c).1 h;omega))
  ·by_cases h40:c=40
   ·exact next3_2 xb n le ar c w hX hn hl ha hc h (beq_t (m:=40) h40)
   ·exact next3_3 xb n le ar c w hX hn hl ha hc h (beq_f (m:=40) h40)
 | 4,_ =>
  refine hLf (fun h=>next4_0 xb n le ar c w hX hn hl ha hc h) (fun h=>?_)
  by_cases h41:c=41
  ·exact next4_1 xb n le ar c w hX hn hl ha hc h (beq_t (m:=41) h41)
  ·exact next4_2 xb n le ar c w hX hn hl ha hc h (beq_f (m:=41) h41)
 | 5,_ =>
  by_cases h41:c=41
  ·exact next5_0 xb n le ar c w hX hn hl ha hc (beq_t (m:=41) h41)
  ·by_cases h44:c=44
   ·by_cases hae:ar < 4
    ·exact next5_1 xb n le ar c w hX hn hl ha hc (beq_f (m:=41) h41) (beq_t (m:=44) h44) hae
    ·exact next5_2 xb n le ar c w hX hn hl ha hc (beq_f (m:=41) h41) (beq_t (m:=44) h44) (by omega)
   ·exact next5_3 xb n le ar c w hX hn hl ha hc (beq_f (m:=41) h41) (beq_f (m:=44) h44)
 | 6,_=>exact hLf (fun h=>next6_0 xb n le ar c w hX hn hl ha hc h) (fun h=>next6_1 xb n le ar c w hX hn hl ha hc h)
 | 7,_ =>
  by_cases h59:c=59
  ·exact next7_0 xb n le ar c w hX hn hl ha hc (beq_t (m:=59) h59)
  ·exact next7_1 xb n le ar c w hX hn hl ha hc (beq_f (m:=59) h59)
set_option maxHeartbeats 800000 in
set_option maxRecDepth 100000 in
theorem place_any (s:ByteArray) (w:World) (hs:s.size≤300) :
  Calls Tryz.prog 66 #[.string s] w fun e w'=>Mod (fun _=>False) w w'∧((e=.returned (.int .i64 (-1))∧Whole s)∨∃ k:Nat,e=.returned (.int .i64 k)∧Stuck s k):=by
 go_enter Tryz.func66,Tryz.ntmps66
 go_wp2
 have hX0:Scn (w.alloc (.cells #[.int .i64 0,.int .i64 0,.int .i64 0,.int .i64 0] 167)) w.heap.size ⟨0,0,0,0⟩:=by unfold Scn;show (w.heap.push _)[w.heap.size]?=_;simp
 go_loopw [4] (fun i wr=>∃ (k:Nat) (x:Sc),k≤s.size∧i=.int .i64 k∧Scn wr w.heap.size x∧stA s k=some x∧Mod (fun _=>False) w wr) (fun i _=>s.size - (intOf i).toNat)
 case atStart=>exact ⟨0,_,by omega,rfl,hX0,rfl,(Mod.refl _ w).alloc _⟩
 case round =>
  clear hX0
  obtain ⟨k,x,hk,rfl,hX,hst,hm⟩:=hrel
  have hsz:=hm.size
  have hbd:=stA_bound hst
  have HST:Hid (stA s k=some x):=hst
  clear hst
  by_cases hlt:k < s.size
  ·have hg:=g_in hlt
   have HG:Hid (g s k=s[k].toNat):=hg
   have hgl:=g_lt s k
   clear hg
   go_wp2_with fail
   have hN:=next_any w.heap.size x (g s k) wr hX hbd.1 (by omega) (by omega) (by omega) hgl
   rw [HG.out] at hN
   refine hN.mono ?_
   rintro e w2 (⟨hn,rfl,rfl⟩ | ⟨y,hn,rfl,hY,hm2⟩)
   ·rw [← HG.out] at hn
    have HN:Hid (nx x (g s k)=none):=hn
    clear hn hN
    go_wp2
    go_ret
    exact ⟨hm,.inr ⟨k,rfl,x,HST.out,.inl ⟨hlt,HN.out⟩⟩⟩
   ·rw [← HG.out] at hn
    have HN:Hid (nx x (g s k)=some y):=hn
    have hm3:Mod (fun _=>False) w w2:=⟨hm2.os.trans hm.os,hm2.tape.trans hm.tape,hm2.output.trans hm.output,Nat.le_trans hm.size hm2.size,fun i hi _=>(hm2.block i (by omega) (by omega)).trans (hm.block i hi (fun f=>f))⟩
    clear hn hN hm hm2 hX
    go_wp2
    go_roundw
    case rel=>exact ⟨k+1,y,by omega,by go_num,hY,stA_succ HST.out HN.out,hm3⟩
    case measure=>simp [intOf];omega
  ·have hks:k=s.size:=by omega
   subst hks
   obtain ⟨st,n,le,ar⟩:=x
   have c0:=hX.c0
   by_cases h0:st=0
   ·subst h0
    go_wp2
    go_ret
    exact ⟨hm,.inl ⟨rfl,_,HST.out,rfl⟩⟩
   ·have hq:((st:Int) != 0)=true:=by rw [bne_iff_ne];omega
    go_wp2
    go_ret
    exact ⟨hm,.inr ⟨s.size,rfl,_,HST.out,.inr ⟨rfl,h0⟩⟩⟩
theorem Pu.whole_head {s:ByteArray} (h:Whole s):g s 0≠61:=by
 obtain ⟨x,hx,_⟩:=h
 by_cases h0:s.size=0
 ·rw [g_out (by omega)];decide
 ·obtain ⟨d,hd⟩:∃ d,s.size=1+d:=⟨s.size - 1,by omega⟩
  rw [hd] at hx
  obtain ⟨y,hy⟩:=stA_le hx
  intro he
  simp [stA,nx,he,isL] at hy
set_option maxHeartbeats 1000000 in
set_option maxRecDepth 100000 in
theorem rcheck_any (s:ByteArray) (w:World) (hs:s.size≤300):Calls Tryz.prog 37 #[.string s] w fun e w'=>(∃ a b:Nat,Ans s a b∧e=.returned (.tuple #[.int .i64 a,.int .i64 b]))∧Mod (fun _=>False) w w':=by
 go_enter Tryz.func37,Tryz.ntmps37
 go_wp2_with fail
 refine (place_any s w hs).mono ?_
 rintro e w1 ⟨hm1,⟨rfl,hw⟩ | ⟨k,rfl,hst⟩⟩
 ·go_wp2_with fail
  refine (stmts_any s w1 hs (whole_head hw)).mono ?_
  rintro e w2 ⟨hm2,v,rfl,hL⟩
  have hll:=(ga_len s s.size).1
  have HAns:Hid (∀ (a b:Nat) (p:List (St × Nat)) (hk:b < (gaA s s.size).l.length),Ok p→sts p=(gaA s s.size).l.take b→err p (gaA s s.size).l[b]≠0→a=err p (gaA s s.size).l[b]→Ans s a b):=fun a b p hk h1 h2 h3 h4=>.inr (.inl ⟨hw,p,hk,h1,h2,h3,h4⟩)
  have HOk:Hid (∀ p,Ok p→sts p=(gaA s s.size).l→Ans s 0 0):=fun p h1 h2=>.inr (.inr ⟨hw,rfl,rfl,p,h1,h2⟩)
  generalize (gaA s s.size).l=l at *
  have hm:=hm1.trans hm2
  clear hm1 hm2
  obtain ⟨ao,cap,rfl,-⟩:=owns_form hL
  go_wp2_with fail
  go_loopw [6] (fun i wr=>∃ (k:Nat) (p:List (St × Nat)),k≤l.length∧i=.int .i64 k∧p.length=k∧Ok p∧sts p=l.take p.length∧RLst wr w1.heap.size (.slice ao l.length cap) l∧Mod (fun _=>False) w wr) (fun i _=>l.length - (intOf i).toNat)
  case atStart=>exact ⟨0,[],by omega,rfl,rfl,Ok.nil,rfl,hL,hm⟩
  case round =>
   clear hL hm
   obtain ⟨k,p,hk,rfl,rfl,hok,hp,hL,hm⟩:=hrel
   have HP:Hid (sts p=l.take p.length):=hp
   clear hp
   by_cases hlt:p.length < l.length
   ·by_cases he:err p l[p.length]=0
    ·have HE:Hid (err p l[p.length]=0):=he
     clear he
     go_wp2_with fail
     have hF:=fault_any _ l w1.heap.size wr p (by omega) hL hok HP.out hlt
     rw [HE.out] at hF
     refine hF.mono ?_
     clear hF
     rintro e w3 ⟨rfl,hm3⟩
     have hL3:=hL.mod hm3
     have hm4:=hm.trans hm3
     clear hL hm hm3
     go_wp2_with fail
     go_roundw
     case rel=>exact ⟨p.length+1,p++[(l[p.length],wgh p l[p.length])],by omega,by go_num,by simp,hok.snoc HE.out,by
      rw [List.length_append];simp only [sts,List.map_append];rw [show (p.map Prod.fst)=l.take p.length from HP.out];exact (take_snoc' l p.length hlt).symm,hL3,hm4⟩
     case measure=>simp [intOf];omega
    ·have hF:=fault_any _ l w1.heap.size wr p (by omega) hL hok HP.out hlt
     have HF:Hid (Calls Tryz.prog 67 #[.slice ao l.length cap,.int .i64 p.length] wr fun e w'=>e=.returned (.int .i64 (err p l[p.length]))∧Mod (fun _=>False) wr w'):=hF
     have HA:Hid (Ans s (err p l[p.length]) p.length):=HAns.out _ _ p hlt hok HP.out he rfl
     clear hF HAns HOk
     generalize err p l[p.length]=er at *
     have hb:((er:Int) != 0)=true:=by rw [bne_iff_ne];omega
     go_wp2_with fail
     refine HF.out.mono ?_
     rintro e w3 ⟨rfl,hm3⟩
     go_wp2_with fail
     go_ret2
     exact ⟨⟨er,p.length,HA.out,rfl⟩,hm.trans hm3⟩
   ·have HA:Hid (Ans s 0 0):=HOk.out p hok (by rw [HP.out,List.take_of_length_le (by omega)])
    go_wp2_with fail
    go_ret2
    exact ⟨⟨0,0,HA.out,rfl⟩,hm⟩
 ·go_wp2_with fail
  go_ret2
  exact ⟨⟨2,k,.inl ⟨hst,rfl⟩,rfl⟩,hm1⟩
def ptR (x:St):Nat:=if (x.name != 0 && x.word == [112,116])=true then 2 else 0
def ndR (l:List St):Nat:=(l.map ptR).sum
theorem ndR_snoc (l:List St) (x:St):ndR (l++[x])=ndR l+ptR x:=by simp [ndR]
theorem ndR_le (l:List St):ndR l≤2*l.length:=by
 induction l with
 | nil=>simp [ndR]
 | cons x l ih =>
  simp only [ndR,List.map_cons,List.sum_cons,List.length_cons] at *
  have:ptR x≤2:=by unfold ptR;split <;> omega
  omega
theorem Ans.zero {s:ByteArray} {b:Nat} (h:Ans s 0 b):Whole s∧b=0∧∃ p,Ok p∧sts p=(gaA s s.size).l:=by
 rcases h with ⟨_,h⟩ | ⟨_,p,hk,_,_,he,h⟩ | ⟨hw,_,hb,p,hok,hp⟩
 ·omega
 ·exact absurd h.symm he
 ·exact ⟨hw,hb,p,hok,hp⟩
set_option maxHeartbeats 800000 in
set_option maxRecDepth 100000 in
theorem rneed_any (v:Value) (l:List St) (base:Nat) (w:World) (hl:l.length≤1000) (hL:RLst w base v l):Calls Tryz.prog 52 #[v] w fun e w'=>e=.returned (.int .i64 (ndR l))∧w=w':=by
 obtain ⟨ao,cap,rfl,-⟩:=owns_form hL
 go_enter Tryz.func52,Tryz.ntmps52
 go_wp2_with fail
 go_loop [3,4] (fun a i=>∃ k:Nat,k≤l.length∧i=.int .i64 k∧a=.int .i64 (ndR (l.take k))) (fun _ i=>l.length - (intOf i).toNat)
 case atStart=>exact ⟨0,by omega,rfl,rfl⟩
 case round =>
  obtain ⟨k,hk,rfl,rfl⟩:=hrel
  have b1:=ndR_le (l.take k)
  have b2:(l.take k).length≤k:=List.length_take_le _ _
  by_cases hlt:k < l.length
  ·have HT:Hid (l.take (k+1)=l.take k++[l[k]]):=take_snoc' _ _ hlt
   obtain ⟨gb,rfl,c0,c1,-⟩:=hL.cell hlt
   by_cases hn:l[k].name=0
   ·have HP:Hid (ptR l[k]=0):=show ptR l[k]=0 by simp [ptR,hn]
    have hb:((l[k].name:Int) != 0)=false:=by rw [hn];rfl
    clear hn
    go_wp2_with fail
    go_round
    case rel=>exact ⟨k+1,by omega,by go_num,by rw [HT.out,ndR_snoc,HP.out];rfl⟩
    case measure=>simp [intOf];omega
   ·have hb:((l[k].name:Int) != 0)=true:=by rw [bne_iff_ne];omega
    cases hpt:(l[k].word == [112,116]) with
    | true =>
     have HP:Hid (ptR l[k]=2):=show ptR l[k]=2 by simp [ptR,hpt,hn]
     go_wp2_with fail
     go_round
     case rel=>exact ⟨k+1,by omega,by go_num,by rw [HT.out,ndR_snoc,HP.out];go_num⟩
     case measure=>simp [intOf];omega
    | false =>
     have HP:Hid (ptR l[k]=0):=show ptR l[k]=0 by simp [ptR,hpt]
     go_wp2_with fail
     go_round
     case rel=>exact ⟨k+1,by omega,by go_num,by rw [HT.out,ndR_snoc,HP.out];rfl⟩
     case measure=>simp [intOf];omega
  ·have HT:Hid (l.take k=l):=List.take_of_length_le (by omega)
   go_wp2_with fail
   go_ret
   exact ⟨by rw [HT.out];rfl,rfl⟩
end Go.Proofs.YtmnfndpbblpjiaaGreatDoor

/- The document's Setter, Reads, proper, right. -/
import Derived.Deep.RegionHeld3
import Derived.Test.YtmnfndpbblpjiaaGreatDoorZr02
namespace Go.Proofs.YtmnfndpbblpjiaaGreatDoor
open Go.RowKit Pu
section
variable {w w':World} {b:Nat} {t:Stp}
end
def ivs (l:List Nat):List Value:=l.map fun (n:Nat)=>Value.int .i64 (n:Int)
theorem Tryz.info3:(Tryz.prog.info? 3).map (fun i=>(i.zero,i.size,i.bytes))=some (some (.int .i64 0),1,8):=by kernel_rfl
end Go.Proofs.YtmnfndpbblpjiaaGreatDoor

/- The document's look at a step: proper, right. -/
namespace Go.Proofs.YtmnfndpbblpjiaaGreatDoor
open Go.RowKit Pu
theorem ivs_cell {w:World} {base n:Nat} {ao:Option Addr} {cap:Nat} {l:List Nat} (h:w.ownsRow base 3 1 (.slice ao n cap) n (ivs l)) (hn:n=l.length) {k:Nat} (hk:k < l.length) :
  ∃ gb,ao=some ⟨gb,0,none⟩∧w.cell? ⟨gb,k,none⟩=some (.int .i64 (l[k]:Int)):=by
 subst hn
 obtain ⟨gb,rfl,hc⟩:=owns_cell h (j:=k) (by omega)
 exact ⟨gb,rfl,by rw [hc];simp [ivs,hk]⟩
abbrev nm2 (nb:Bool) (v:Value):Value:=.agg #[.bool nb,v]
def Nm (w:World) (nb:Bool) (v:Value) (l:List Nat):Prop:=Canon nb l∧w.ownsRow 0 3 1 v l.length (ivs l)
theorem Nm.mod {w w':World} {nb:Bool} {v:Value} {l:List Nat} (h:Nm w nb v l) (hm:Mod (fun _=>False) w w'):Nm w' nb v l:=⟨h.1,owns_mod h.2 hm (fun _ _ f=>f)⟩
def lessB (nb:Bool) (l:List Nat):Bool:=!nb && decide (0 < l.length)
theorem less_canon {nb:Bool} {l:List Nat} (h:Canon nb l):Canon (lessB nb l) l∧num (lessB nb l) l=-num nb l:=by
 obtain ⟨h1,h2,h3⟩:=h
 cases l with
 | nil=>have:=h3 rfl;subst this;exact ⟨⟨h1,h2,fun _=>rfl⟩,by simp [lessB,num,val]⟩
 | cons d l=>exact ⟨⟨h1,h2,fun e=>by cases e⟩,by simp [lessB];exact num_neg nb _⟩
set_option maxHeartbeats 800000 in
set_option maxRecDepth 100000 in
theorem less_any (nb:Bool) (v:Value) (l:List Nat) (w:World) (hN:Nm w nb v l) (_hl:l.length≤2000000000):Calls Tryz.prog 135 #[nm2 nb v] w fun e w'=>e=.returned (nm2 (lessB nb l) v)∧Mod (fun _=>False) w w':=by
 have hcan:=hN.1
 obtain ⟨ao,cap,rfl,-⟩:=owns_form hN.2
 clear hN
 cases nb with
 | true =>
  go_enter Tryz.func135,Tryz.ntmps135
  go_wp2_with fail
  exact bodyPost_ret (v:=nm2 false (.slice ao l.length cap)) (by simp [results,Tryz.results135,go_sem]) rfl ⟨rfl,((Mod.refl _ w).alloc _).alloc _⟩
 | false =>
  go_enter Tryz.func135,Tryz.ntmps135
  go_wp2_with fail
  exact bodyPost_ret (v:=nm2 (lessB false l) (.slice ao l.length cap)) (by simp [results,Tryz.results135,go_sem,lessB]) rfl ⟨rfl,((Mod.refl _ w).alloc _).alloc _⟩
def sgI (x:Int):Int:=if x < 0 then -1 else if x=0 then 0 else 1
set_option maxHeartbeats 800000 in
set_option maxRecDepth 100000 in
theorem sign_any (nb:Bool) (v:Value) (l:List Nat) (w:World) (hN:Nm w nb v l) (hl:l.length≤2000000000):Calls Tryz.prog 77 #[nm2 nb v] w fun e w'=>e=.returned (.int .i64 (sgI (num nb l)))∧Mod (fun _=>False) w w':=by
 have hcan:=hN.1
 obtain ⟨ao,cap,rfl,-⟩:=owns_form hN.2
 have hsg:=hcan.sign
 clear hN
 have hm0:Mod (fun _=>False) w (w.alloc (.cells #[.bool nb,.slice ao l.length cap] 116)):=(Mod.refl _ w).alloc _
 by_cases h0:l=[]
 ·have HR:Hid (sgI (num nb l)=0):=show sgI (num nb l)=0 by unfold sgI;rw [hsg.1.2 h0];rfl
  have hb:((l.length:Int) == 0)=true:=by subst h0;rfl
  clear h0 hsg
  go_enter Tryz.func77,Tryz.ntmps77
  go_wp2_with fail
  go_ret
  exact ⟨by rw [HR.out];rfl,hm0⟩
 ·have hb:((l.length:Int) == 0)=false:=by rw [beq_eq_false_iff_ne];have:=List.length_pos_iff.2 h0;omega
  cases nb with
  | true =>
   have HR:Hid (sgI (num true l)=-1):=show sgI (num true l)=-1 by unfold sgI;rw [if_pos (hsg.2.2 rfl)]
   clear hsg
   go_enter Tryz.func77,Tryz.ntmps77
   go_wp2_with fail
   go_ret
   exact ⟨by rw [HR.out];rfl,hm0⟩
  | false =>
   have HR:Hid (sgI (num false l)=1):=show sgI (num false l)=1 by
    unfold sgI;rw [if_neg (fun h=>by have:=hsg.2.1 h;cases this),if_neg (fun h=>h0 (hsg.1.1 h))]
   clear hsg
   go_enter Tryz.func77,Tryz.ntmps77
   go_wp2_with fail
   go_ret
   exact ⟨by rw [HR.out];rfl,hm0⟩
theorem val_cmp {a b:List Nat} (k:Nat) (ha:Dig a) (hl:a.length=b.length) (hk:k < a.length) (hlt:a[k] < b[k]'(by omega)) (he:a.drop (k+1)=b.drop (k+1)):val a < val b:=by
 have e1:a=a.take k++a[k] :: a.drop (k+1):=by rw [← List.drop_eq_getElem_cons hk,List.take_append_drop]
 have e2:b=b.take k++b[k]'(by omega) :: b.drop (k+1):=by rw [← List.drop_eq_getElem_cons (by omega),List.take_append_drop]
 rw [e1,e2,he]
 exact val_less (fun d hd=>ha d (List.mem_of_mem_take hd)) (by simp;omega) hlt
set_option maxHeartbeats 800000 in
set_option maxRecDepth 100000 in
theorem order_any (u v:Value) (a b:List Nat) (w:World) (hU:w.ownsRow 0 3 1 u a.length (ivs a)) (hV:w.ownsRow 0 3 1 v b.length (ivs b)) (ha:Dig a) (hb:Dig b) (hta:Top a) (htb:Top b) (la:a.length≤2000000000) (_lb:b.length≤2000000000) :
  Calls Tryz.prog 170 #[u,v] w fun e w'=>e=.returned (.int .i64 (sgI ((val a:Int) - val b)))∧Mod (fun _=>False) w w':=by
 obtain ⟨ao,acap,rfl,-⟩:=owns_form hU
 obtain ⟨bo,bcap,rfl,-⟩:=owns_form hV
 by_cases hlen:a.length=b.length
 ·have HLen:Hid (a.length=b.length):=hlen
  have hb1:((a.length:Int) != (b.length:Int))=false:=by rw [hlen];simp
  clear hlen
  go_enter Tryz.func170,Tryz.ntmps170
  go_wp2_with fail
  go_loopw [5] (fun i wr=>∃ j:Nat,j≤a.length∧i=.int .i64 ((j:Int) - 1)∧(∃ n,wr=w.drewN n)∧Hid (a.drop j=b.drop j)) (fun i _=>(intOf i+1).toNat)
  case atStart=>exact ⟨a.length,by omega,rfl,⟨0,rfl⟩,show a.drop a.length=b.drop a.length by rw [List.drop_of_length_le (by omega),List.drop_of_length_le (by have:=HLen.out;omega)]⟩
  case round =>
   obtain ⟨j,hj,rfl,⟨n,rfl⟩,HD⟩:=hrel
   cases j with
   | zero =>
    have HR:Hid (sgI ((val a:Int) - val b)=0):=show sgI ((val a:Int) - val b)=0 by
     have:a=b:=by simpa using HD.out
     rw [this];unfold sgI;simp
    go_wp2_with fail
    go_ret
    exact ⟨by rw [HR.out];rfl,Mod.same n _ w⟩
   | succ j =>
    have hja:j < a.length:=by omega
    have hjb:j < b.length:=by have:=HLen.out;omega
    have e1:((j+1:Nat):Int) - 1=(j:Int):=by omega
    rw [e1]
    clear e1
    obtain ⟨ga,rfl,ca⟩:=ivs_cell hU rfl hja
    obtain ⟨gb,rfl,cb⟩:=ivs_cell hV rfl hjb
    have hda:=ha _ (List.getElem_mem hja)
    have hdb:=hb _ (List.getElem_mem hjb)
    have i1:(0:Int)≤(j:Int):=by omega
    have i2:(j:Int) < (a.length:Int):=by omega
    have i3:(j:Int) < (b.length:Int):=by omega
    rcases Nat.lt_trichotomy a[j] b[j] with hc | hc | hc
    ·have HR:Hid (sgI ((val a:Int) - val b)=-1):=show sgI ((val a:Int) - val b)=-1 by
      have:=val_cmp j ha HLen.out hja hc HD.out
      unfold sgI;rw [if_pos (by omega)]
     go_wp2_with fail
     go_quiet (fail)
     go_wp2_with fail
     go_ret
     exact ⟨by rw [HR.out];rfl,by rw [World.drewN_drewN];exact Mod.same _ _ w⟩
    ·have HE:Hid (a.drop j=b.drop j):=show a.drop j=b.drop j by rw [List.drop_eq_getElem_cons hja,List.drop_eq_getElem_cons hjb,HD.out,hc]
     have h1:¬ ((a[j]:Int) < (b[j]:Int)):=by omega
     have h2:¬ ((b[j]:Int) < (a[j]:Int)):=by omega
     clear hc
     go_wp2_with fail
     go_quiet (fail)
     go_wp2_with fail
     go_quiet (fail)
     go_wp2_with fail
     go_roundw
     case rel=>exact ⟨j,by omega,by go_num,⟨_,rfl⟩,HE⟩
     case measure=>simp [intOf]
    ·have HR:Hid (sgI ((val a:Int) - val b)=1):=show sgI ((val a:Int) - val b)=1 by
      have:=val_cmp j hb HLen.out.symm hjb hc HD.out.symm
      unfold sgI;rw [if_neg (by omega),if_neg (by omega)]
     have h1:¬ ((a[j]:Int) < (b[j]:Int)):=by omega
     go_wp2_with fail
     go_quiet (fail)
     go_wp2_with fail
     go_quiet (fail)
     go_wp2_with fail
     go_ret
     exact ⟨by rw [HR.out];rfl,by rw [World.drewN_drewN,World.drewN_drewN];exact Mod.same _ _ w⟩
 ·have hb1:((a.length:Int) != (b.length:Int))=true:=by rw [bne_iff_ne];omega
  by_cases hlt:a.length < b.length
  ·have HR:Hid (sgI ((val a:Int) - val b)=-1):=show sgI ((val a:Int) - val b)=-1 by
    have:=val_shorter ha htb hlt
    unfold sgI;rw [if_pos (by omega)]
   go_enter Tryz.func170,Tryz.ntmps170
   go_wp2_with fail
   go_ret
   exact ⟨by rw [HR.out];rfl,Mod.refl _ _⟩
  ·have HR:Hid (sgI ((val a:Int) - val b)=1):=show sgI ((val a:Int) - val b)=1 by
    have:=val_shorter hb hta (by omega)
    unfold sgI;rw [if_neg (by omega),if_neg (by omega)]
   go_enter Tryz.func170,Tryz.ntmps170
   go_wp2_with fail
   go_ret
   exact ⟨by rw [HR.out];rfl,Mod.refl _ _⟩
theorem owns_prefix {w:World} {base:Nat} {e:TypeId} {ao:Option Addr} {n cap:Nat} {l:List Nat} (h:w.ownsRow base e 1 (.slice ao n cap) n (ivs l)) (hn:n=l.length) (m:Nat) (hm:m≤n) (hs:0 < n):w.ownsRow base e 1 (.slice ao m cap) m (ivs (l.take m)):=by
 obtain ⟨hl,⟨he,h0⟩ | ⟨g,c,cur,he,hb,hg,h1,h2,h3,h4⟩⟩:=h
 ·omega
 ·injection he with e1 e2 e3
  subst e1 e3
  refine ⟨by simp [ivs];omega,.inr ⟨g,cap,cur,rfl,hb,hg,by omega,h2,h3,?_⟩⟩
  have:=congrArg (List.take m) h4
  rw [List.take_take] at this
  rw [show min m (n*1)=m*1 by omega] at this
  rw [this]
  simp [ivs]
theorem owns_cap {w:World} {base:Nat} {e:TypeId} {size:Nat} {ao:Option Addr} {n cap:Nat} {xs:List Value} (h:w.ownsRow base e size (.slice ao n cap) n xs):n≤cap∧cap≤maxLen:=by
 obtain ⟨hl,⟨he,h0⟩ | ⟨g,c,cur,he,hb,hg,h1,h2,h3,h4⟩⟩:=h
 ·injection he with e1 e2 e3
  subst e3;unfold maxLen;omega
 ·injection he with e1 e2 e3
  subst e3;exact ⟨h1,h2⟩
theorem owns_zero {w:World} {base:Nat} {e:TypeId} {ao:Option Addr} {n cap:Nat} {l:List Nat} (h:w.ownsRow base e 1 (.slice ao n cap) n (ivs l)):w.ownsRow base e 1 (.slice ao 0 cap) 0 []:=by
 obtain ⟨hl,⟨he,h0⟩ | ⟨g,c,cur,he,hb,hg,h1,h2,h3,h4⟩⟩:=h
 ·injection he with e1 e2 e3
  subst e1 e3
  exact World.ownsRow_nil _ _ _ _
 ·injection he with e1 e2 e3
  subst e1 e3
  exact ⟨rfl,.inr ⟨g,cap,cur,rfl,hb,hg,by omega,h2,h3,by simp⟩⟩
def Nmb (w:World) (b:Nat) (nb:Bool) (v:Value):Prop:=w.heap[b]?=some (.cells #[.bool nb,v] 116 (0,0))
section
variable {w:World} {b:Nat} {nb:Bool} {v:Value}
theorem Nmb.c0 (h:Nmb w b nb v):w.cell? ⟨b,0,none⟩=some (.bool nb):=by unfold Nmb at h;simp [World.cell?,h]
theorem Nmb.c1 (h:Nmb w b nb v):w.cell? ⟨b,1,none⟩=some v:=by unfold Nmb at h;simp [World.cell?,h]
theorem Nmb.fz (h:Nmb w b nb v) (i:Nat):w.frozen? ⟨b,i,none⟩=false:=by unfold Nmb at h;simp [World.frozen?,h]
theorem Nmb.lt (h:Nmb w b nb v):b < w.heap.size:=lt_of_block h
theorem Nmb.keep {p:Nat→Prop} {w':World} (h:Nmb w b nb v) (hm:Mod p w w') (hp:¬ p b):Nmb w' b nb v:=hm.keep h hp
theorem Nmb.set (h:Nmb w b nb v) (x:Bool) (u:Value):Nmb ((w.setCell ⟨b,0,none⟩ (.bool x)).setCell ⟨b,1,none⟩ u) b x u:=by unfold Nmb at *;simp [World.setCell,Array.getElem?_modify,h]
theorem nmb_new (w:World) (x:Bool) (u:Value):Nmb (w.alloc (.cells #[.bool x,u] 116)) w.heap.size x u:=by unfold Nmb;show (w.heap.push _)[w.heap.size]?=_;simp
theorem mod_set2 (b:Nat) (w:World) (x:Bool) (u:Value):Mod (fun i=>i=b) w ((w.setCell ⟨b,0,none⟩ (.bool x)).setCell ⟨b,1,none⟩ u):=((Mod.refl (fun i=>i=b) w).setCell _ _ (fun _=>rfl)).setCell _ _ (fun _=>rfl)
end
def NumEnd (w:World) (x:Int) (n:Nat) (e:Ending) (w':World):Prop:=Mod (fun _=>False) w w'∧∃ nb v' l,e=.returned (nm2 nb v')∧Nm w' nb v' l∧num nb l=x∧l.length≤n
theorem numEnd {w w':World} {x:Int} {n:Nat} {nb:Bool} {v:Value} {l:List Nat} (hm:Mod (fun _=>False) w w') (hN:Nm w' nb v l) (hx:num nb l=x) (hl:l.length≤n):NumEnd w x n (.returned (nm2 nb v)) w':=⟨hm,nb,v,l,rfl,hN,hx,hl⟩
theorem made_num {neg:Bool} {ds:List Nat} {m:Nat} (h:val (ds.take m)=val ds):num neg (ds.take m)=num neg ds:=by unfold num;rw [h]
set_option maxHeartbeats 800000 in
set_option maxRecDepth 100000 in
theorem made_any (neg:Bool) (v:Value) (ds:List Nat) (w:World) (hV:w.ownsRow 0 3 1 v ds.length (ivs ds)) (hd:Dig ds) (hl:ds.length≤2100000000) :
  Calls Tryz.prog 171 #[.bool neg,v] w (NumEnd w (num neg ds) ds.length):=by
 obtain ⟨ao,cap,rfl,-⟩:=owns_form hV
 have hcap:=(owns_cap hV).1
 have hm0:Mod (fun _=>False) w (w.alloc (.cells #[.bool false,.slice none 0 0] 116)):=(Mod.refl _ w).alloc _
 have hV0:=owns_mod hV hm0 (fun _ _ f=>f)
 go_enter Tryz.func171,Tryz.ntmps171
 go_wp2_with fail
 have hR0:=nmb_new w false (.slice none 0 0)
 generalize hW:w.alloc (.cells #[.bool false,.slice none 0 0] 116)=W at *
 have HW:Hid (w.alloc (.cells #[.bool false,.slice none 0 0] 116)=W):=hW
 have HV0:Hid (w.ownsRow 0 3 1 (.slice ao ds.length cap) ds.length (ivs ds)):=hV
 clear hW hV
 go_loop [1] (fun d=>∃ m:Nat,m≤ds.length∧d=.slice ao m cap∧Hid (val (ds.take m)=val ds)) (fun d=>sliceLen d)
 case atStart=>exact ⟨ds.length,by omega,rfl,show val (ds.take ds.length)=val ds by rw [List.take_length]⟩
 case round =>
  obtain ⟨m,hm,rfl,HV⟩:=hrel
  rcases Nat.eq_zero_or_pos m with hz | hz
  ·have HZ:Hid (m=0):=hz
   have hmz:(m:Int)≤0:=by omega
   have hgd:decide ((0:Int) < (m:Int))=false:=by simp;omega
   clear hz
   have r0:=hR0.c0
   have r1:=hR0.c1
   have f0:=hR0.fz 0
   have f1:=hR0.fz 1
   have hR1:=hR0.set false (.slice ao m cap)
   have hmS:=mod_set2 w.heap.size W false (.slice ao m cap)
   have q0:=hR1.c0
   have q1:=hR1.c1
   have hmF:Mod (fun _=>False) w ((W.setCell ⟨w.heap.size,0,none⟩ (.bool false)).setCell ⟨w.heap.size,1,none⟩ (.slice ao m cap)):=((hm0.mono (q:=fun i=>i=w.heap.size) (fun _ _ f=>f.elim)).trans hmS).mono (fun i hi h=>by omega)
   cases neg
   all_goals
    go_wp2_with fail
    refine bodyPost_ret (v:=nm2 false (.slice ao m cap)) (by simp [results,Tryz.results171,go_sem,q0,q1]) rfl (numEnd (l:=[]) hmF ⟨⟨fun _ h=>by simp at h,fun _ h=>by simp at h,fun _=>rfl⟩,?_⟩ ?_ (Nat.zero_le _))
    ·have h0:=HZ.out
     subst h0
     exact owns_mod (owns_zero HV0.out) hmF (fun _ _ f=>f)
    ·have h0:=HZ.out
     have hv:=HV.out
     rw [h0] at hv
     simp [val] at hv
     simp [num,val,← hv]
  ·obtain ⟨m,rfl⟩:∃ j,m=j+1:=⟨m - 1,by omega⟩
   clear hz
   have hml:m < ds.length:=by omega
   obtain ⟨gb,rfl,cm⟩:=ivs_cell hV0 rfl hml
   have hdm:=hd _ (List.getElem_mem hml)
   have HT:Hid (ds.take (m+1)=ds.take m++[ds[m]]):=show ds.take (m+1)=ds.take m++[ds[m]] by rw [List.take_succ_eq_append_getElem hml]
   by_cases h0:ds[m]=0
   ·have HV2:Hid (val (ds.take m)=val ds):=show val (ds.take m)=val ds by rw [← HV.out,HT.out,h0,val_zero_top]
    have hb:((ds[m]:Int) == 0)=true:=beq_t (m:=0) h0
    clear h0
    go_wp2_with fail
    go_round
    case rel=>exact ⟨m,by omega,rfl,HV2⟩
    case measure=>simp [sliceLen]
   ·have hb:((ds[m]:Int) == 0)=false:=beq_f (m:=0) h0
    have r0:=hR0.c0
    have r1:=hR0.c1
    have f0:=hR0.fz 0
    have f1:=hR0.fz 1
    have hR1:=hR0.set neg (.slice (some ⟨gb,0,none⟩) (m+1) cap)
    have hmS:=mod_set2 w.heap.size W neg (.slice (some ⟨gb,0,none⟩) (m+1) cap)
    have q0:=hR1.c0
    have q1:=hR1.c1
    have hmF:Mod (fun _=>False) w ((W.setCell ⟨w.heap.size,0,none⟩ (.bool neg)).setCell ⟨w.heap.size,1,none⟩ (.slice (some ⟨gb,0,none⟩) (m+1) cap)):=((hm0.mono (q:=fun i=>i=w.heap.size) (fun _ _ f=>f.elim)).trans hmS).mono (fun i hi h=>by omega)
    have HNE:Hid (NumEnd w (num neg ds) ds.length (.returned (nm2 neg (.slice (some ⟨gb,0,none⟩) (m+1) cap))) ((W.setCell ⟨w.heap.size,0,none⟩ (.bool neg)).setCell ⟨w.heap.size,1,none⟩ (.slice (some ⟨gb,0,none⟩) (m+1) cap))):=by
     refine numEnd (l:=ds.take (m+1)) hmF ⟨⟨fun d hdm=>hd d (List.mem_of_mem_take hdm),?_,fun e=>?_⟩,?_⟩ (made_num HV.out) (by simp;omega)
     ·intro d hdl
      rw [HT.out] at hdl
      rw [List.getLast?_concat] at hdl
      injection hdl with hdl
      rw [← hdl];exact h0
     ·have he:=congrArg List.length e
      simp only [List.length_take,List.length_nil] at he
      omega
     ·have:=owns_mod (owns_prefix HV0.out rfl (m+1) (by omega) (by omega)) hmF (fun _ _ f=>f)
      have hlen:(ds.take (m+1)).length=m+1:=by simp;omega
      rw [hlen];exact this
    cases neg
    all_goals
     go_wp2_with fail
     exact bodyPost_ret (by simp [results,Tryz.results171,go_sem,q0,q1]) rfl HNE.out
def zvs (l:List Int):List Value:=l.map fun (n:Int)=>Value.int .i64 n
theorem zvs_cell {w:World} {base n:Nat} {ao:Option Addr} {cap:Nat} {l:List Int} (h:w.ownsRow base 3 1 (.slice ao n cap) n (zvs l)) (hn:n=l.length) {k:Nat} (hk:k < l.length) :
  ∃ gb,ao=some ⟨gb,0,none⟩∧w.cell? ⟨gb,k,none⟩=some (.int .i64 l[k]):=by
 subst hn
 obtain ⟨gb,rfl,hc⟩:=owns_cell h (j:=k) (by omega)
 exact ⟨gb,rfl,by rw [hc];simp [zvs,hk]⟩
theorem ivs_snoc (l:List Nat) (d:Nat):ivs l++[.int .i64 (d:Int)]=ivs (l++[d]):=by simp [ivs]
def CarEnd (w:World) (d:List Int) (e:Ending) (w':World):Prop:=Mod (fun _=>False) w w'∧∃ v' os,e=.returned v'∧w'.ownsRow w.heap.size 3 1 v' os.length (ivs os)∧Dig os∧(val os:Int)=valI d∧os.length≤d.length+4
set_option maxHeartbeats 1600000 in
set_option maxRecDepth 100000 in
theorem carried_any (v:Value) (d:List Int) (w:World) (hV:w.ownsRow 0 3 1 v d.length (zvs d)) (hd:∀ x∈d,-200000000000000000≤x∧x≤200000000000000000) (h0:0≤valI d) (hl:d.length≤2000000000) :
  Calls Tryz.prog 172 #[v] w (CarEnd w d):=by
 obtain ⟨i0,hi,hz0,hz1,hz2⟩:=info_parts Tryz.info3
 obtain ⟨ao,cap,rfl,-⟩:=owns_form hV
 have HD:Hid (∀ x∈d,-200000000000000000≤x∧x≤200000000000000000):=hd
 clear hd
 go_enter Tryz.func172,Tryz.ntmps172
 go_wp2_with fail
 go_loopw [3,4,5] (fun o c i wr=>∃ (k:Nat) (os:List Nat) (over:Int),i=.int .i64 k∧c=.int .i64 over∧Hid (CInv d k os over)∧k≤d.length+4∧wr.ownsRow w.heap.size 3 1 o k (ivs os)∧Mod (fun _=>False) w wr) (fun _ c i _=>300000000000000*(d.length - (intOf i).toNat)+(intOf c).toNat)
 case atStart=>exact ⟨0,[],0,rfl,rfl,CInv.start d,by omega,World.ownsRow_nil _ _ _ _,Mod.refl _ _⟩
 case round =>
  obtain ⟨k,os,over,rfl,rfl,HC,hk,hown,hm⟩:=hrel
  have hb4:=HC.out.2.2.2.1
  have hb5:=HC.out.2.2.2.2
  have hsz:=hm.size
  obtain ⟨oo,ocap,rfl,-⟩:=owns_form hown
  by_cases hlt:k < d.length
  ·obtain ⟨gb,rfl,ck⟩:=zvs_cell (owns_mod hV hm (fun _ _ f=>f)) rfl hlt
   have hdk:=HD.out _ (List.getElem_mem hlt)
   have hd1:=hdk.1
   have hd2:=hdk.2
   clear hdk
   obtain ⟨n0,hn0⟩:∃ n0,n0=over+d[k]:=⟨_,rfl⟩
   have HN0:Hid (n0=over+d[k]?.getD 0):=show n0=over+d[k]?.getD 0 by rw [hn0];simp [hlt]
   have hnl:-200100000000000000≤n0:=by omega
   have hnu:n0≤200100000000000000:=by omega
   have HN1:Hid (over+d[k]=n0):=hn0.symm
   have hgo:over+d[k]=n0:=hn0.symm
   clear hn0
   go_wp2_with fail
   go_loop [4,6] (fun c m=>∃ t:Nat,c=.int .i64 (-(t:Int))∧m=.int .i64 (n0+10000*(t:Int))∧(t=0∨n0+10000*(t:Int) < 10000)) (fun _ m=>(-(intOf m)).toNat)
   case atStart=>exact ⟨0,by simp,by simp,.inl rfl⟩
   case round =>
    obtain ⟨t,rfl,rfl,ht⟩:=hrel
    have htb:n0+10000*(t:Int) < 200100000000010000:=by omega
    have htc:(t:Int)≤20020000000000:=by omega
    clear ht
    by_cases hneg:n0+10000*(t:Int) < 0
    ·go_wp2_with fail
     go_round
     case rel=>exact ⟨t+1,by go_num,by go_num,.inr (by omega)⟩
     case measure=>simp [intOf];omega
    ·have HST:Hid (CInv d (k+1) (os++[(n0 % 10000).toNat]) (n0 / 10000)):=HC.out.step HD.out n0 HN0.out
     have hq2:-(t:Int)+(n0+10000*(t:Int)) / 10000=n0 / 10000:=by omega
     have HQ1:Hid (n0 % 10000=(((n0 % 10000).toNat:Nat):Int)):=show n0 % 10000=(((n0 % 10000).toNat:Nat):Int) by rw [Int.toNat_of_nonneg (Int.emod_nonneg _ (by omega))]
     have HQ2:Hid (-(t:Int)+(n0+10000*(t:Int)) / 10000=n0 / 10000):=hq2
     have hn1:0≤n0+10000*(t:Int):=by omega
     clear hq2 hneg
     go_wp2_with (at_builtin;refine wpList_append_own _ rfl _ _ 39 rfl w.heap.size 3 i0 (.int .i64 0) 1 8 Tryz.underlying39 hi hz0 hz1 hz2 rfl (by decide) _ _ _ rfl (hown.alloc _) ⟨wr.heap.size,0,none⟩ 1 1 [.int .i64 (n0 % 10000)] rfl rfl ?p1 ?p2 ?p3 ?p4 ?p5 ?_)
     case p2=>first | rfl | (intro u hu;simp at hu;subst hu;rfl)
     case p3=>unfold maxLen;omega
     case p4=>omega
     case p5=>first | omega | (simp;omega)
     intro v4 w4 hown4 hgrow _
     have hm4:Mod (fun _=>False) w w4:=(hm.alloc _).grown hgrow (fun q hq hlt=>by have:=(hown.lt q hq).1;omega)
     have hown5:w4.ownsRow w.heap.size 3 1 v4 (k+1) (ivs (os++[(n0 % 10000).toNat])):=by rw [← ivs_snoc,← HQ1.out];exact hown4
     obtain ⟨oo4,ocap4,rfl,-⟩:=owns_form hown4
     clear hown4 hgrow hown hm
     go_wp2_with fail
     go_roundw
     case rel=>exact ⟨k+1,os++[(n0 % 10000).toNat],n0 / 10000,by go_num,by rw [← HQ2.out],HST,by omega,hown5,hm4⟩
     case measure=>rw [HQ2.out];simp [intOf];omega
  ·by_cases hov:0 < over
   ·obtain ⟨n0,hn0⟩:∃ n0,n0=over:=⟨_,rfl⟩
    have HN0:Hid (n0=over+d[k]?.getD 0):=show n0=over+d[k]?.getD 0 by rw [hn0];simp [show d.length≤k by omega]
    have hkb:=HC.out.bound (by omega) hov HD.out
    subst hn0
    go_wp2_with fail
    go_loop [4,6] (fun c m=>∃ t:Nat,c=.int .i64 (-(t:Int))∧m=.int .i64 (n0+10000*(t:Int))∧(t=0∨n0+10000*(t:Int) < 10000)) (fun _ m=>(-(intOf m)).toNat)
    case atStart=>exact ⟨0,by simp,by simp,.inl rfl⟩
    case round =>
     obtain ⟨t,rfl,rfl,ht⟩:=hrel
     have htb:n0+10000*(t:Int) < 200100000000010000:=by omega
     have htc:(t:Int)≤20020000000000:=by omega
     clear ht
     by_cases hneg:n0+10000*(t:Int) < 0
     ·go_wp2_with fail
      go_round
      case rel=>exact ⟨t+1,by go_num,by go_num,.inr (by omega)⟩
      case measure=>simp [intOf];omega
     ·have HST:Hid (CInv d (k+1) (os++[(n0 % 10000).toNat]) (n0 / 10000)):=HC.out.step HD.out n0 HN0.out
      have hq2:-(t:Int)+(n0+10000*(t:Int)) / 10000=n0 / 10000:=by omega
      have HQ1:Hid (n0 % 10000=(((n0 % 10000).toNat:Nat):Int)):=show n0 % 10000=(((n0 % 10000).toNat:Nat):Int) by rw [Int.toNat_of_nonneg (Int.emod_nonneg _ (by omega))]
      have HQ2:Hid (-(t:Int)+(n0+10000*(t:Int)) / 10000=n0 / 10000):=hq2
      have hn1:0≤n0+10000*(t:Int):=by omega
      clear hq2 hneg
      go_wp2_with (at_builtin;refine wpList_append_own _ rfl _ _ 39 rfl w.heap.size 3 i0 (.int .i64 0) 1 8 Tryz.underlying39 hi hz0 hz1 hz2 rfl (by decide) _ _ _ rfl (hown.alloc _) ⟨wr.heap.size,0,none⟩ 1 1 [.int .i64 (n0 % 10000)] rfl rfl ?q1 ?q2 ?q3 ?q4 ?q5 ?_)
      case q2=>first | rfl | (intro u hu;simp at hu;subst hu;rfl)
      case q3=>unfold maxLen;omega
      case q4=>omega
      case q5=>first | omega | (simp;omega)
      intro v4 w4 hown4 hgrow _
      have hm4:Mod (fun _=>False) w w4:=(hm.alloc _).grown hgrow (fun q hq hlt=>by have:=(hown.lt q hq).1;omega)
      have hown5:w4.ownsRow w.heap.size 3 1 v4 (k+1) (ivs (os++[(n0 % 10000).toNat])):=by rw [← ivs_snoc,← HQ1.out];exact hown4
      obtain ⟨oo4,ocap4,rfl,-⟩:=owns_form hown4
      clear hown4 hgrow hown hm
      go_wp2_with fail
      go_roundw
      case rel=>exact ⟨k+1,os++[(n0 % 10000).toNat],n0 / 10000,by go_num,by rw [← HQ2.out],HST,by omega,hown5,hm4⟩
      case measure=>rw [HQ2.out];simp [intOf];omega
   ·have HF:Hid ((val os:Int)=valI d):=HC.out.finish (by omega) (by omega) h0
    have HD1:Hid (Dig os):=HC.out.2.1
    have HL1:Hid (os.length=k):=HC.out.1
    go_wp2_with fail
    go_ret
    exact ⟨hm,_,os,rfl,by rw [HL1.out];exact hown,HD1.out,HF.out,by rw [HL1.out];exact hk⟩
end Go.Proofs.YtmnfndpbblpjiaaGreatDoor

/- The document's numbers: Plus, Minus. -/
namespace Go.Proofs.YtmnfndpbblpjiaaGreatDoor
open Go.RowKit Pu
def Pu.plusL (way:Int):List Nat→List Nat→List Int
 | [],[]=>[]
 | a :: l,[]=>(a:Int) :: plusL way l []
 | [],b :: m=>(way*(b:Int)) :: plusL way [] m
 | a :: l,b :: m=>((a:Int)+way*(b:Int)) :: plusL way l m
theorem Pu.plusL_val (way:Int):∀ a b:List Nat,valI (plusL way a b)=(val a:Int)+way*(val b:Int)
 | [],[]=>by simp [plusL,valI,val]
 | a :: l,[]=>by
  have:=plusL_val way l []
  simp only [plusL,valI,val,this];simp
 | [],b :: m=>by
  have:=plusL_val way [] m
  simp only [plusL,valI,val,this]
  simp only [Int.natCast_add,Int.natCast_mul,Int.mul_add]
  have e:way*(10000*(val m:Int))=10000*(way*(val m:Int)):=by rw [← Int.mul_assoc,Int.mul_comm way 10000,Int.mul_assoc]
  simp [e]
 | a :: l,b :: m=>by
  have:=plusL_val way l m
  simp only [plusL,valI,val,this]
  simp only [Int.natCast_add,Int.natCast_mul,Int.mul_add]
  have e:way*(10000*(val m:Int))=10000*(way*(val m:Int)):=by rw [← Int.mul_assoc,Int.mul_comm way 10000,Int.mul_assoc]
  simp only [show ((10000:Nat):Int)=10000 from rfl,e]
  omega
theorem Pu.plusL_len (way:Int):∀ a b:List Nat,(plusL way a b).length=max a.length b.length
 | [],[]=>by simp [plusL]
 | a :: l,[]=>by have:=plusL_len way l [];simp only [plusL,List.length_cons,List.length_nil] at *;omega
 | [],b :: m=>by have:=plusL_len way [] m;simp only [plusL,List.length_cons,List.length_nil] at *;omega
 | a :: l,b :: m=>by have:=plusL_len way l m;simp only [plusL,List.length_cons] at *;omega
theorem Pu.plusL_at (way:Int):∀ (a b:List Nat) (k:Nat),k < max a.length b.length→(plusL way a b)[k]?=some ((a[k]?.getD 0:Nat)+way*((b[k]?.getD 0:Nat):Int))
 | [],[],k,h=>by simp at h
 | a :: l,[],0,_=>by simp [plusL]
 | a :: l,[],k+1,h=>by have:=plusL_at way l [] k (by simp only [List.length_cons,List.length_nil] at *;omega);simpa [plusL] using this
 | [],b :: m,0,_=>by simp [plusL]
 | [],b :: m,k+1,h=>by have:=plusL_at way [] m k (by simp only [List.length_cons,List.length_nil] at *;omega);simpa [plusL] using this
 | a :: l,b :: m,0,_=>by simp [plusL]
 | a :: l,b :: m,k+1,h=>by have:=plusL_at way l m k (by simp only [List.length_cons] at *;omega);simpa [plusL] using this
theorem Pu.dig_getD {l:List Nat} (h:Dig l) (k:Nat):l[k]?.getD 0 < 10000:=by
 by_cases hk:k < l.length
 ·simp [hk];exact h _ (List.getElem_mem hk)
 ·simp [show l.length≤k by omega]
theorem Mod.cell {a b:World} {k i:Nat} {v:Value} (hm:Mod (fun _=>False) a b) (h:a.cell? ⟨k,i,none⟩=some v):b.cell? ⟨k,i,none⟩=some v:=by
 have hk:k < a.heap.size:=by
  cases ho:a.heap[k]? with
  | none=>simp [World.cell?,ho] at h
  | some o=>exact lt_of_block ho
 exact (World.cell?_of_block (a:=⟨k,i,none⟩) (hm.block k hk (fun f=>f))).trans h
theorem zvs_snoc (l:List Int) (d:Int):zvs l++[.int .i64 d]=zvs (l++[d]):=by simp [zvs]
theorem row_next {w:World} {B k:Nat} {v:Value} {pl:List Int} {x dk:Int} (h:w.ownsRow B 3 1 v (k+1) (zvs (pl.take k)++[.int .i64 x])) (hp:pl[k]?=some dk) (hx:x=dk):w.ownsRow B 3 1 v (k+1) (zvs (pl.take (k+1))):=by
 rw [List.take_add_one,hp,← hx]
 simpa [zvs] using h
theorem set2_cell (b:Nat) (w:World) (x u:Value) (k:Nat) (i:Nat) (h:k≠b):((w.setCell ⟨b,0,none⟩ x).setCell ⟨b,1,none⟩ u).cell? ⟨k,i,none⟩=w.cell? ⟨k,i,none⟩:=by
 apply World.cell?_of_block
 rw [Below.heap_setCell _ _ _ _ h,Below.heap_setCell _ _ _ _ h]
theorem owns_set2 {w:World} {b:Nat} {nb:Bool} {v u:Value} {n:Nat} {xs:List Value} (h:w.ownsRow 0 3 1 u n xs) (hR:Nmb w b nb v) (x:Bool) (y:Value):((w.setCell ⟨b,0,none⟩ (.bool x)).setCell ⟨b,1,none⟩ y).ownsRow 0 3 1 u n xs:=by
 refine owns_mod' h (mod_set2 b w x y) (fun q hq he=>?_)
 subst he
 obtain ⟨_,⟨he,_⟩ | ⟨g,c,cur,he,_,hg,_⟩⟩:=h
 ·rw [he] at hq;simp [Value.ownBlock] at hq
 ·rw [he] at hq;simp [Value.ownBlock] at hq
  subst hq
  unfold Nmb at hR;rw [hg] at hR;simp at hR
set_option maxHeartbeats 3200000 in
set_option maxRecDepth 100000 in
theorem plus_same (nx:Bool) (u v:Value) (a b:List Nat) (w:World) (hU:Nm w nx u a) (hV:Nm w nx v b) (la:a.length≤1000000000) (lb:b.length≤1000000000) :
  Calls Tryz.prog 118 #[nm2 nx u,nm2 nx v] w (NumEnd w (num nx a+num nx b) (max a.length b.length+4)):=by
 obtain ⟨i0,hi,hz0,hz1,hz2⟩:=info_parts Tryz.info3
 have ha:=hU.1.1
 have hb:=hV.1.1
 have hta:=hU.1.2.1
 have htb:=hV.1.2.1
 obtain ⟨ao,acap,rfl,-⟩:=owns_form hU.2
 obtain ⟨bo,bcap,rfl,-⟩:=owns_form hV.2
 have HTOT:Hid (∀ os,(val os:Int)=valI (plusL (1) a b)→num nx os=num nx a+num nx b):=fun os h=>by
  rw [plusL_val] at h
  unfold num
  cases nx <;> simp <;> omega
 have H0:Hid (0≤valI (plusL (1) a b)):=show 0≤valI (plusL (1) a b) by rw [plusL_val];omega
 have HPL:Hid (∀ k,k < max a.length b.length→(plusL (1) a b)[k]?=some ((a[k]?.getD 0:Nat)+(1)*((b[k]?.getD 0:Nat):Int))):=plusL_at (1) a b
 have HLN:Hid ((plusL (1) a b).length=max a.length b.length):=plusL_len (1) a b
 have HBD:Hid (∀ x∈plusL (1) a b,-200000000000000000≤x∧x≤200000000000000000):=fun x hx=>by
  obtain ⟨j,hj,rfl⟩:=List.getElem_of_mem hx
  have h1:=plusL_at (1) a b j (by rw [plusL_len] at hj;exact hj)
  rw [List.getElem?_eq_getElem hj] at h1
  injection h1 with h1
  have h2:=dig_getD ha j
  have h3:=dig_getD hb j
  omega
 have hU2:=hU.2
 have hV2:=hV.2
 clear hU hV
 have hX:=nmb_new w nx (.slice ao a.length acap)
 have hY:=nmb_new (w.alloc (.cells #[.bool nx,.slice ao a.length acap] 116)) nx (.slice bo b.length bcap)
 have hR:=nmb_new ((w.alloc (.cells #[.bool nx,.slice ao a.length acap] 116)).alloc (.cells #[.bool nx,.slice bo b.length bcap] 116)) false (.slice none 0 0)
 have m1:Mod (fun _=>False) w (w.alloc (.cells #[.bool nx,.slice ao a.length acap] 116)):=(Mod.refl _ w).alloc _
 have m2:Mod (fun _=>False) (w.alloc (.cells #[.bool nx,.slice ao a.length acap] 116)) ((w.alloc (.cells #[.bool nx,.slice ao a.length acap] 116)).alloc (.cells #[.bool nx,.slice bo b.length bcap] 116)):=(Mod.refl _ _).alloc _
 have m3:Mod (fun _=>False) ((w.alloc (.cells #[.bool nx,.slice ao a.length acap] 116)).alloc (.cells #[.bool nx,.slice bo b.length bcap] 116)) (((w.alloc (.cells #[.bool nx,.slice ao a.length acap] 116)).alloc (.cells #[.bool nx,.slice bo b.length bcap] 116)).alloc (.cells #[.bool false,.slice none 0 0] 116)):=(Mod.refl _ _).alloc _
 have hX3:=(hX.keep m2 (fun f=>f)).keep m3 (fun f=>f)
 have hY3:=hY.keep m3 (fun f=>f)
 have hmW:=m1.trans (m2.trans m3)
 have hUW:=owns_mod hU2 hmW (fun _ _ f=>f)
 have hVW:=owns_mod hV2 hmW (fun _ _ f=>f)
 simp only [World.size_alloc] at hY3 hR
 clear hX hY m1 m2 m3 hU2 hV2
 go_enter Tryz.func118,Tryz.ntmps118
 go_wp2_with fail
 generalize ((w.alloc (.cells #[.bool nx,.slice ao a.length acap] 116)).alloc (.cells #[.bool nx,.slice bo b.length bcap] 116)).alloc (.cells #[.bool false,.slice none 0 0] 116)=W at *
 have hWz:=hmW.size
 have hRl:=hR.lt
 go_loopw [6,7] (fun dv i wr=>∃ k:Nat,k≤max a.length b.length∧i=.int .i64 k∧wr.ownsRow W.heap.size 3 1 dv k (zvs ((plusL (1) a b).take k))∧Mod (fun _=>False) W wr) (fun _ i _=>max a.length b.length - (intOf i).toNat)
 case atStart=>exact ⟨0,by omega,rfl,by simpa [zvs] using World.ownsRow_nil _ _ _ _,Mod.refl _ _⟩
 case round =>
  obtain ⟨k,hk,rfl,hown,hm⟩:=hrel
  have hsz:=hm.size
  obtain ⟨oo,ocap,rfl,-⟩:=owns_form hown
  have x1:=(hX3.keep hm (fun f=>f)).c1
  have y1:=(hY3.keep hm (fun f=>f)).c1
  by_cases hka:k < a.length
  ·have hlt:k < max a.length b.length:=by omega
   obtain ⟨ga,rfl,ca⟩:=ivs_cell (owns_mod hUW hm (fun _ _ f=>f)) rfl hka
   have hda:=ha _ (List.getElem_mem hka)
   by_cases hkb:k < b.length
   ·obtain ⟨gb,rfl,cb⟩:=ivs_cell (owns_mod hVW hm (fun _ _ f=>f)) rfl hkb
    have hdb:=hb _ (List.getElem_mem hkb)
    go_wp2_with (at_builtin;refine wpList_append_own _ rfl _ _ 39 rfl W.heap.size 3 i0 (.int .i64 0) 1 8 Tryz.underlying39 hi hz0 hz1 hz2 rfl (by decide) _ _ _ rfl (hown.alloc _) ⟨wr.heap.size,0,none⟩ 1 1 [_] rfl rfl (cell_one_new _ _ _) ?p2 ?p3 ?p4 ?p5 ?_)
    case p2=>first | rfl | (intro u hu;simp at hu;subst hu;rfl)
    case p3=>unfold maxLen;omega
    case p4=>omega
    case p5=>first | omega | (simp;omega)
    intro v4 w4 hown4 hgrow _
    have hm4:Mod (fun _=>False) W w4:=(hm.alloc _).grown hgrow (fun q hq hlt=>by have:=(hown.lt q hq).1;omega)
    have hown5:=row_next hown4 (HPL.out k hlt) (by simp [hka,hkb];try omega)
    obtain ⟨oo4,ocap4,rfl,-⟩:=owns_form hown4
    clear hown4 hgrow hown hm x1 y1
    go_wp2_with fail
    go_roundw
    case rel=>exact ⟨k+1,by omega,by go_num,hown5,hm4⟩
    case measure=>simp [intOf];omega
   ·have hkb':b.length≤k:=by omega
    go_wp2_with (at_builtin;refine wpList_append_own _ rfl _ _ 39 rfl W.heap.size 3 i0 (.int .i64 0) 1 8 Tryz.underlying39 hi hz0 hz1 hz2 rfl (by decide) _ _ _ rfl (hown.alloc _) ⟨wr.heap.size,0,none⟩ 1 1 [_] rfl rfl (cell_one_new _ _ _) ?q2 ?q3 ?q4 ?q5 ?_)
    case q2=>first | rfl | (intro u hu;simp at hu;subst hu;rfl)
    case q3=>unfold maxLen;omega
    case q4=>omega
    case q5=>first | omega | (simp;omega)
    intro v4 w4 hown4 hgrow _
    have hm4:Mod (fun _=>False) W w4:=(hm.alloc _).grown hgrow (fun q hq hlt=>by have:=(hown.lt q hq).1;omega)
    have hown5:=row_next hown4 (HPL.out k hlt) (by simp [hka,hkb'];try omega)
    obtain ⟨oo4,ocap4,rfl,-⟩:=owns_form hown4
    clear hown4 hgrow hown hm x1 y1
    go_wp2_with fail
    go_roundw
    case rel=>exact ⟨k+1,by omega,by go_num,hown5,hm4⟩
    case measure=>simp [intOf];omega
  ·have hka':a.length≤k:=by omega
   by_cases hkb:k < b.length
   ·have hlt:k < max a.length b.length:=by omega
    obtain ⟨gb,rfl,cb⟩:=ivs_cell (owns_mod hVW hm (fun _ _ f=>f)) rfl hkb
    have hdb:=hb _ (List.getElem_mem hkb)
    go_wp2_with (at_builtin;refine wpList_append_own _ rfl _ _ 39 rfl W.heap.size 3 i0 (.int .i64 0) 1 8 Tryz.underlying39 hi hz0 hz1 hz2 rfl (by decide) _ _ _ rfl (hown.alloc _) ⟨wr.heap.size,0,none⟩ 1 1 [_] rfl rfl (cell_one_new _ _ _) ?r2 ?r3 ?r4 ?r5 ?_)
    case r2=>first | rfl | (intro u hu;simp at hu;subst hu;rfl)
    case r3=>unfold maxLen;omega
    case r4=>omega
    case r5=>first | omega | (simp;omega)
    intro v4 w4 hown4 hgrow _
    have hm4:Mod (fun _=>False) W w4:=(hm.alloc _).grown hgrow (fun q hq hlt=>by have:=(hown.lt q hq).1;omega)
    have hown5:=row_next hown4 (HPL.out k hlt) (by simp [hka',hkb];try omega)
    obtain ⟨oo4,ocap4,rfl,-⟩:=owns_form hown4
    clear hown4 hgrow hown hm x1 y1
    go_wp2_with fail
    go_roundw
    case rel=>exact ⟨k+1,by omega,by go_num,hown5,hm4⟩
    case measure=>simp [intOf];omega
   ·have hkN:k=max a.length b.length:=by omega
    have hown6:wr.ownsRow 0 3 1 (.slice oo k ocap) (plusL (1) a b).length (zvs (plusL (1) a b)):=by
     rw [hkN,List.take_of_length_le (by rw [HLN.out];omega)] at hown
     rw [HLN.out]
     rw [hkN]
     exact owns_base hown (Nat.zero_le _)
    have hx0:=(hX3.keep hm (fun f=>f)).c0
    have hRw:=hR.keep hm (fun f=>f)
    have hRd:Nmb wr.drew (w.heap.size+1+1) false (.slice none 0 0):=hRw
    have hmw:=hmW.trans hm
    have hpl5:(plusL (1) a b).length≤2000000000:=by rw [HLN.out];omega
    have HO6:Hid (wr.ownsRow 0 3 1 (.slice oo k ocap) (plusL (1) a b).length (zvs (plusL (1) a b))):=hown6
    have HLE:Hid ((plusL (1) a b).length≤2000000000):=hpl5
    clear hown6 hown hkN hpl5
    go_wp2_with fail
    go_region_held3 (fun w'=>w'.cell? ⟨w.heap.size,0,none⟩=some (.bool nx))
     (first | go_keep | (exact hkeep) | (rw [set2_cell _ _ _ _ _ _ (by omega)];exact hkeep))
     (first
      | (go_at_call 172;refine (carried_any (.slice oo k ocap) (plusL (1) a b) wr.drew HO6.out HBD.out H0.out HLE.out).mono ?_;rintro e w3 ⟨hm3,v3,os,rfl,hown3,hdig,hval,hlen3⟩;have hkeep:=hm3.cell (a:=wr.drew) hx0)
      | (go_at_call 171;refine (made_any nx v3 os w3 (owns_base hown3 (Nat.zero_le _)) hdig (by have:=HLN.out;omega)).mono ?_;rintro e w4 ⟨hm4,nb,v4,l4,rfl,hN4,hx4,hl4⟩;have hkeep:=hm4.cell (hm3.cell (a:=wr.drew) hx0);have hR4:=(hRd.keep hm3 (fun f=>f)).keep hm4 (fun f=>f);have r0:=hR4.c0;have r1:=hR4.c1;have f0:=hR4.fz 0;have f1:=hR4.fz 1;obtain ⟨vo4,vcap4,rfl,-⟩:=owns_form hN4.2))
    have hR5:=hR4.set nb (.slice vo4 l4.length vcap4)
    have q0:=hR5.c0
    have q1:=hR5.c1
    have hmE:=(hmw.drew.trans hm3).trans hm4
    have hmF:Mod (fun _=>False) w ((w4.setCell ⟨w.heap.size+1+1,0,none⟩ (.bool nb)).setCell ⟨w.heap.size+1+1,1,none⟩ (.slice vo4 l4.length vcap4)):=((hmE.mono (q:=fun i=>i=w.heap.size+1+1) (fun _ _ f=>f.elim)).trans (mod_set2 _ _ _ _)).mono (fun i hi h=>by omega)
    have HNE:Hid (NumEnd w (num nx a+num nx b) (max a.length b.length+4) (.returned (nm2 nb (.slice vo4 l4.length vcap4))) ((w4.setCell ⟨w.heap.size+1+1,0,none⟩ (.bool nb)).setCell ⟨w.heap.size+1+1,1,none⟩ (.slice vo4 l4.length vcap4))) :=
     numEnd (l:=l4) hmF ⟨hN4.1,owns_set2 hN4.2 hR4 _ _⟩ (by rw [hx4];exact HTOT.out os hval) (by have:=HLN.out;omega)
    clear hN4 hown3 hval hx4 hmE hm3 hm4 hmw
    go_wp2_with fail
    exact bodyPost_ret (by simp [results,Tryz.results118,go_sem,q0,q1]) rfl HNE.out
set_option maxHeartbeats 3200000 in
set_option maxRecDepth 100000 in
theorem plus_opp (p q:Bool) (hpq:(p == q)=false) (u v:Value) (a b:List Nat) (w:World) (hU:Nm w p u a) (hV:Nm w q v b) (la:a.length≤1000000000) (lb:b.length≤1000000000) (hle:val b≤val a) :
  Calls Tryz.prog 118 #[nm2 p u,nm2 q v] w (NumEnd w (num p a+num q b) (max a.length b.length+4)):=by
 obtain ⟨i0,hi,hz0,hz1,hz2⟩:=info_parts Tryz.info3
 have ha:=hU.1.1
 have hb:=hV.1.1
 have hta:=hU.1.2.1
 have htb:=hV.1.2.1
 obtain ⟨ao,acap,rfl,-⟩:=owns_form hU.2
 obtain ⟨bo,bcap,rfl,-⟩:=owns_form hV.2
 have HTOT:Hid (∀ os,(val os:Int)=valI (plusL (-1) a b)→num p os=num p a+num q b):=fun os h=>by
  rw [plusL_val] at h
  unfold num
  cases p <;> cases q <;> first | (exfalso;simp at hpq;done) | (simp <;> omega)
 have H0:Hid (0≤valI (plusL (-1) a b)):=show 0≤valI (plusL (-1) a b) by rw [plusL_val];omega
 have HPL:Hid (∀ k,k < max a.length b.length→(plusL (-1) a b)[k]?=some ((a[k]?.getD 0:Nat)+(-1)*((b[k]?.getD 0:Nat):Int))):=plusL_at (-1) a b
 have HLN:Hid ((plusL (-1) a b).length=max a.length b.length):=plusL_len (-1) a b
 have HBD:Hid (∀ x∈plusL (-1) a b,-200000000000000000≤x∧x≤200000000000000000):=fun x hx=>by
  obtain ⟨j,hj,rfl⟩:=List.getElem_of_mem hx
  have h1:=plusL_at (-1) a b j (by rw [plusL_len] at hj;exact hj)
  rw [List.getElem?_eq_getElem hj] at h1
  injection h1 with h1
  have h2:=dig_getD ha j
  have h3:=dig_getD hb j
  omega
 have hU2:=hU.2
 have hV2:=hV.2
 clear hU hV
 have hX:=nmb_new w p (.slice ao a.length acap)
 have hY:=nmb_new (w.alloc (.cells #[.bool p,.slice ao a.length acap] 116)) q (.slice bo b.length bcap)
 have hR:=nmb_new ((w.alloc (.cells #[.bool p,.slice ao a.length acap] 116)).alloc (.cells #[.bool q,.slice bo b.length bcap] 116)) false (.slice none 0 0)
 have m1:Mod (fun _=>False) w (w.alloc (.cells #[.bool p,.slice ao a.length acap] 116)):=(Mod.refl _ w).alloc _
 have m2:Mod (fun _=>False) (w.alloc (.cells #[.bool p,.slice ao a.length acap] 116)) ((w.alloc (.cells #[.bool p,.slice ao a.length acap] 116)).alloc (.cells #[.bool q,.slice bo b.length bcap] 116)):=(Mod.refl _ _).alloc _
 have m3:Mod (fun _=>False) ((w.alloc (.cells #[.bool p,.slice ao a.length acap] 116)).alloc (.cells #[.bool q,.slice bo b.length bcap] 116)) (((w.alloc (.cells #[.bool p,.slice ao a.length acap] 116)).alloc (.cells #[.bool q,.slice bo b.length bcap] 116)).alloc (.cells #[.bool false,.slice none 0 0] 116)):=(Mod.refl _ _).alloc _
 have hX3:=(hX.keep m2 (fun f=>f)).keep m3 (fun f=>f)
 have hY3:=hY.keep m3 (fun f=>f)
 have hmW:=m1.trans (m2.trans m3)
 have hUW:=owns_mod hU2 hmW (fun _ _ f=>f)
 have hVW:=owns_mod hV2 hmW (fun _ _ f=>f)
 simp only [World.size_alloc] at hY3 hR
 clear hX hY m1 m2 m3 hU2 hV2
 go_enter Tryz.func118,Tryz.ntmps118
 go_wp2_with fail
 refine (order_any _ _ a b _ hUW hVW ha hb hta htb (by omega) (by omega)).mono ?_
 rintro e W ⟨rfl,hm2⟩
 have hX4:=hX3.keep hm2 (fun f=>f)
 have hY4:=hY3.keep hm2 (fun f=>f)
 have hR4':=hR.keep hm2 (fun f=>f)
 have hmW4:=hmW.trans hm2
 have hUW4:=owns_mod hUW hm2 (fun _ _ f=>f)
 have hVW4:=owns_mod hVW hm2 (fun _ _ f=>f)
 clear hX3 hY3 hR hmW hUW hVW hm2
 have hX3:=hX4
 have hY3:=hY4
 have hR:=hR4'
 have hmW:=hmW4
 have hUW:=hUW4
 have hVW:=hVW4
 clear hX4 hY4 hR4' hmW4 hUW4 hVW4
 have hsgb:decide (sgI ((val a:Int) - (val b:Int)) < 0)=false:=by
  unfold sgI;rw [if_neg (by omega)];split <;> simp
 have x0':=hX3.c0
 have y0':=hY3.c0
 go_wp2_with fail
 clear hsgb x0' y0'
 have hWz:=hmW.size
 have hRl:=hR.lt
 go_loopw [6,7] (fun dv i wr=>∃ k:Nat,k≤max a.length b.length∧i=.int .i64 k∧wr.ownsRow W.heap.size 3 1 dv k (zvs ((plusL (-1) a b).take k))∧Mod (fun _=>False) W wr) (fun _ i _=>max a.length b.length - (intOf i).toNat)
 case atStart=>exact ⟨0,by omega,rfl,by simpa [zvs] using World.ownsRow_nil _ _ _ _,Mod.refl _ _⟩
 case round =>
  obtain ⟨k,hk,rfl,hown,hm⟩:=hrel
  have hsz:=hm.size
  obtain ⟨oo,ocap,rfl,-⟩:=owns_form hown
  have x1:=(hX3.keep hm (fun f=>f)).c1
  have y1:=(hY3.keep hm (fun f=>f)).c1
  by_cases hka:k < a.length
  ·have hlt:k < max a.length b.length:=by omega
   obtain ⟨ga,rfl,ca⟩:=ivs_cell (owns_mod hUW hm (fun _ _ f=>f)) rfl hka
   have hda:=ha _ (List.getElem_mem hka)
   by_cases hkb:k < b.length
   ·obtain ⟨gb,rfl,cb⟩:=ivs_cell (owns_mod hVW hm (fun _ _ f=>f)) rfl hkb
    have hdb:=hb _ (List.getElem_mem hkb)
    go_wp2_with (at_builtin;refine wpList_append_own _ rfl _ _ 39 rfl W.heap.size 3 i0 (.int .i64 0) 1 8 Tryz.underlying39 hi hz0 hz1 hz2 rfl (by decide) _ _ _ rfl (hown.alloc _) ⟨wr.heap.size,0,none⟩ 1 1 [_] rfl rfl (cell_one_new _ _ _) ?p2 ?p3 ?p4 ?p5 ?_)
    case p2=>first | rfl | (intro u hu;simp at hu;subst hu;rfl)
    case p3=>unfold maxLen;omega
    case p4=>omega
    case p5=>first | omega | (simp;omega)
    intro v4 w4 hown4 hgrow _
    have hm4:Mod (fun _=>False) W w4:=(hm.alloc _).grown hgrow (fun q hq hlt=>by have:=(hown.lt q hq).1;omega)
    have hown5:=row_next hown4 (HPL.out k hlt) (by simp [hka,hkb];try omega)
    obtain ⟨oo4,ocap4,rfl,-⟩:=owns_form hown4
    clear hown4 hgrow hown hm x1 y1
    go_wp2_with fail
    go_roundw
    case rel=>exact ⟨k+1,by omega,by go_num,hown5,hm4⟩
    case measure=>simp [intOf];omega
   ·have hkb':b.length≤k:=by omega
    go_wp2_with (at_builtin;refine wpList_append_own _ rfl _ _ 39 rfl W.heap.size 3 i0 (.int .i64 0) 1 8 Tryz.underlying39 hi hz0 hz1 hz2 rfl (by decide) _ _ _ rfl (hown.alloc _) ⟨wr.heap.size,0,none⟩ 1 1 [_] rfl rfl (cell_one_new _ _ _) ?q2 ?q3 ?q4 ?q5 ?_)
    case q2=>first | rfl | (intro u hu;simp at hu;subst hu;rfl)
    case q3=>unfold maxLen;omega
    case q4=>omega
    case q5=>first | omega | (simp;omega)
    intro v4 w4 hown4 hgrow _
    have hm4:Mod (fun _=>False) W w4:=(hm.alloc _).grown hgrow (fun q hq hlt=>by have:=(hown.lt q hq).1;omega)
    have hown5:=row_next hown4 (HPL.out k hlt) (by simp [hka,hkb'];try omega)
    obtain ⟨oo4,ocap4,rfl,-⟩:=owns_form hown4
    clear hown4 hgrow hown hm x1 y1
    go_wp2_with fail
    go_roundw
    case rel=>exact ⟨k+1,by omega,by go_num,hown5,hm4⟩
    case measure=>simp [intOf];omega
  ·have hka':a.length≤k:=by omega
   by_cases hkb:k < b.length
   ·have hlt:k < max a.length b.length:=by omega
    obtain ⟨gb,rfl,cb⟩:=ivs_cell (owns_mod hVW hm (fun _ _ f=>f)) rfl hkb
    have hdb:=hb _ (List.getElem_mem hkb)
    go_wp2_with (at_builtin;refine wpList_append_own _ rfl _ _ 39 rfl W.heap.size 3 i0 (.int .i64 0) 1 8 Tryz.underlying39 hi hz0 hz1 hz2 rfl (by decide) _ _ _ rfl (hown.alloc _) ⟨wr.heap.size,0,none⟩ 1 1 [_] rfl rfl (cell_one_new _ _ _) ?r2 ?r3 ?r4 ?r5 ?_)
    case r2=>first | rfl | (intro u hu;simp at hu;subst hu;rfl)
    case r3=>unfold maxLen;omega
    case r4=>omega
    case r5=>first | omega | (simp;omega)
    intro v4 w4 hown4 hgrow _
    have hm4:Mod (fun _=>False) W w4:=(hm.alloc _).grown hgrow (fun q hq hlt=>by have:=(hown.lt q hq).1;omega)
    have hown5:=row_next hown4 (HPL.out k hlt) (by simp [hka',hkb];try omega)
    obtain ⟨oo4,ocap4,rfl,-⟩:=owns_form hown4
    clear hown4 hgrow hown hm x1 y1
    go_wp2_with fail
    go_roundw
    case rel=>exact ⟨k+1,by omega,by go_num,hown5,hm4⟩
    case measure=>simp [intOf];omega
   ·have hkN:k=max a.length b.length:=by omega
    have hown6:wr.ownsRow 0 3 1 (.slice oo k ocap) (plusL (-1) a b).length (zvs (plusL (-1) a b)):=by
     rw [hkN,List.take_of_length_le (by rw [HLN.out];omega)] at hown
     rw [HLN.out]
     rw [hkN]
     exact owns_base hown (Nat.zero_le _)
    have hx0:=(hX3.keep hm (fun f=>f)).c0
    have hRw:=hR.keep hm (fun f=>f)
    have hRd:Nmb wr.drew (w.heap.size+1+1) false (.slice none 0 0):=hRw
    have hmw:=hmW.trans hm
    have hpl5:(plusL (-1) a b).length≤2000000000:=by rw [HLN.out];omega
    have HO6:Hid (wr.ownsRow 0 3 1 (.slice oo k ocap) (plusL (-1) a b).length (zvs (plusL (-1) a b))):=hown6
    have HLE:Hid ((plusL (-1) a b).length≤2000000000):=hpl5
    clear hown6 hown hkN hpl5
    go_wp2_with fail
    go_region_held3 (fun w'=>w'.cell? ⟨w.heap.size,0,none⟩=some (.bool p))
     (first | go_keep | (exact hkeep) | (rw [set2_cell _ _ _ _ _ _ (by omega)];exact hkeep))
     (first
      | (go_at_call 172;refine (carried_any (.slice oo k ocap) (plusL (-1) a b) wr.drew HO6.out HBD.out H0.out HLE.out).mono ?_;rintro e w3 ⟨hm3,v3,os,rfl,hown3,hdig,hval,hlen3⟩;have hkeep:=hm3.cell (a:=wr.drew) hx0)
      | (go_at_call 171;refine (made_any p v3 os w3 (owns_base hown3 (Nat.zero_le _)) hdig (by have:=HLN.out;omega)).mono ?_;rintro e w4 ⟨hm4,nb,v4,l4,rfl,hN4,hx4,hl4⟩;have hkeep:=hm4.cell (hm3.cell (a:=wr.drew) hx0);have hR4:=(hRd.keep hm3 (fun f=>f)).keep hm4 (fun f=>f);have r0:=hR4.c0;have r1:=hR4.c1;have f0:=hR4.fz 0;have f1:=hR4.fz 1;obtain ⟨vo4,vcap4,rfl,-⟩:=owns_form hN4.2))
    have hR5:=hR4.set nb (.slice vo4 l4.length vcap4)
    have q0:=hR5.c0
    have q1:=hR5.c1
    have hmE:=(hmw.drew.trans hm3).trans hm4
    have hmF:Mod (fun _=>False) w ((w4.setCell ⟨w.heap.size+1+1,0,none⟩ (.bool nb)).setCell ⟨w.heap.size+1+1,1,none⟩ (.slice vo4 l4.length vcap4)):=((hmE.mono (q:=fun i=>i=w.heap.size+1+1) (fun _ _ f=>f.elim)).trans (mod_set2 _ _ _ _)).mono (fun i hi h=>by omega)
    have HNE:Hid (NumEnd w (num p a+num q b) (max a.length b.length+4) (.returned (nm2 nb (.slice vo4 l4.length vcap4))) ((w4.setCell ⟨w.heap.size+1+1,0,none⟩ (.bool nb)).setCell ⟨w.heap.size+1+1,1,none⟩ (.slice vo4 l4.length vcap4))) :=
     numEnd (l:=l4) hmF ⟨hN4.1,owns_set2 hN4.2 hR4 _ _⟩ (by rw [hx4];exact HTOT.out os hval) (by have:=HLN.out;omega)
    clear hN4 hown3 hval hx4 hmE hm3 hm4 hmw
    go_wp2_with fail
    exact bodyPost_ret (by simp [results,Tryz.results118,go_sem,q0,q1]) rfl HNE.out
theorem plus_tf (u v:Value) (a b:List Nat) (w:World) (hU:Nm w true u a) (hV:Nm w false v b) (la:a.length≤1000000000) (lb:b.length≤1000000000) (hle:val b≤val a):Calls Tryz.prog 118 #[nm2 true u,nm2 false v] w (NumEnd w (num true a+num false b) (max a.length b.length+4)):=plus_opp true false rfl u v a b w hU hV la lb hle
theorem plus_ft (u v:Value) (a b:List Nat) (w:World) (hU:Nm w false u a) (hV:Nm w true v b) (la:a.length≤1000000000) (lb:b.length≤1000000000) (hle:val b≤val a):Calls Tryz.prog 118 #[nm2 false u,nm2 true v] w (NumEnd w (num false a+num true b) (max a.length b.length+4)):=plus_opp false true rfl u v a b w hU hV la lb hle
end Go.Proofs.YtmnfndpbblpjiaaGreatDoor

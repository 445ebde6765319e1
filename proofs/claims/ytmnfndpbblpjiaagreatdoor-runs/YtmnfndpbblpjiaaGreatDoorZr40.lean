/- The program's numbers: made of a sign and limbs, of an int; their sign, how many digits. -/
import Derived.Lib.AppendStr
import Derived.Test.YtmnfndpbblpjiaaGreatDoorZr35
import Derived.Test.YtmnfndpbblpjiaaGreatDoorZr37
namespace Go.Proofs.YtmnfndpbblpjiaaGreatDoor
open Go.RowKit Pu
abbrev n9 (nb:Bool) (v:Value):Value:=.agg #[.bool nb,v]
def N9 (w:World) (nb:Bool) (v:Value) (l:List Nat):Prop:=C9 nb l∧w.ownsRow 0 207 1 v l.length (uvs l)
theorem N9.mod {w w':World} {nb:Bool} {v:Value} {l:List Nat} (h:N9 w nb v l) (hm:Mod (fun _=>False) w w'):N9 w' nb v l:=⟨h.1,owns_mod h.2 hm (fun _ _ f=>f)⟩
def N9E (w:World) (x:Int) (n:Nat) (e:Ending) (w':World):Prop:=Mod (fun _=>False) w w'∧∃ nb v l,e=.returned (n9 nb v)∧N9 w' nb v l∧num9 nb l=x∧l.length≤n
theorem own_apart {w w':World} {rb base n:Nat} {u:Value} {xs:List Value} {t:TypeId} (h:w.ownsRow base 207 1 u n xs) (hm:Mod (fun q=>q=rb) w w') {C:Array Value} (hb:w.heap[rb]?=some (.cells C t (0,0))) (ht:t≠207):w'.ownsRow base 207 1 u n xs:=by
 refine owns_mod' h hm (fun g h1 h2=>?_)
 subst h2
 obtain ⟨_,⟨rfl,_⟩ | ⟨g',cap,cur,rfl,_,hg,_⟩⟩:=h
 ·simp [Value.ownBlock] at h1
 ·simp [Value.ownBlock] at h1
  subst h1
  rw [hb] at hg
  simp at hg
  exact ht hg.2
theorem n9_end {w wX:World} {b base n:Nat} {o1 o2:Value} {nb:Bool} {v:Value} {l:List Nat} {x:Int} (hb:wX.heap[b]?=some (.cells #[o1,o2] 159 (0,0))) (hw:w.heap.size≤b) (hm:Mod (fun _=>False) w wX) (hO:wX.ownsRow base 207 1 v l.length (uvs l)) (hc:C9 nb l) (hx:num9 nb l=x) (hn:l.length≤n) :
  N9E w x n (.returned (n9 nb v)) (set2at wX b 0 (.bool nb) v)∧(set2at wX b 0 (.bool nb) v).cell? ⟨b,0,none⟩=some (.bool nb)∧(set2at wX b 0 (.bool nb) v).cell? ⟨b,1,none⟩=some v:=by
 refine ⟨⟨set2at_new hm b 0 _ _ hw,nb,v,l,rfl,⟨hc,own_apart (owns_base hO (Nat.zero_le _)) (set2at_own wX b 0 (.bool nb) v) hb (by decide)⟩,hx,hn⟩,?_,?_⟩
 ·rw [set2at_cell hb];simp
 ·rw [set2at_cell hb];simp
theorem c2_of {w:World} {b:Nat} {x y:Value} {ty:TypeId} (h:w.heap[b]?=some (.cells #[x,y] ty (0,0))):w.cell? ⟨b,0,none⟩=some x∧w.cell? ⟨b,1,none⟩=some y:=by simp [World.cell?,h]
theorem Pu.C9.nil:C9 false []:=⟨fun _ h=>by simp at h,fun _ h=>by simp at h,fun _=>rfl⟩
set_option maxHeartbeats 800000 in
theorem signed_any (nb:Bool) (v:Value) (l:List Nat) (base:Nat) (w:World) (hO:w.ownsRow base 207 1 v l.length (uvs l)) (hd:D9 l) (ht:T9 l) (hl:l.length≤100000) :
  Calls Tryz.prog 197 #[.bool nb,v] w (N9E w (num9 nb l) l.length):=by
 obtain ⟨ao,cap,rfl,-⟩:=owns_form hO
 by_cases h0:l.length=0
 ·have hl0:l=[]:=List.eq_nil_of_length_eq_zero h0
  have hb:((l.length:Int) == 0)=true:=beq_t (m:=0) h0
  have HE:Hid (N9E w (num9 nb l) l.length (.returned (n9 false (.slice none 0 0))) (w.alloc (.cells #[.bool false,.slice none 0 0] 159))) :=
   ⟨(Mod.refl _ w).alloc _,false,.slice none 0 0,[],rfl,⟨C9.nil,World.ownsRow_nil _ _ _ _⟩,by subst hl0;cases nb <;> simp [num9,v9],Nat.zero_le _⟩
  clear hl0 h0
  go_enter Tryz.func197,Tryz.ntmps197
  go_wp2_with fail
  exact bodyPost_ret (v:=n9 false (.slice none 0 0)) (by simp [results,Tryz.results197,go_sem]) rfl HE.out
 ·have hb:((l.length:Int) == 0)=false:=beq_f (m:=0) h0
  have HE:Hid (N9E w (num9 nb l) l.length (.returned (n9 nb (.slice ao l.length cap))) (w.alloc (.cells #[.bool nb,.slice ao l.length cap] 159))) :=
   ⟨(Mod.refl _ w).alloc _,nb,.slice ao l.length cap,l,rfl,⟨⟨hd,ht,fun e=>absurd (by rw [e];rfl) h0⟩,owns_base (owns_mod hO ((Mod.refl (fun _=>False) w).alloc _) (fun _ _ f=>f)) (Nat.zero_le _)⟩,rfl,Nat.le_refl _⟩
  clear h0
  go_enter Tryz.func197,Tryz.ntmps197
  go_wp2_with fail
  exact bodyPost_ret (v:=n9 nb (.slice ao l.length cap)) (by simp [results,Tryz.results197,go_sem]) rfl HE.out
set_option maxHeartbeats 800000 in
theorem sign9_any (nb:Bool) (v:Value) (l:List Nat) (w:World) (hN:N9 w nb v l) (hl:l.length≤100000):Calls Tryz.prog 160 #[n9 nb v] w fun e w'=>e=.returned (.int .i64 (sgn (num9 nb l)))∧Mod (fun _=>False) w w':=by
 obtain ⟨ao,cap,rfl,-⟩:=owns_form hN.2
 have hmA:Mod (fun _=>False) w (w.alloc (.cells #[.bool nb,.slice ao l.length cap] 159)):=(Mod.refl _ w).alloc _
 by_cases h0:l.length=0
 ·have hl0:l=[]:=List.eq_nil_of_length_eq_zero h0
  have hb:((l.length:Int) == 0)=true:=beq_t (m:=0) h0
  have HE:Hid (sgn (num9 nb l)=0):=show _=_ by subst hl0;cases nb <;> simp [num9,v9,sgn]
  clear hl0 h0
  go_enter Tryz.func160,Tryz.ntmps160
  go_wp2_with fail
  go_ret
  exact ⟨by rw [HE.out];rfl,hmA⟩
 ·have hb:((l.length:Int) == 0)=false:=beq_f (m:=0) h0
  have hp:0 < v9 l:=Nat.pos_of_ne_zero fun e=>h0 (by rw [v9_nil hN.1.2.1 e];rfl)
  clear h0
  cases nb
  ·have HE:Hid (sgn (num9 false l)=1):=show _=_ by unfold sgn num9;simp;omega
   go_enter Tryz.func160,Tryz.ntmps160
   go_wp2_with fail
   go_ret
   exact ⟨by rw [HE.out];rfl,hmA⟩
  ·have HE:Hid (sgn (num9 true l)=-1):=show _=_ by unfold sgn num9;simp;omega
   go_enter Tryz.func160,Tryz.ntmps160
   go_wp2_with fail
   go_ret
   exact ⟨by rw [HE.out];rfl,hmA⟩
set_option maxHeartbeats 800000 in
theorem fromint_any (x:Int) (w:World) (h1:-1000000 < x) (h2:x < 1000000):Calls Tryz.prog 189 #[.int .i64 x] w (N9E w x 3):=by
 have hR0:=heap_alloc_new w (.cells #[.bool false,.slice none 0 0] 159)
 have hm0:Mod (fun _=>False) w (w.alloc (.cells #[.bool false,.slice none 0 0] 159)):=(Mod.refl _ w).alloc _
 have HH:Hid _:=And.intro hR0 hm0
 clear hR0 hm0
 by_cases hx:x < 0
 ·obtain ⟨n,rfl⟩:∃ n:Nat,x=-(n:Int):=⟨x.natAbs,by omega⟩
  have hn:n≤1000000:=by omega
  have hn0:0 < n:=by omega
  have w1:IntKind.i64.wrap (-(n:Int)+1)=-(n:Int)+1:=by simp [IntKind.wrap,IntKind.signed,IntKind.bits];omega
  have w2:IntKind.i64.wrap (-(-(n:Int)+1))=(n:Int) - 1:=by simp [IntKind.wrap,IntKind.signed,IntKind.bits];omega
  have w3:IntKind.u64.wrap ((n:Int) - 1)=(n:Int) - 1:=wrap_u64 (by omega) (by omega)
  have w4:IntKind.u64.wrap ((n:Int) - 1+1)=(n:Int):=by rw [wrap_u64 (by omega) (by omega)];omega
  have w5:IntKind.u64.wrap (n:Int)=(n:Int):=wrap_u64 (by omega) (by omega)
  go_enter Tryz.func189,Tryz.ntmps189
  go_wp2_with fail
  obtain ⟨hR0,hm0⟩:=HH.out
  generalize w.alloc (.cells #[.bool false,.slice none 0 0] 159)=W at *
  refine (limbs_any n W hn).mono ?_
  rintro e w2 ⟨hm2,v2,l2,rfl,hO2,hd2,ht2,hv2,hl2⟩
  have hR2:=hm2.keep hR0 (fun f=>f)
  obtain ⟨r0,r1⟩:=c2_of hR2
  have f0:=fz3 hR2 0
  have f1:=fz3 hR2 1
  obtain ⟨vo,vcap,rfl,-⟩:=owns_form hO2
  have HE:Hid _:=n9_end (x:=-(n:Int)) hR2 (Nat.le_refl _) (hm0.trans hm2) hO2 (nb:=true) ⟨hd2,ht2,fun e=>by rw [e] at hv2;simp [v9] at hv2;omega⟩ (show num9 true l2=_ by simp [num9,hv2]) hl2
  clear hR2 hm2 hO2 hd2 ht2 hv2 HH hR0 hm0
  go_wp2_with fail
  obtain ⟨k1,q0,q1⟩:=HE.out
  unfold set2at at q0 q1
  exact bodyPost_ret (by simp [results,Tryz.results189,go_sem,q0,q1]) rfl k1
 ·obtain ⟨n,rfl⟩:∃ n:Nat,x=(n:Int):=⟨x.toNat,by omega⟩
  have hn:n≤1000000:=by omega
  have w5:IntKind.u64.wrap (n:Int)=(n:Int):=wrap_u64 (by omega) (by omega)
  have hx2:¬ (n:Int) < 0:=by omega
  go_enter Tryz.func189,Tryz.ntmps189
  go_wp2_with fail
  obtain ⟨hR0,hm0⟩:=HH.out
  generalize w.alloc (.cells #[.bool false,.slice none 0 0] 159)=W at *
  refine (limbs_any n W hn).mono ?_
  rintro e w2 ⟨hm2,v2,l2,rfl,hO2,hd2,ht2,hv2,hl2⟩
  have hR2:=hm2.keep hR0 (fun f=>f)
  obtain ⟨r0,r1⟩:=c2_of hR2
  have f0:=fz3 hR2 0
  have f1:=fz3 hR2 1
  obtain ⟨vo,vcap,rfl,-⟩:=owns_form hO2
  have HE:Hid _:=n9_end (x:=(n:Int)) hR2 (Nat.le_refl _) (hm0.trans hm2) hO2 (nb:=false) ⟨hd2,ht2,fun _=>rfl⟩ (show num9 false l2=_ by simp [num9,hv2]) hl2
  clear hR2 hm2 hO2 hd2 ht2 hv2 HH hR0 hm0
  go_wp2_with fail
  obtain ⟨k1,q0,q1⟩:=HE.out
  unfold set2at at q0 q1
  exact bodyPost_ret (by simp [results,Tryz.results189,go_sem,q0,q1]) rfl k1
theorem Pu.pow9 (m:Nat):1000000000 ^ m=10 ^ (9*m):=by rw [show (1000000000:Nat)=10 ^ 9 from rfl,← Nat.pow_mul]
theorem Pu.digits_iff {l b:List Nat} {t j n:Nat} (hl:l=b++[t]) (hd:D9 l) (hj:j=0∨10 ^ (j - 1)≤t) (hj2:t < 10 ^ j) (ht:t≠0):n < 9*b.length+j↔10 ^ n≤v9 l:=by
 subst hl
 have hb:D9 b:=fun d h=>hd d (List.mem_append_left _ h)
 have h1:=v9_lt hb
 rw [v9_append]
 simp only [v9,Nat.mul_zero,Nat.add_zero]
 rw [pow9] at *
 have hj0:j≠0:=by intro e;subst e;simp at hj2;omega
 have hlow:10 ^ (j - 1)≤t:=by rcases hj with h | h;(· omega);exact h
 constructor
 ·intro hn
  have a1:10 ^ (9*b.length)*10 ^ (j - 1)≤10 ^ (9*b.length)*t:=Nat.mul_le_mul_left _ hlow
  rw [← Nat.pow_add] at a1
  have a2:10 ^ n≤10 ^ (9*b.length+(j - 1)):=Nat.pow_le_pow_right (by omega) (by omega)
  omega
 ·intro hv
  by_cases hn:n < 9*b.length+j
  ·exact hn
  ·exfalso
   have a1:10 ^ (9*b.length)*(t+1)≤10 ^ (9*b.length)*10 ^ j:=Nat.mul_le_mul_left _ hj2
   rw [← Nat.pow_add,Nat.mul_add] at a1
   have a2:10 ^ (9*b.length+j)≤10 ^ n:=Nat.pow_le_pow_right (by omega) (by omega)
   omega
set_option maxHeartbeats 800000 in
set_option maxRecDepth 4000 in
theorem digits_any (nb:Bool) (v:Value) (l:List Nat) (w:World) (hN:N9 w nb v l) (hl:l.length≤50000):Calls Tryz.prog 182 #[n9 nb v] w fun e w'=>(∃ d:Nat,e=.returned (.int .i64 (d:Int))∧d≤1000000∧∀ n,1≤n→(n < d↔10 ^ n≤v9 l))∧Mod (fun _=>False) w w':=by
 obtain ⟨hd,ht,-⟩:=hN.1
 obtain ⟨ao,cap,rfl,-⟩:=owns_form hN.2
 have hO:=hN.2
 have hm0:Mod (fun _=>False) w (w.alloc (.cells #[.bool nb,.slice ao l.length cap] 159)):=(Mod.refl _ w).alloc _
 have hO0:=owns_mod hO hm0 (fun _ _ f=>f)
 clear hN hO
 by_cases h0:l=[]
 ·have HR:Hid (∀ n,1≤n→(n < 1↔10 ^ n≤v9 l)):=fun n hn=>by
   have:0 < 10 ^ n:=Nat.pow_pos (by omega)
   rw [h0];simp [v9];omega
  have hb:((l.length:Int) == 0)=true:=by subst h0;rfl
  have hlz:l.length=0:=by rw [h0];rfl
  have HLZ:l.length≤0:=by omega
  clear h0 hlz
  go_enter Tryz.func182,Tryz.ntmps182
  go_wp2_with fail
  go_ret
  exact ⟨⟨1,rfl,by omega,HR.out⟩,hm0⟩
 ·obtain ⟨b,t,hbt⟩:∃ b t,l=b++[t]:=⟨l.dropLast,l.getLast h0,(List.dropLast_concat_getLast h0).symm⟩
  have HBT:Hid (l=b++[t]):=hbt
  have hlb:l.length=b.length+1:=by rw [hbt];simp
  have ht0:t≠0:=ht t (by rw [hbt];simp)
  have ht9:t < 1000000000:=hd t (by rw [hbt];simp)
  have hb:((l.length:Int) == 0)=false:=by rw [beq_eq_false_iff_ne];omega
  have hkl:b.length < l.length:=by omega
  obtain ⟨gb,rfl,ct0⟩:=uvs_cell hO0 rfl hkl
  have hlt':l[b.length]=t:=by
   have:l[b.length]?=some t:=by rw [hbt];simp
   rw [List.getElem?_eq_getElem hkl] at this
   injection this
  rw [hlt'] at ct0
  clear hbt hlt' hO0
  have HV:Hid (∀ (j n:Nat),(j=0∨10 ^ (j - 1)≤t)→t < 10 ^ j→(n < 9*b.length+j↔10 ^ n≤v9 l)):=fun j n h1 h2=>digits_iff HBT.out hd h1 h2 ht0
  generalize v9 l=vv at *
  rw [hlb] at ct0 hm0 hb ⊢
  have hbl:b.length≤50000:=by omega
  clear hlb hkl hl h0 HBT
  go_enter Tryz.func182,Tryz.ntmps182
  go_wp2_with fail
  go_loop [4,5] (fun kv pv=>∃ (j u:Nat),j≤9∧Hid (u=t / 10 ^ j)∧u < 1000000000∧kv=.int .i64 (9*(b.length:Int)+(j:Int))∧pv=.int .u64 u∧Hid (j=0∨10 ^ (j - 1)≤t)) (fun _ pv=>(intOf pv).toNat)
  case atStart=>exact ⟨0,t,by omega,show t=t / 10 ^ 0 by simp,by omega,by simp;omega,rfl,.inl rfl⟩
  case round =>
   obtain ⟨j,u,hj,HU,hu,rfl,rfl,HJ⟩:=hrel
   by_cases hpt:0 < u
   ·have h10:10 ^ j≤t:=by
     refine Nat.le_of_not_lt fun h=>?_
     have:=HU.out
     rw [Nat.div_eq_of_lt h] at this
     omega
    have hj9:j < 9:=by
     refine Nat.lt_of_not_le fun h=>?_
     have:10 ^ 9≤10 ^ j:=Nat.pow_le_pow_right (by omega) h
     omega
    have HU2:Hid (u / 10=t / 10 ^ (j+1)):=show _=_ by rw [HU.out,Nat.div_div_eq_div_mul,Nat.pow_succ]
    have HJ2:Hid (j+1=0∨10 ^ (j+1 - 1)≤t):=.inr h10
    clear h10 HU HJ
    go_wp2_with fail
    go_round
    case rel=>exact ⟨j+1,u / 10,by omega,HU2,by omega,by go_num,by go_num,HJ2⟩
    case measure=>simp [intOf];omega
   ·have h10:t < 10 ^ j:=by
     have h:=HU.out
     have:t / 10 ^ j=0:=by omega
     rcases Nat.div_eq_zero_iff.1 this with h | h
     ·have:0 < 10 ^ j:=Nat.pow_pos (by omega)
      omega
     ·exact h
    have HR:Hid (∀ n,1≤n→(n < 9*b.length+j↔10 ^ n≤vv)):=fun n _=>HV.out j n HJ.out h10
    clear h10 HU HJ
    go_wp2_with fail
    go_ret
    exact ⟨⟨9*b.length+j,by simp,by omega,HR.out⟩,hm0⟩
theorem Pu.num9_same (nb:Bool) {l m k:List Nat} (h:v9 k=v9 l+v9 m):num9 nb k=num9 nb l+num9 nb m:=by
 cases nb <;> simp [num9,h] <;> omega
theorem Pu.num9_less {nb nc:Bool} (hn:nb≠nc) {l m k:List Nat} (hl:v9 l≤v9 m) (h:v9 k=v9 m - v9 l):num9 nc k=num9 nb l+num9 nc m:=by
 cases nb <;> cases nc <;> simp at hn <;> simp [num9,h] <;> omega
theorem Pu.num9_more {nb nc:Bool} (hn:nb≠nc) {l m k:List Nat} (hl:v9 m≤v9 l) (h:v9 k=v9 l - v9 m):num9 nb k=num9 nb l+num9 nc m:=by
 cases nb <;> cases nc <;> simp at hn <;> simp [num9,h] <;> omega
theorem Pu.num9_mul {nb nc:Bool} {l m k:List Nat} (h:v9 k=v9 l*v9 m):num9 (nb != nc) k=num9 nb l*num9 nc m:=by
 cases nb <;> cases nc <;> simp [num9,h,Int.mul_neg,Int.neg_mul]
theorem v9_len {a b:List Nat} (da:D9 a) (tb:T9 b) (h:v9 b≤v9 a):b.length≤a.length:=by
 refine Nat.le_of_not_lt fun hh=>?_
 have:=v9_shorter da tb hh
 omega
set_option maxHeartbeats 1600000 in
set_option maxRecDepth 4000 in
theorem sum_any (nb nc:Bool) (v u:Value) (l m:List Nat) (w:World) (hN:N9 w nb v l) (hU:w.ownsRow 0 207 1 u m.length (uvs m)) (dm:D9 m) (tm:T9 m) (ll:l.length≤40000) (lm:m.length≤40000) :
  Calls Tryz.prog 196 #[n9 nb v,.bool nc,u] w (N9E w (num9 nb l+num9 nc m) (max l.length m.length+1)):=by
 obtain ⟨⟨dl,tl,-⟩,hO⟩:=hN
 obtain ⟨vo,vcap,rfl,-⟩:=owns_form hO
 obtain ⟨uo,ucap,rfl,-⟩:=owns_form hU
 obtain ⟨a1,a2⟩:=alloc2_at w (.cells #[.bool nb,.slice vo l.length vcap] 159) (.cells #[.bool false,.slice none 0 0] 159)
 have hm0:Mod (fun _=>False) w ((w.alloc (.cells #[.bool nb,.slice vo l.length vcap] 159)).alloc (.cells #[.bool false,.slice none 0 0] 159)):=((Mod.refl _ w).alloc _).alloc _
 have HH:Hid _:=And.intro a1 (And.intro a2 hm0)
 clear a1 a2 hm0
 have HDL:Hid (D9 l∧T9 l∧D9 m∧T9 m):=⟨dl,tl,dm,tm⟩
 clear dl tl dm tm
 obtain ⟨mx,hmx,hml,hmm,hm4⟩:∃ mx,max l.length m.length+1=mx∧l.length+1≤mx∧m.length+1≤mx∧mx≤40001:=⟨_,rfl,by omega,by omega,by omega⟩
 rw [hmx]
 have HMX:Hid (max l.length m.length+1=mx):=hmx
 clear hmx
 by_cases hne:nb=nc
 ·have hb:(nb == nc)=true:=by simp [hne]
  have HS:Hid (∀ k:List Nat,v9 k=v9 l+v9 m→num9 nc k=num9 nb l+num9 nc m):=fun k h=>by subst hne;exact num9_same nb h
  generalize num9 nb l+num9 nc m=tot at *
  clear hne
  go_enter Tryz.func196,Tryz.ntmps196
  go_wp2_with fail
  generalize (w.alloc (.cells #[.bool nb,.slice vo l.length vcap] 159)).alloc (.cells #[.bool false,.slice none 0 0] 159)=W at *
  obtain ⟨hA0,hR0,hm0⟩:=HH.out
  clear HH
  refine (total_any _ _ l m 0 0 W (owns_mod hO hm0 (fun _ _ f=>f)) (owns_mod hU hm0 (fun _ _ f=>f)) HDL.out.1 HDL.out.2.2.1 (by omega) (by omega)).mono ?_
  rw [HMX.out]
  rintro e w2 ⟨hm2,v2,l2,rfl,hO2,hd2,ht2,hv2,hl2⟩
  have hs:=signed_any nc v2 l2 _ w2 hO2 hd2 ht2 (by omega)
  have HX:Hid (num9 nc l2=tot):=HS.out l2 hv2
  have hR2:=hm2.keep hR0 (fun f=>f)
  have hm2w:=hm0.trans hm2
  clear hO2 hd2 ht2 hv2 hm2
  go_wp2_with fail
  refine hs.mono ?_
  rintro e w3 ⟨hm3,nb3,v3,l3,rfl,hN3,hx3,hl3⟩
  have hR3:=hm3.keep hR2 (fun f=>f)
  obtain ⟨r0,r1⟩:=c2_of hR3
  have f0:=fz3 hR3 0
  have f1:=fz3 hR3 1
  obtain ⟨vo3,vcap3,rfl,-⟩:=owns_form hN3.2
  have HE:Hid _:=n9_end (x:=tot) (n:=mx) hR3 (by omega) (hm2w.trans hm3) hN3.2 hN3.1 (hx3.trans HX.out) (by omega)
  clear hR3 hm3 hN3 hx3 hs hR2 hm2w
  go_wp2_with fail
  obtain ⟨k1,q0,q1⟩:=HE.out
  unfold set2at at q0 q1
  exact bodyPost_ret (by simp [results,Tryz.results196,go_sem,q0,q1]) rfl k1
 ·have hb:(nb == nc)=false:=by simp [hne]
  have hlt:=less9_any (.slice vo l.length vcap) (.slice uo m.length ucap) l m 0 0 _ (owns_mod hO HH.out.2.2 (fun _ _ f=>f)) (owns_mod hU HH.out.2.2 (fun _ _ f=>f)) HDL.out.1 HDL.out.2.2.1 HDL.out.2.1 HDL.out.2.2.2 (by omega) (by omega)
  by_cases hc:v9 l < v9 m
  ·have HS:Hid (∀ k:List Nat,v9 k=v9 m - v9 l→num9 nc k=num9 nb l+num9 nc m):=fun k h=>num9_less hne (by omega) h
   generalize num9 nb l+num9 nc m=tot at *
   have hld:decide (v9 l < v9 m)=true:=by simpa using hc
   rw [hld] at hlt
   have HLE:Hid (v9 l≤v9 m∧l.length≤m.length):=⟨by omega,v9_len HDL.out.2.2.1 HDL.out.2.1 (by omega)⟩
   clear hne hc hld
   go_enter Tryz.func196,Tryz.ntmps196
   go_wp2_with fail
   generalize (w.alloc (.cells #[.bool nb,.slice vo l.length vcap] 159)).alloc (.cells #[.bool false,.slice none 0 0] 159)=W at *
   obtain ⟨hA0,hR0,hm0⟩:=HH.out
   clear HH
   refine hlt.mono ?_
   rintro e w1 ⟨rfl,hm1⟩
   have hA1:=hm1.keep hA0 (fun f=>f)
   have hR1:=hm1.keep hR0 (fun f=>f)
   have hm01:=hm0.trans hm1
   obtain ⟨g0,g1⟩:=c2_of hA1
   clear hA0 hR0 hm0 hA1 hlt hm1
   have hR0:=hR1
   have hm0:=hm01
   clear hR1 hm01
   go_wp2_with fail
   refine (diff_any _ _ m l 0 0 w1 (owns_mod hU hm0 (fun _ _ f=>f)) (owns_mod hO hm0 (fun _ _ f=>f)) HDL.out.2.2.1 HDL.out.1 HLE.out.1 HLE.out.2 (by omega)).mono ?_
   rintro e w2 ⟨hm2,v2,l2,rfl,hO2,hd2,ht2,hv2,hl2⟩
   have hs:=signed_any nc v2 l2 _ w2 hO2 hd2 ht2 (by omega)
   have HX:Hid (num9 nc l2=tot):=HS.out l2 hv2
   have hR2:=hm2.keep hR0 (fun f=>f)
   have hm2w:=hm0.trans hm2
   clear hO2 hd2 ht2 hv2 hm2
   go_wp2_with fail
   refine hs.mono ?_
   rintro e w3 ⟨hm3,nb3,v3,l3,rfl,hN3,hx3,hl3⟩
   have hR3:=hm3.keep hR2 (fun f=>f)
   obtain ⟨r0,r1⟩:=c2_of hR3
   have f0:=fz3 hR3 0
   have f1:=fz3 hR3 1
   obtain ⟨vo3,vcap3,rfl,-⟩:=owns_form hN3.2
   have HE:Hid _:=n9_end (x:=tot) (n:=mx) hR3 (by omega) (hm2w.trans hm3) hN3.2 hN3.1 (hx3.trans HX.out) (by omega)
   clear hR3 hm3 hN3 hx3 hs hR2 hm2w
   go_wp2_with fail
   obtain ⟨k1,q0,q1⟩:=HE.out
   unfold set2at at q0 q1
   exact bodyPost_ret (by simp [results,Tryz.results196,go_sem,q0,q1]) rfl k1
  ·have HS:Hid (∀ k:List Nat,v9 k=v9 l - v9 m→num9 nb k=num9 nb l+num9 nc m):=fun k h=>num9_more hne (by omega) h
   generalize num9 nb l+num9 nc m=tot at *
   have hld:decide (v9 l < v9 m)=false:=by simpa using hc
   rw [hld] at hlt
   have HLE:Hid (v9 m≤v9 l∧m.length≤l.length):=⟨by omega,v9_len HDL.out.1 HDL.out.2.2.2 (by omega)⟩
   clear hne hc hld
   go_enter Tryz.func196,Tryz.ntmps196
   go_wp2_with fail
   generalize (w.alloc (.cells #[.bool nb,.slice vo l.length vcap] 159)).alloc (.cells #[.bool false,.slice none 0 0] 159)=W at *
   obtain ⟨hA0,hR0,hm0⟩:=HH.out
   clear HH
   refine hlt.mono ?_
   rintro e w1 ⟨rfl,hm1⟩
   have hA1:=hm1.keep hA0 (fun f=>f)
   have hR1:=hm1.keep hR0 (fun f=>f)
   have hm01:=hm0.trans hm1
   obtain ⟨g0,g1⟩:=c2_of hA1
   have hd:=diff_any _ _ l m 0 0 w1.drew (owns_mod hO hm01.drew (fun _ _ f=>f)) (owns_mod hU hm01.drew (fun _ _ f=>f)) HDL.out.1 HDL.out.2.2.1 HLE.out.1 HLE.out.2 (by omega)
   clear hA0 hR0 hm0 hlt hm1
   go_wp2_with fail
   go_region_held3 (fun w'=>w'.cell? ⟨w.heap.size,0,none⟩=some (.bool nb)∧w'.cell? ⟨w.heap.size,1,none⟩=some (.slice vo l.length vcap))
    (first | go_keep | (exact hkeep) | (exact hkeep2))
    (first
     | (go_at_call 203;refine hd.mono ?_;rintro e w2 ⟨hm2,v2,l2,rfl,hO2,hd2,ht2,hv2,hl2⟩;have hkeep:=And.intro (hm2.cell (a:=w1.drew) g0) (hm2.cell (a:=w1.drew) g1))
     | (go_at_call 197;refine (signed_any nb v2 l2 _ w2 hO2 hd2 ht2 (by omega)).mono ?_;rintro e w3 ⟨hm3,nb3,v3,l3,rfl,hN3,hx3,hl3⟩;have hkeep:=And.intro (hm3.cell (hm2.cell (a:=w1.drew) g0)) (hm3.cell (hm2.cell (a:=w1.drew) g1));have hR3:=hm3.keep (hm2.keep (a:=w1.drew) hR1 (fun f=>f)) (fun f=>f);obtain ⟨r0,r1⟩:=c2_of hR3;have f0:=fz3 hR3 0;have f1:=fz3 hR3 1;obtain ⟨vo3,vcap3,rfl,-⟩:=owns_form hN3.2;have hkeep2:=And.intro ((set2_cell (w.heap.size+1) w3 (.bool nb3) (.slice vo3 l3.length vcap3) w.heap.size 0 (by omega)).trans hkeep.1) ((set2_cell (w.heap.size+1) w3 (.bool nb3) (.slice vo3 l3.length vcap3) w.heap.size 1 (by omega)).trans hkeep.2)))
   have HE:Hid _:=n9_end (x:=tot) (n:=mx) hR3 (by omega) ((hm01.drew.trans hm2).trans hm3) hN3.2 hN3.1 (hx3.trans (HS.out l2 hv2)) (by omega)
   clear hR3 hm3 hN3 hx3 hR1 hm01 hm2 hO2 hd2 ht2 hv2
   go_wp2_with fail
   obtain ⟨k1,q0,q1⟩:=HE.out
   unfold set2at at q0 q1
   exact bodyPost_ret (by simp [results,Tryz.results196,go_sem,q0,q1]) rfl k1
theorem Pu.num9_not (nb:Bool) (l:List Nat):num9 (!nb) l=-num9 nb l:=by cases nb <;> simp [num9]
set_option maxHeartbeats 800000 in
set_option maxRecDepth 4000 in
theorem add9_any (nb nc:Bool) (v u:Value) (l m:List Nat) (w:World) (hN:N9 w nb v l) (hU:N9 w nc u m) (ll:l.length≤40000) (lm:m.length≤40000) :
  Calls Tryz.prog 190 #[n9 nb v,n9 nc u] w (N9E w (num9 nb l+num9 nc m) (max l.length m.length+1)):=by
 obtain ⟨vo,vcap,rfl,-⟩:=owns_form hN.2
 obtain ⟨uo,ucap,rfl,-⟩:=owns_form hU.2
 obtain ⟨a1,a2,a3⟩:=alloc3_at w (.cells #[.bool nb,.slice vo l.length vcap] 159) (.cells #[.bool nc,.slice uo m.length ucap] 159) (.cells #[.bool false,.slice none 0 0] 159)
 have hm0:Mod (fun _=>False) w (((w.alloc (.cells #[.bool nb,.slice vo l.length vcap] 159)).alloc (.cells #[.bool nc,.slice uo m.length ucap] 159)).alloc (.cells #[.bool false,.slice none 0 0] 159)):=(((Mod.refl _ w).alloc _).alloc _).alloc _
 have hs:=sum_any nb nc (.slice vo l.length vcap) (.slice uo m.length ucap) l m _ (hN.mod hm0) (hU.mod hm0).2 hU.1.1 hU.1.2.1 ll lm
 have HT:Hid (num9 nb l+num9 nc m=num9 nb l+num9 nc m):=show _=_ by rfl
 rw [HT.out] at hs
 generalize num9 nb l+num9 nc m=tot at *
 generalize max l.length m.length+1=mx at *
 have HH:Hid _:=And.intro a3 hm0
 clear a1 a2 a3 hm0 hN hU HT
 go_enter Tryz.func190,Tryz.ntmps190
 go_wp2_with fail
 refine hs.mono ?_
 rintro e w3 ⟨hm3,nb3,v3,l3,rfl,hN3,hx3,hl3⟩
 obtain ⟨hR0,hm0⟩:=HH.out
 have hR3:=hm3.keep hR0 (fun f=>f)
 obtain ⟨r0,r1⟩:=c2_of hR3
 have f0:=fz3 hR3 0
 have f1:=fz3 hR3 1
 obtain ⟨vo3,vcap3,rfl,-⟩:=owns_form hN3.2
 have HE:Hid _:=n9_end (x:=tot) (n:=mx) hR3 (by omega) (hm0.trans hm3) hN3.2 hN3.1 hx3 hl3
 clear hR3 hm3 hN3 hx3 hs hR0 hm0 HH
 go_wp2_with fail
 obtain ⟨k1,q0,q1⟩:=HE.out
 unfold set2at at q0 q1
 exact bodyPost_ret (by simp [results,Tryz.results190,go_sem,q0,q1]) rfl k1
set_option maxHeartbeats 800000 in
set_option maxRecDepth 4000 in
theorem sub9_any (nb nc:Bool) (v u:Value) (l m:List Nat) (w:World) (hN:N9 w nb v l) (hU:N9 w nc u m) (ll:l.length≤40000) (lm:m.length≤40000) :
  Calls Tryz.prog 191 #[n9 nb v,n9 nc u] w (N9E w (num9 nb l - num9 nc m) (max l.length m.length+1)):=by
 obtain ⟨vo,vcap,rfl,-⟩:=owns_form hN.2
 obtain ⟨uo,ucap,rfl,-⟩:=owns_form hU.2
 obtain ⟨a1,a2,a3⟩:=alloc3_at w (.cells #[.bool nb,.slice vo l.length vcap] 159) (.cells #[.bool nc,.slice uo m.length ucap] 159) (.cells #[.bool false,.slice none 0 0] 159)
 have hm0:Mod (fun _=>False) w (((w.alloc (.cells #[.bool nb,.slice vo l.length vcap] 159)).alloc (.cells #[.bool nc,.slice uo m.length ucap] 159)).alloc (.cells #[.bool false,.slice none 0 0] 159)):=(((Mod.refl _ w).alloc _).alloc _).alloc _
 have hs:=sum_any nb (!nc) (.slice vo l.length vcap) (.slice uo m.length ucap) l m _ (hN.mod hm0) (hU.mod hm0).2 hU.1.1 hU.1.2.1 ll lm
 have HT:Hid (num9 nb l+num9 (!nc) m=num9 nb l - num9 nc m):=show _=_ by rw [num9_not];omega
 rw [HT.out] at hs
 generalize num9 nb l - num9 nc m=tot at *
 generalize max l.length m.length+1=mx at *
 have HH:Hid _:=And.intro a3 hm0
 clear a1 a2 a3 hm0 hN hU HT
 go_enter Tryz.func191,Tryz.ntmps191
 go_wp2_with fail
 refine hs.mono ?_
 rintro e w3 ⟨hm3,nb3,v3,l3,rfl,hN3,hx3,hl3⟩
 obtain ⟨hR0,hm0⟩:=HH.out
 have hR3:=hm3.keep hR0 (fun f=>f)
 obtain ⟨r0,r1⟩:=c2_of hR3
 have f0:=fz3 hR3 0
 have f1:=fz3 hR3 1
 obtain ⟨vo3,vcap3,rfl,-⟩:=owns_form hN3.2
 have HE:Hid _:=n9_end (x:=tot) (n:=mx) hR3 (by omega) (hm0.trans hm3) hN3.2 hN3.1 hx3 hl3
 clear hR3 hm3 hN3 hx3 hs hR0 hm0 HH
 go_wp2_with fail
 obtain ⟨k1,q0,q1⟩:=HE.out
 unfold set2at at q0 q1
 exact bodyPost_ret (by simp [results,Tryz.results191,go_sem,q0,q1]) rfl k1
set_option maxHeartbeats 1600000 in
set_option maxRecDepth 4000 in
theorem mul9_any (nb nc:Bool) (v u:Value) (l m:List Nat) (w:World) (hN:N9 w nb v l) (hU:N9 w nc u m) (ll:l.length≤40000) (lm:m.length≤40000) :
  Calls Tryz.prog 192 #[n9 nb v,n9 nc u] w (N9E w (num9 nb l*num9 nc m) (l.length+m.length)):=by
 obtain ⟨vo,vcap,rfl,-⟩:=owns_form hN.2
 obtain ⟨uo,ucap,rfl,-⟩:=owns_form hU.2
 obtain ⟨a1,a2,a3⟩:=alloc3_at w (.cells #[.bool nb,.slice vo l.length vcap] 159) (.cells #[.bool nc,.slice uo m.length ucap] 159) (.cells #[.bool false,.slice none 0 0] 159)
 have hm0:Mod (fun _=>False) w (((w.alloc (.cells #[.bool nb,.slice vo l.length vcap] 159)).alloc (.cells #[.bool nc,.slice uo m.length ucap] 159)).alloc (.cells #[.bool false,.slice none 0 0] 159)):=(((Mod.refl _ w).alloc _).alloc _).alloc _
 have HS:Hid (∀ k:List Nat,v9 k=v9 l*v9 m→num9 (nb != nc) k=num9 nb l*num9 nc m):=fun k h=>num9_mul h
 generalize num9 nb l*num9 nc m=tot at *
 have HH:Hid _:=And.intro a1 (And.intro a2 (And.intro a3 hm0))
 clear a1 a2 a3 hm0
 go_enter Tryz.func192,Tryz.ntmps192
 go_wp2_with fail
 generalize ((w.alloc (.cells #[.bool nb,.slice vo l.length vcap] 159)).alloc (.cells #[.bool nc,.slice uo m.length ucap] 159)).alloc (.cells #[.bool false,.slice none 0 0] 159)=W at *
 obtain ⟨a1,a2,hR0,hm0⟩:=HH.out
 obtain ⟨g0,g1⟩:=c2_of a1
 obtain ⟨h0,h1⟩:=c2_of a2
 have hp:=product_any (.slice vo l.length vcap) (.slice uo m.length ucap) l m 0 0 W.drew (owns_mod hN.2 hm0.drew (fun _ _ f=>f)) (owns_mod hU.2 hm0.drew (fun _ _ f=>f)) hN.1.1 hU.1.1 ll lm
 clear HH a1 a2 hN hU
 cases nb
 ·cases nc
  ·go_region_held3 (fun w'=>w'.cell? ⟨w.heap.size,0,none⟩=some (.bool false)∧w'.cell? ⟨w.heap.size,1,none⟩=some (.slice vo l.length vcap)∧w'.cell? ⟨w.heap.size+1,0,none⟩=some (.bool false)∧w'.cell? ⟨w.heap.size+1,1,none⟩=some (.slice uo m.length ucap))
    (first | go_keep | (exact hkeep) | (exact hkeep2))
    (first
     | (go_at_call 198;refine hp.mono ?_;rintro e w2 ⟨hm2,v2,l2,rfl,hO2,hd2,ht2,hv2,hl2⟩;have hkeep:=And.intro (hm2.cell (a:=W.drew) g0) (And.intro (hm2.cell (a:=W.drew) g1) (And.intro (hm2.cell (a:=W.drew) h0) (hm2.cell (a:=W.drew) h1))))
     | (go_at_call 197;refine (signed_any false v2 l2 _ w2 hO2 hd2 ht2 (by omega)).mono ?_;rintro e w3 ⟨hm3,nb3,v3,l3,rfl,hN3,hx3,hl3⟩;have hkeep:=And.intro (hm3.cell (hm2.cell (a:=W.drew) g0)) (And.intro (hm3.cell (hm2.cell (a:=W.drew) g1)) (And.intro (hm3.cell (hm2.cell (a:=W.drew) h0)) (hm3.cell (hm2.cell (a:=W.drew) h1))));have hR3:=hm3.keep (hm2.keep (a:=W.drew) hR0 (fun f=>f)) (fun f=>f);obtain ⟨r0,r1⟩:=c2_of hR3;have f0:=fz3 hR3 0;have f1:=fz3 hR3 1;obtain ⟨vo3,vcap3,rfl,-⟩:=owns_form hN3.2;have hkeep2:=And.intro ((set2_cell (w.heap.size+2) w3 (.bool nb3) (.slice vo3 l3.length vcap3) w.heap.size 0 (by omega)).trans hkeep.1) (And.intro ((set2_cell (w.heap.size+2) w3 (.bool nb3) (.slice vo3 l3.length vcap3) w.heap.size 1 (by omega)).trans hkeep.2.1) (And.intro ((set2_cell (w.heap.size+2) w3 (.bool nb3) (.slice vo3 l3.length vcap3) (w.heap.size+1) 0 (by omega)).trans hkeep.2.2.1) ((set2_cell (w.heap.size+2) w3 (.bool nb3) (.slice vo3 l3.length vcap3) (w.heap.size+1) 1 (by omega)).trans hkeep.2.2.2)))))
   have HE:Hid _:=n9_end (x:=tot) (n:=l.length+m.length) hR3 (by omega) ((hm0.drew.trans hm2).trans hm3) hN3.2 hN3.1 (hx3.trans (HS.out l2 hv2)) (by omega)
   clear hR3 hm3 hN3 hx3 hR0 hm0 hm2 hO2 hd2 ht2 hv2
   go_wp2_with fail
   obtain ⟨k1,q0,q1⟩:=HE.out
   unfold set2at at q0 q1
   exact bodyPost_ret (by simp [results,Tryz.results192,go_sem,q0,q1]) rfl k1
  ·go_region_held3 (fun w'=>w'.cell? ⟨w.heap.size,0,none⟩=some (.bool false)∧w'.cell? ⟨w.heap.size,1,none⟩=some (.slice vo l.length vcap)∧w'.cell? ⟨w.heap.size+1,0,none⟩=some (.bool true)∧w'.cell? ⟨w.heap.size+1,1,none⟩=some (.slice uo m.length ucap))
    (first | go_keep | (exact hkeep) | (exact hkeep2))
    (first
     | (go_at_call 198;refine hp.mono ?_;rintro e w2 ⟨hm2,v2,l2,rfl,hO2,hd2,ht2,hv2,hl2⟩;have hkeep:=And.intro (hm2.cell (a:=W.drew) g0) (And.intro (hm2.cell (a:=W.drew) g1) (And.intro (hm2.cell (a:=W.drew) h0) (hm2.cell (a:=W.drew) h1))))
     | (go_at_call 197;refine (signed_any true v2 l2 _ w2 hO2 hd2 ht2 (by omega)).mono ?_;rintro e w3 ⟨hm3,nb3,v3,l3,rfl,hN3,hx3,hl3⟩;have hkeep:=And.intro (hm3.cell (hm2.cell (a:=W.drew) g0)) (And.intro (hm3.cell (hm2.cell (a:=W.drew) g1)) (And.intro (hm3.cell (hm2.cell (a:=W.drew) h0)) (hm3.cell (hm2.cell (a:=W.drew) h1))));have hR3:=hm3.keep (hm2.keep (a:=W.drew) hR0 (fun f=>f)) (fun f=>f);obtain ⟨r0,r1⟩:=c2_of hR3;have f0:=fz3 hR3 0;have f1:=fz3 hR3 1;obtain ⟨vo3,vcap3,rfl,-⟩:=owns_form hN3.2;have hkeep2:=And.intro ((set2_cell (w.heap.size+2) w3 (.bool nb3) (.slice vo3 l3.length vcap3) w.heap.size 0 (by omega)).trans hkeep.1) (And.intro ((set2_cell (w.heap.size+2) w3 (.bool nb3) (.slice vo3 l3.length vcap3) w.heap.size 1 (by omega)).trans hkeep.2.1) (And.intro ((set2_cell (w.heap.size+2) w3 (.bool nb3) (.slice vo3 l3.length vcap3) (w.heap.size+1) 0 (by omega)).trans hkeep.2.2.1) ((set2_cell (w.heap.size+2) w3 (.bool nb3) (.slice vo3 l3.length vcap3) (w.heap.size+1) 1 (by omega)).trans hkeep.2.2.2)))))
   have HE:Hid _:=n9_end (x:=tot) (n:=l.length+m.length) hR3 (by omega) ((hm0.drew.trans hm2).trans hm3) hN3.2 hN3.1 (hx3.trans (HS.out l2 hv2)) (by omega)
   clear hR3 hm3 hN3 hx3 hR0 hm0 hm2 hO2 hd2 ht2 hv2
   go_wp2_with fail
   obtain ⟨k1,q0,q1⟩:=HE.out
   unfold set2at at q0 q1
   exact bodyPost_ret (by simp [results,Tryz.results192,go_sem,q0,q1]) rfl k1
 ·cases nc
  ·go_region_held3 (fun w'=>w'.cell? ⟨w.heap.size,0,none⟩=some (.bool true)∧w'.cell? ⟨w.heap.size,1,none⟩=some (.slice vo l.length vcap)∧w'.cell? ⟨w.heap.size+1,0,none⟩=some (.bool false)∧w'.cell? ⟨w.heap.size+1,1,none⟩=some (.slice uo m.length ucap))
    (first | go_keep | (exact hkeep) | (exact hkeep2))
    (first
     | (go_at_call 198;refine hp.mono ?_;rintro e w2 ⟨hm2,v2,l2,rfl,hO2,hd2,ht2,hv2,hl2⟩;have hkeep:=And.intro (hm2.cell (a:=W.drew) g0) (And.intro (hm2.cell (a:=W.drew) g1) (And.intro (hm2.cell (a:=W.drew) h0) (hm2.cell (a:=W.drew) h1))))
     | (go_at_call 197;refine (signed_any true v2 l2 _ w2 hO2 hd2 ht2 (by omega)).mono ?_;rintro e w3 ⟨hm3,nb3,v3,l3,rfl,hN3,hx3,hl3⟩;have hkeep:=And.intro (hm3.cell (hm2.cell (a:=W.drew) g0)) (And.intro (hm3.cell (hm2.cell (a:=W.drew) g1)) (And.intro (hm3.cell (hm2.cell (a:=W.drew) h0)) (hm3.cell (hm2.cell (a:=W.drew) h1))));have hR3:=hm3.keep (hm2.keep (a:=W.drew) hR0 (fun f=>f)) (fun f=>f);obtain ⟨r0,r1⟩:=c2_of hR3;have f0:=fz3 hR3 0;have f1:=fz3 hR3 1;obtain ⟨vo3,vcap3,rfl,-⟩:=owns_form hN3.2;have hkeep2:=And.intro ((set2_cell (w.heap.size+2) w3 (.bool nb3) (.slice vo3 l3.length vcap3) w.heap.size 0 (by omega)).trans hkeep.1) (And.intro ((set2_cell (w.heap.size+2) w3 (.bool nb3) (.slice vo3 l3.length vcap3) w.heap.size 1 (by omega)).trans hkeep.2.1) (And.intro ((set2_cell (w.heap.size+2) w3 (.bool nb3) (.slice vo3 l3.length vcap3) (w.heap.size+1) 0 (by omega)).trans hkeep.2.2.1) ((set2_cell (w.heap.size+2) w3 (.bool nb3) (.slice vo3 l3.length vcap3) (w.heap.size+1) 1 (by omega)).trans hkeep.2.2.2)))))
   have HE:Hid _:=n9_end (x:=tot) (n:=l.length+m.length) hR3 (by omega) ((hm0.drew.trans hm2).trans hm3) hN3.2 hN3.1 (hx3.trans (HS.out l2 hv2)) (by omega)
   clear hR3 hm3 hN3 hx3 hR0 hm0 hm2 hO2 hd2 ht2 hv2
   go_wp2_with fail
   obtain ⟨k1,q0,q1⟩:=HE.out
   unfold set2at at q0 q1
   exact bodyPost_ret (by simp [results,Tryz.results192,go_sem,q0,q1]) rfl k1
  ·go_region_held3 (fun w'=>w'.cell? ⟨w.heap.size,0,none⟩=some (.bool true)∧w'.cell? ⟨w.heap.size,1,none⟩=some (.slice vo l.length vcap)∧w'.cell? ⟨w.heap.size+1,0,none⟩=some (.bool true)∧w'.cell? ⟨w.heap.size+1,1,none⟩=some (.slice uo m.length ucap))
    (first | go_keep | (exact hkeep) | (exact hkeep2))
    (first
     | (go_at_call 198;refine hp.mono ?_;rintro e w2 ⟨hm2,v2,l2,rfl,hO2,hd2,ht2,hv2,hl2⟩;have hkeep:=And.intro (hm2.cell (a:=W.drew) g0) (And.intro (hm2.cell (a:=W.drew) g1) (And.intro (hm2.cell (a:=W.drew) h0) (hm2.cell (a:=W.drew) h1))))
     | (go_at_call 197;refine (signed_any false v2 l2 _ w2 hO2 hd2 ht2 (by omega)).mono ?_;rintro e w3 ⟨hm3,nb3,v3,l3,rfl,hN3,hx3,hl3⟩;have hkeep:=And.intro (hm3.cell (hm2.cell (a:=W.drew) g0)) (And.intro (hm3.cell (hm2.cell (a:=W.drew) g1)) (And.intro (hm3.cell (hm2.cell (a:=W.drew) h0)) (hm3.cell (hm2.cell (a:=W.drew) h1))));have hR3:=hm3.keep (hm2.keep (a:=W.drew) hR0 (fun f=>f)) (fun f=>f);obtain ⟨r0,r1⟩:=c2_of hR3;have f0:=fz3 hR3 0;have f1:=fz3 hR3 1;obtain ⟨vo3,vcap3,rfl,-⟩:=owns_form hN3.2;have hkeep2:=And.intro ((set2_cell (w.heap.size+2) w3 (.bool nb3) (.slice vo3 l3.length vcap3) w.heap.size 0 (by omega)).trans hkeep.1) (And.intro ((set2_cell (w.heap.size+2) w3 (.bool nb3) (.slice vo3 l3.length vcap3) w.heap.size 1 (by omega)).trans hkeep.2.1) (And.intro ((set2_cell (w.heap.size+2) w3 (.bool nb3) (.slice vo3 l3.length vcap3) (w.heap.size+1) 0 (by omega)).trans hkeep.2.2.1) ((set2_cell (w.heap.size+2) w3 (.bool nb3) (.slice vo3 l3.length vcap3) (w.heap.size+1) 1 (by omega)).trans hkeep.2.2.2)))))
   have HE:Hid _:=n9_end (x:=tot) (n:=l.length+m.length) hR3 (by omega) ((hm0.drew.trans hm2).trans hm3) hN3.2 hN3.1 (hx3.trans (HS.out l2 hv2)) (by omega)
   clear hR3 hm3 hN3 hx3 hR0 hm0 hm2 hO2 hd2 ht2 hv2
   go_wp2_with fail
   obtain ⟨k1,q0,q1⟩:=HE.out
   unfold set2at at q0 q1
   exact bodyPost_ret (by simp [results,Tryz.results192,go_sem,q0,q1]) rfl k1
set_option maxHeartbeats 1600000 in
set_option maxRecDepth 4000 in
theorem small_any (n:Nat) (w:World) (hn:n < 16):Calls Tryz.prog 164 #[.int .i64 (n:Int)] w fun e w'=>e=.returned (.string (dec (n:Int)))∧w=w':=by
 have:n=0∨n=1∨n=2∨n=3∨n=4∨n=5∨n=6∨n=7∨n=8∨n=9∨n=10∨n=11∨n=12∨n=13∨n=14∨n=15:=by omega
 rcases this with rfl | rfl | rfl | rfl | rfl | rfl | rfl | rfl | rfl | rfl | rfl | rfl | rfl | rfl | rfl | rfl
 all_goals
  go_enter Tryz.func164,Tryz.ntmps164
  go_wp2_with fail
  go_ret
  exact ⟨by rfl,rfl⟩
theorem itoa_any (n:Nat) (w:World) (hn:n < 16):Calls Tryz.prog 35 #[.int .i64 (n:Int)] w fun e w'=>e=.returned (.string (dec (n:Int)))∧w=w':=by
 have hs:=fun w=>small_any n w hn
 generalize dec (n:Int)=dn at *
 have h1:Calls Tryz.prog 111 #[.int .i64 (n:Int),.int .i64 10] w fun e w'=>e=.returned (.string dn)∧w=w':=by
  have q1:(0:Int)≤(n:Int):=by omega
  have q2:(n:Int) < 100:=by omega
  go_enter Tryz.func111,Tryz.ntmps111
  go_wp2_with (go_at_call 164;refine (hs _).mono ?_;rintro e w1 ⟨rfl,rfl⟩)
  go_ret
  exact ⟨rfl,rfl⟩
 have h2:Calls Tryz.prog 65 #[.int .i64 (n:Int)] w fun e w'=>e=.returned (.string dn)∧w=w':=by
  go_enter Tryz.func65,Tryz.ntmps65
  go_wp2_with (go_at_call 111;refine h1.mono ?_;rintro e w1 ⟨rfl,rfl⟩)
  go_ret
  exact ⟨rfl,rfl⟩
 go_enter Tryz.func35,Tryz.ntmps35
 go_wp2_with (go_at_call 65;refine h2.mono ?_;rintro e w1 ⟨rfl,rfl⟩)
 go_ret
 exact ⟨rfl,rfl⟩
def RepEnd (w:World) (base:Nat) (rv:Value) (bs:List UInt8) (e:Ending) (w':World):Prop :=
 Mod (fun q=>rv.ownBlock=some q) w w'∧∃ v',e=.returned v'∧w'.ownsRow base 5 1 v' bs.length (bvs bs)
set_option maxHeartbeats 800000 in
set_option maxRecDepth 4000 in
theorem answer_any (rv:Value) (bs:List UInt8) (so:Bool) (base:Nat) (w:World) (hO:w.ownsRow base 5 1 rv bs.length (bvs bs)) (hl:bs.length≤10000) (hb:base≤w.heap.size) :
  Calls Tryz.prog 161 #[rv,.bool so] w (RepEnd w base rv (bs++[if so then 49 else 48])):=by
 obtain ⟨i0,hii,hz0,hz1,hz2⟩:=info_parts Tryz.info5
 obtain ⟨ro,rcap,rfl,-⟩:=owns_form hO
 cases so
 ·go_enter Tryz.func161,Tryz.ntmps161
  go_wp2_with (at_builtin;refine wpList_append_own _ rfl _ _ 75 rfl base 5 i0 _ 1 1 Tryz.underlying75 hii hz0 hz1 hz2 rfl (by decide) _ _ _ rfl (hO.alloc _) ⟨w.heap.size,0,none⟩ 1 1 [.int .u8 48] rfl rfl ?c1 ?c2 ?c3 ?c4 ?c5 ?_)
  case c1=>exact World.news_of_block (cs:=#[.int .u8 48]) (t:=5) (fr:=(0,0)) (heap_alloc_new w _)
  case c2=>simp [Value.oneCell']
  case c3=>unfold maxLen;omega
  case c4=>omega
  case c5=>simp;omega
  intro v' w4 hown4 hgrow _
  have hgm:Mod (fun q=>(Value.slice ro bs.length rcap).ownBlock=some q) w w4:=((Mod.refl _ w).alloc _).grown hgrow (fun i hi _=>hi)
  have HO4:Hid (w4.ownsRow base 5 1 v' (bs++[48]).length (bvs (bs++[48]))):=show w4.ownsRow _ _ _ _ _ _ by
   rw [← bvs_snoc];simpa using hown4
  clear hown4 hgrow hO
  go_wp2_with fail
  go_ret
  exact ⟨hgm,_,rfl,HO4.out⟩
 ·go_enter Tryz.func161,Tryz.ntmps161
  go_wp2_with (at_builtin;refine wpList_append_own _ rfl _ _ 75 rfl base 5 i0 _ 1 1 Tryz.underlying75 hii hz0 hz1 hz2 rfl (by decide) _ _ _ rfl (hO.alloc _) ⟨w.heap.size,0,none⟩ 1 1 [.int .u8 49] rfl rfl ?c1 ?c2 ?c3 ?c4 ?c5 ?_)
  case c1=>exact World.news_of_block (cs:=#[.int .u8 49]) (t:=5) (fr:=(0,0)) (heap_alloc_new w _)
  case c2=>simp [Value.oneCell']
  case c3=>unfold maxLen;omega
  case c4=>omega
  case c5=>simp;omega
  intro v' w4 hown4 hgrow _
  have hgm:Mod (fun q=>(Value.slice ro bs.length rcap).ownBlock=some q) w w4:=((Mod.refl _ w).alloc _).grown hgrow (fun i hi _=>hi)
  have HO4:Hid (w4.ownsRow base 5 1 v' (bs++[49]).length (bvs (bs++[49]))):=show w4.ownsRow _ _ _ _ _ _ by
   rw [← bvs_snoc];simpa using hown4
  clear hown4 hgrow hO
  go_wp2_with fail
  go_ret
  exact ⟨hgm,_,rfl,HO4.out⟩
set_option maxHeartbeats 800000 in
set_option maxRecDepth 4000 in
theorem addstop_any (rv:Value) (bs:List UInt8) (c:UInt8) (n:Nat) (base:Nat) (w:World) (hO:w.ownsRow base 5 1 rv bs.length (bvs bs)) (hl:bs.length≤10000) (hb:base≤w.heap.size) (hn:n < 16) :
  Calls Tryz.prog 180 #[rv,.int .u8 (c.toNat:Int),.int .i64 (n:Int)] w fun e w'=>Mod (fun q=>base≤q) w w'∧∃ v',e=.returned v'∧w'.ownsRow base 5 1 v' (bs++[c]++(dec (n:Int)).data.toList).length (bvs (bs++[c]++(dec (n:Int)).data.toList)):=by
 obtain ⟨i0,hii,hz0,hz1,hz2⟩:=info_parts Tryz.info5
 obtain ⟨ro,rcap,rfl,-⟩:=owns_form hO
 have hit:=fun w=>itoa_any n w hn
 have hds:=dec_size (n:Int)
 generalize dec (n:Int)=dn at *
 have hc8:=c.toNat_lt
 go_enter Tryz.func180,Tryz.ntmps180
 go_wp2_with (at_builtin;refine wpList_append_own _ rfl _ _ 75 rfl base 5 i0 _ 1 1 Tryz.underlying75 hii hz0 hz1 hz2 rfl (by decide) _ _ _ rfl (hO.alloc _) ⟨w.heap.size,0,none⟩ 1 1 [.int .u8 (c.toNat:Int)] rfl rfl ?c1 ?c2 ?c3 ?c4 ?c5 ?_)
 case c1=>exact World.news_of_block (cs:=#[.int .u8 (c.toNat:Int)]) (t:=5) (fr:=(0,0)) (heap_alloc_new w _)
 case c2=>simp [Value.oneCell']
 case c3=>unfold maxLen;omega
 case c4=>omega
 case c5=>simp;omega
 intro v1 w1 hown1 hgrow1 _
 have hg1:Mod (fun q=>(Value.slice ro bs.length rcap).ownBlock=some q) w w1:=((Mod.refl _ w).alloc _).grown hgrow1 (fun i hi _=>hi)
 have hO1:w1.ownsRow base 5 1 v1 (bs.length+1) (bvs (bs++[c])):=by rw [← bvs_snoc];simpa using hown1
 obtain ⟨vo1,vcap1,rfl,-⟩:=owns_form hO1
 have hs1:=hg1.size
 clear hown1 hgrow1
 go_wp2_with (first
  | (go_at_call 35;refine (hit _).mono ?_;rintro e w2 ⟨rfl,rfl⟩)
  | (at_builtin;refine Go.Lib.wpList_append_own_string _ rfl _ _ 75 9 rfl base 5 i0 Tryz.underlying75 Tryz.underlying9 hii hz0 hz1 hz2 _ _ _ rfl hO1 dn rfl ?d1 ?d2 ?d3 ?_))
 case d1=>unfold maxLen;omega
 case d2=>omega
 case d3=>omega
 intro v2 w2 hown2 hgrow2 _
 have hg2:Mod (fun q=>(Value.slice vo1 (bs.length+1) vcap1).ownBlock=some q) w1 w2:=(Mod.refl _ w1).grown hgrow2 (fun i hi _=>hi)
 have HO2:Hid (w2.ownsRow base 5 1 v2 (bs++[c]++dn.data.toList).length (bvs (bs++[c]++dn.data.toList))):=show w2.ownsRow _ _ _ _ _ _ by
  have e1:(bs++[c]++dn.data.toList).length=bs.length+1+dn.size:=by
   have:dn.data.toList.length=dn.size:=by rw [Array.length_toList];rfl
   rw [List.length_append,this];simp
  have e2:bvs (bs++[c]++dn.data.toList)=bvs (bs++[c])++Go.Lib.strCells dn:=by simp [bvs,Go.Lib.strCells]
  rw [e1,e2];exact hown2
 have hmm:Mod (fun q=>base≤q) w w2:=(hg1.mono (fun q _ h=>(hO.lt q h).1)).trans (hg2.mono (fun q _ h=>(hO1.lt q h).1))
 clear hown2 hgrow2 hO hO1
 go_wp2_with fail
 go_ret
 exact ⟨hmm,_,rfl,HO2.out⟩
def Mc (w:World) (mb:Nat) (iv:Value) (R:List Int) (bs:List UInt8) (ended:Bool):Prop :=
 ∃ C:Array Value,w.heap[mb]?=some (.cells C 162 (0,0))∧C.size=515∧C[0]?=some iv∧C[514]?=some (.bool ended) ∧
  (∃ rv,C[513]?=some rv∧w.ownsRow (mb+1) 5 1 rv bs.length (bvs bs)) ∧
  ∀ r,r < 256→∃ nx u a,C[1+r*2]?=some (.bool nx)∧C[1+r*2+1]?=some u∧N9 w nx u a∧num9 nx a=reg R r∧a.length≤889
theorem Mc.cell {w:World} {mb:Nat} {C:Array Value} {t:TypeId} (h:w.heap[mb]?=some (.cells C t (0,0))) (i:Nat):w.cell? ⟨mb,i,none⟩=C[i]?:=by simp only [World.cell?,h];simp
theorem Mc.mod {w w':World} {mb:Nat} {iv:Value} {R:List Int} {bs:List UInt8} {ended:Bool} (h:Mc w mb iv R bs ended) (hm:Mod (fun _=>False) w w'):Mc w' mb iv R bs ended:=by
 obtain ⟨C,h1,h2,h3,h4,⟨rv,h5,h6⟩,h7⟩:=h
 refine ⟨C,hm.keep h1 (fun f=>f),h2,h3,h4,⟨rv,h5,owns_mod h6 hm (fun _ _ f=>f)⟩,fun r hr=>?_⟩
 obtain ⟨nx,u,a,c0,c1,hN,hx,hl⟩:=h7 r hr
 exact ⟨nx,u,a,c0,c1,hN.mod hm,hx,hl⟩
theorem Mc.lt {w:World} {mb:Nat} {iv:Value} {R:List Int} {bs:List UInt8} {ended:Bool} (h:Mc w mb iv R bs ended):mb < w.heap.size:=by
 obtain ⟨C,h1,-⟩:=h
 exact lt_of_block h1
theorem Mc.fz {w:World} {mb:Nat} {iv:Value} {R:List Int} {bs:List UInt8} {ended:Bool} (h:Mc w mb iv R bs ended) (i:Nat):w.frozen? ⟨mb,i,none⟩=false:=by
 obtain ⟨C,h1,-⟩:=h
 exact fz3 h1 i
theorem Mc.iv {w:World} {mb:Nat} {iv:Value} {R:List Int} {bs:List UInt8} {ended:Bool} (h:Mc w mb iv R bs ended):w.cell? ⟨mb,0,none⟩=some iv:=by
 obtain ⟨C,h1,-,h3,-⟩:=h
 rw [Mc.cell h1];exact h3
theorem Mc.regs {w:World} {mb:Nat} {iv:Value} {R:List Int} {bs:List UInt8} {ended:Bool} (h:Mc w mb iv R bs ended) {r:Nat} (hr:r < 256) :
  ∃ nx ao n cap a,w.cell? ⟨mb,1+r*2,none⟩=some (.bool nx)∧w.cell? ⟨mb,1+r*2+1,none⟩=some (.slice ao n cap)∧N9 w nx (.slice ao n cap) a∧num9 nx a=reg R r∧a.length≤889:=by
 obtain ⟨C,h1,-,-,-,-,h7⟩:=h
 obtain ⟨nx,u,a,c0,c1,hN,hx,hl⟩:=h7 r hr
 obtain ⟨ao,cap,rfl,-⟩:=owns_form hN.2
 exact ⟨nx,ao,a.length,cap,a,by rw [Mc.cell h1];exact c0,by rw [Mc.cell h1];exact c1,hN,hx,hl⟩
set_option maxHeartbeats 800000 in
set_option maxRecDepth 4000 in
theorem minput_any (mb y gi n icap:Nat) (x:Int) (R:List Int) (bs:List UInt8) (ended:Bool) (w:World) (hM:Mc w mb (.slice (some ⟨gi,0,none⟩) n icap) R bs ended) (hy:y < n) (hy2:y < 256) (_hn:n≤1000) (cx:w.cell? ⟨gi,y,none⟩=some (.int .i64 x)) (h1:-100 < x) (h2:x < 100) :
  Calls Tryz.prog 188 #[.pointer (some ⟨mb,0,none⟩),.int .u8 (y:Int)] w (N9E w x 3):=by
 have hR0:=heap_alloc_new w (.cells #[.bool false,.slice none 0 0] 159)
 have hm0:Mod (fun _=>False) w (w.alloc (.cells #[.bool false,.slice none 0 0] 159)):=(Mod.refl _ w).alloc _
 have c0:=hM.iv
 have hlt:=hM.lt
 have w1:IntKind.i64.wrap (y:Int)=(y:Int):=by simp [IntKind.wrap,IntKind.signed,IntKind.bits];omega
 have q1:¬ (n:Int)≤(y:Int):=by omega
 have q2:(y:Int) < (n:Int):=by omega
 have hgl:gi < w.heap.size:=World.block_lt_of_cell? w _ cx
 have HH:Hid _:=And.intro hR0 hm0
 clear hR0 hm0 hM
 go_enter Tryz.func188,Tryz.ntmps188
 go_wp2_with fail
 obtain ⟨hR0,hm0⟩:=HH.out
 generalize w.alloc (.cells #[.bool false,.slice none 0 0] 159)=W at *
 refine (fromint_any x W (by omega) (by omega)).mono ?_
 rintro e w3 ⟨hm3,nb3,v3,l3,rfl,hN3,hx3,hl3⟩
 have hR3:=hm3.keep hR0 (fun f=>f)
 obtain ⟨r0,r1⟩:=c2_of hR3
 have f0:=fz3 hR3 0
 have f1:=fz3 hR3 1
 obtain ⟨vo3,vcap3,rfl,-⟩:=owns_form hN3.2
 have HE:Hid _:=n9_end (x:=x) (n:=3) hR3 (Nat.le_refl _) (hm0.trans hm3) hN3.2 hN3.1 hx3 hl3
 clear hR3 hm3 hN3 hx3 hR0 hm0 HH
 go_wp2_with fail
 obtain ⟨k1,q0,q1⟩:=HE.out
 unfold set2at at q0 q1
 exact bodyPost_ret (by simp [results,Tryz.results188,go_sem,q0,q1]) rfl k1
theorem st_new (w:World) (t:Stp):(w.alloc (.cells #[.int .u8 t.op,.int .u8 t.x,.int .u8 t.y,.int .u8 t.z] 107)).heap[w.heap.size]?=some (.cells #[.int .u8 t.op,.int .u8 t.x,.int .u8 t.y,.int .u8 t.z] 107 (0,0)):=heap_alloc_new w _
set_option maxHeartbeats 1600000 in
set_option maxRecDepth 4000 in
theorem mval_add (t:Stp) (mb:Nat) (iv:Value) (R:List Int) (bs:List UInt8) (ended:Bool) (w:World) (hM:Mc w mb iv R bs ended) (hs:Small t) (hop:t.op=2) :
  Calls Tryz.prog 181 #[.pointer (some ⟨mb,0,none⟩),stV t] w (N9E w (reg R t.y+reg R t.z) 1800):=by
 obtain ⟨nx,ao,an,acap,a,cy0,cy1,hU,hxa,la⟩:=hM.regs hs.2.2.1
 obtain ⟨ny,bo,bn,bcap,b,cz0,cz1,hV,hxb,lb⟩:=hM.regs hs.2.2.2
 rw [← hxa,← hxb]
 have hlt:=hM.lt
 obtain ⟨s0,s1,s2,s3⟩:=hs
 obtain ⟨a1,a2⟩:=alloc2_at w (.cells #[.int .u8 t.op,.int .u8 t.x,.int .u8 t.y,.int .u8 t.z] 107) (.cells #[.bool false,.slice none 0 0] 159)
 have hm0:Mod (fun _=>False) w ((w.alloc (.cells #[.int .u8 t.op,.int .u8 t.x,.int .u8 t.y,.int .u8 t.z] 107)).alloc (.cells #[.bool false,.slice none 0 0] 159)):=((Mod.refl _ w).alloc _).alloc _
 have o0:((t.op:Int) == 0)=false:=beq_f (m:=0) (by omega)
 have o1:((t.op:Int) == 1)=false:=beq_f (m:=1) (by omega)
 have o2:((t.op:Int) == 2)=true:=beq_t (m:=2) (by omega)
 have o3:((t.op:Int) == 3)=false:=beq_f (m:=3) (by omega)
 have o4:((t.op:Int) == 4)=false:=beq_f (m:=4) (by omega)
 have iy:(t.y:Int) < 256:=by omega
 have iz:(t.z:Int) < 256:=by omega
 have hU0:=hU.mod hm0
 have hV0:=hV.mod hm0
 have d0:=hm0.cell cy0
 have d1:=hm0.cell cy1
 have d2:=hm0.cell cz0
 have d3:=hm0.cell cz1
 obtain ⟨e0,e1,e2,e3⟩:=cells4 a1
 have HH:Hid _:=And.intro hU0 (And.intro hV0 (And.intro a2 hm0))
 have HC:Hid _:=And.intro d0 (And.intro d1 (And.intro d2 (And.intro d3 (And.intro e2 e3))))
 clear hU hV cy0 cy1 cz0 cz1 hM a1 a2 hm0 hU0 hV0 d0 d1 d2 d3 e0 e1 e2 e3 hop hxa hxb
 go_enter Tryz.func181,Tryz.ntmps181
 go_wp2_with fail
 generalize (w.alloc (.cells #[.int .u8 t.op,.int .u8 t.x,.int .u8 t.y,.int .u8 t.z] 107)).alloc (.cells #[.bool false,.slice none 0 0] 159)=W at *
 obtain ⟨hU0,hV0,hR0,hm0⟩:=HH.out
 obtain ⟨d0,d1,d2,d3,e2,e3⟩:=HC.out
 have hcall:=add9_any nx ny (.slice ao an acap) (.slice bo bn bcap) a b W.drew (hU0.mod (Mod.refl _ W).drew) (hV0.mod (Mod.refl _ W).drew) (by omega) (by omega)
 generalize num9 nx a+num9 ny b=tot at *
 clear HH HC hU0 hV0
 go_region_held3 (fun w'=>w'.cell? ⟨mb,1+t.y*2,none⟩=some (.bool nx)∧w'.cell? ⟨mb,1+t.y*2+1,none⟩=some (.slice ao an acap)∧w'.cell? ⟨mb,1+t.z*2,none⟩=some (.bool ny)∧w'.cell? ⟨mb,1+t.z*2+1,none⟩=some (.slice bo bn bcap)∧w'.cell? ⟨w.heap.size,2,none⟩=some (.int .u8 t.y)∧w'.cell? ⟨w.heap.size,3,none⟩=some (.int .u8 t.z))
  (first | go_keep | (exact hkeep) | (exact hkeep2))
  ((go_at_call 190;refine hcall.mono ?_;rintro e w3 ⟨hm3,nb3,v3,l3,rfl,hN3,hx3,hl3⟩;have hkeep:=And.intro (hm3.cell (a:=W.drew) d0) (And.intro (hm3.cell (a:=W.drew) d1) (And.intro (hm3.cell (a:=W.drew) d2) (And.intro (hm3.cell (a:=W.drew) d3) (And.intro (hm3.cell (a:=W.drew) e2) (hm3.cell (a:=W.drew) e3)))));have hR3:=hm3.keep (a:=W.drew) hR0 (fun f=>f);obtain ⟨r0,r1⟩:=c2_of hR3;have f0:=fz3 hR3 0;have f1:=fz3 hR3 1;obtain ⟨vo3,vcap3,rfl,-⟩:=owns_form hN3.2;have hkeep2:=And.intro ((set2_cell (w.heap.size+1) w3 (.bool nb3) (.slice vo3 l3.length vcap3) mb (1+t.y*2) (by omega)).trans hkeep.1) (And.intro ((set2_cell (w.heap.size+1) w3 (.bool nb3) (.slice vo3 l3.length vcap3) mb (1+t.y*2+1) (by omega)).trans hkeep.2.1) (And.intro ((set2_cell (w.heap.size+1) w3 (.bool nb3) (.slice vo3 l3.length vcap3) mb (1+t.z*2) (by omega)).trans hkeep.2.2.1) (And.intro ((set2_cell (w.heap.size+1) w3 (.bool nb3) (.slice vo3 l3.length vcap3) mb (1+t.z*2+1) (by omega)).trans hkeep.2.2.2.1) (And.intro ((set2_cell (w.heap.size+1) w3 (.bool nb3) (.slice vo3 l3.length vcap3) w.heap.size 2 (by omega)).trans hkeep.2.2.2.2.1) ((set2_cell (w.heap.size+1) w3 (.bool nb3) (.slice vo3 l3.length vcap3) w.heap.size 3 (by omega)).trans hkeep.2.2.2.2.2)))))))
 have HE:Hid _:=n9_end (x:=tot) (n:=1800) hR3 (by omega) (hm0.drew.trans hm3) hN3.2 hN3.1 hx3 (by have:max a.length b.length≤889:=Nat.max_le.2 ⟨la,lb⟩;omega)
 clear hR3 hm3 hN3 hx3 hR0 hm0
 go_wp2_with fail
 obtain ⟨k1,q0,q1⟩:=HE.out
 unfold set2at at q0 q1
 exact bodyPost_ret (by simp [results,Tryz.results181,go_sem,q0,q1]) rfl k1
set_option maxHeartbeats 1600000 in
set_option maxRecDepth 4000 in
theorem mval_sub (t:Stp) (mb:Nat) (iv:Value) (R:List Int) (bs:List UInt8) (ended:Bool) (w:World) (hM:Mc w mb iv R bs ended) (hs:Small t) (hop:t.op=3) :
  Calls Tryz.prog 181 #[.pointer (some ⟨mb,0,none⟩),stV t] w (N9E w (reg R t.y - reg R t.z) 1800):=by
 obtain ⟨nx,ao,an,acap,a,cy0,cy1,hU,hxa,la⟩:=hM.regs hs.2.2.1
 obtain ⟨ny,bo,bn,bcap,b,cz0,cz1,hV,hxb,lb⟩:=hM.regs hs.2.2.2
 rw [← hxa,← hxb]
 have hlt:=hM.lt
 obtain ⟨s0,s1,s2,s3⟩:=hs
 obtain ⟨a1,a2⟩:=alloc2_at w (.cells #[.int .u8 t.op,.int .u8 t.x,.int .u8 t.y,.int .u8 t.z] 107) (.cells #[.bool false,.slice none 0 0] 159)
 have hm0:Mod (fun _=>False) w ((w.alloc (.cells #[.int .u8 t.op,.int .u8 t.x,.int .u8 t.y,.int .u8 t.z] 107)).alloc (.cells #[.bool false,.slice none 0 0] 159)):=((Mod.refl _ w).alloc _).alloc _
 have o0:((t.op:Int) == 0)=false:=beq_f (m:=0) (by omega)
 have o1:((t.op:Int) == 1)=false:=beq_f (m:=1) (by omega)
 have o2:((t.op:Int) == 2)=false:=beq_f (m:=2) (by omega)
 have o3:((t.op:Int) == 3)=true:=beq_t (m:=3) (by omega)
 have o4:((t.op:Int) == 4)=false:=beq_f (m:=4) (by omega)
 have iy:(t.y:Int) < 256:=by omega
 have iz:(t.z:Int) < 256:=by omega
 have hU0:=hU.mod hm0
 have hV0:=hV.mod hm0
 have d0:=hm0.cell cy0
 have d1:=hm0.cell cy1
 have d2:=hm0.cell cz0
 have d3:=hm0.cell cz1
 obtain ⟨e0,e1,e2,e3⟩:=cells4 a1
 have HH:Hid _:=And.intro hU0 (And.intro hV0 (And.intro a2 hm0))
 have HC:Hid _:=And.intro d0 (And.intro d1 (And.intro d2 (And.intro d3 (And.intro e2 e3))))
 clear hU hV cy0 cy1 cz0 cz1 hM a1 a2 hm0 hU0 hV0 d0 d1 d2 d3 e0 e1 e2 e3 hop hxa hxb
 go_enter Tryz.func181,Tryz.ntmps181
 go_wp2_with fail
 generalize (w.alloc (.cells #[.int .u8 t.op,.int .u8 t.x,.int .u8 t.y,.int .u8 t.z] 107)).alloc (.cells #[.bool false,.slice none 0 0] 159)=W at *
 obtain ⟨hU0,hV0,hR0,hm0⟩:=HH.out
 obtain ⟨d0,d1,d2,d3,e2,e3⟩:=HC.out
 have hcall:=sub9_any nx ny (.slice ao an acap) (.slice bo bn bcap) a b W.drew (hU0.mod (Mod.refl _ W).drew) (hV0.mod (Mod.refl _ W).drew) (by omega) (by omega)
 generalize num9 nx a - num9 ny b=tot at *
 clear HH HC hU0 hV0
 go_region_held3 (fun w'=>w'.cell? ⟨mb,1+t.y*2,none⟩=some (.bool nx)∧w'.cell? ⟨mb,1+t.y*2+1,none⟩=some (.slice ao an acap)∧w'.cell? ⟨mb,1+t.z*2,none⟩=some (.bool ny)∧w'.cell? ⟨mb,1+t.z*2+1,none⟩=some (.slice bo bn bcap)∧w'.cell? ⟨w.heap.size,2,none⟩=some (.int .u8 t.y)∧w'.cell? ⟨w.heap.size,3,none⟩=some (.int .u8 t.z))
  (first | go_keep | (exact hkeep) | (exact hkeep2))
  ((go_at_call 191;refine hcall.mono ?_;rintro e w3 ⟨hm3,nb3,v3,l3,rfl,hN3,hx3,hl3⟩;have hkeep:=And.intro (hm3.cell (a:=W.drew) d0) (And.intro (hm3.cell (a:=W.drew) d1) (And.intro (hm3.cell (a:=W.drew) d2) (And.intro (hm3.cell (a:=W.drew) d3) (And.intro (hm3.cell (a:=W.drew) e2) (hm3.cell (a:=W.drew) e3)))));have hR3:=hm3.keep (a:=W.drew) hR0 (fun f=>f);obtain ⟨r0,r1⟩:=c2_of hR3;have f0:=fz3 hR3 0;have f1:=fz3 hR3 1;obtain ⟨vo3,vcap3,rfl,-⟩:=owns_form hN3.2;have hkeep2:=And.intro ((set2_cell (w.heap.size+1) w3 (.bool nb3) (.slice vo3 l3.length vcap3) mb (1+t.y*2) (by omega)).trans hkeep.1) (And.intro ((set2_cell (w.heap.size+1) w3 (.bool nb3) (.slice vo3 l3.length vcap3) mb (1+t.y*2+1) (by omega)).trans hkeep.2.1) (And.intro ((set2_cell (w.heap.size+1) w3 (.bool nb3) (.slice vo3 l3.length vcap3) mb (1+t.z*2) (by omega)).trans hkeep.2.2.1) (And.intro ((set2_cell (w.heap.size+1) w3 (.bool nb3) (.slice vo3 l3.length vcap3) mb (1+t.z*2+1) (by omega)).trans hkeep.2.2.2.1) (And.intro ((set2_cell (w.heap.size+1) w3 (.bool nb3) (.slice vo3 l3.length vcap3) w.heap.size 2 (by omega)).trans hkeep.2.2.2.2.1) ((set2_cell (w.heap.size+1) w3 (.bool nb3) (.slice vo3 l3.length vcap3) w.heap.size 3 (by omega)).trans hkeep.2.2.2.2.2)))))))
 have HE:Hid _:=n9_end (x:=tot) (n:=1800) hR3 (by omega) (hm0.drew.trans hm3) hN3.2 hN3.1 hx3 (by have:max a.length b.length≤889:=Nat.max_le.2 ⟨la,lb⟩;omega)
 clear hR3 hm3 hN3 hx3 hR0 hm0
 go_wp2_with fail
 obtain ⟨k1,q0,q1⟩:=HE.out
 unfold set2at at q0 q1
 exact bodyPost_ret (by simp [results,Tryz.results181,go_sem,q0,q1]) rfl k1
set_option maxHeartbeats 1600000 in
set_option maxRecDepth 4000 in
theorem mval_mul (t:Stp) (mb:Nat) (iv:Value) (R:List Int) (bs:List UInt8) (ended:Bool) (w:World) (hM:Mc w mb iv R bs ended) (hs:Small t) (hop:t.op=4) :
  Calls Tryz.prog 181 #[.pointer (some ⟨mb,0,none⟩),stV t] w (N9E w (reg R t.y*reg R t.z) 1800):=by
 obtain ⟨nx,ao,an,acap,a,cy0,cy1,hU,hxa,la⟩:=hM.regs hs.2.2.1
 obtain ⟨ny,bo,bn,bcap,b,cz0,cz1,hV,hxb,lb⟩:=hM.regs hs.2.2.2
 rw [← hxa,← hxb]
 have hlt:=hM.lt
 obtain ⟨s0,s1,s2,s3⟩:=hs
 obtain ⟨a1,a2⟩:=alloc2_at w (.cells #[.int .u8 t.op,.int .u8 t.x,.int .u8 t.y,.int .u8 t.z] 107) (.cells #[.bool false,.slice none 0 0] 159)
 have hm0:Mod (fun _=>False) w ((w.alloc (.cells #[.int .u8 t.op,.int .u8 t.x,.int .u8 t.y,.int .u8 t.z] 107)).alloc (.cells #[.bool false,.slice none 0 0] 159)):=((Mod.refl _ w).alloc _).alloc _
 have o0:((t.op:Int) == 0)=false:=beq_f (m:=0) (by omega)
 have o1:((t.op:Int) == 1)=false:=beq_f (m:=1) (by omega)
 have o2:((t.op:Int) == 2)=false:=beq_f (m:=2) (by omega)
 have o3:((t.op:Int) == 3)=false:=beq_f (m:=3) (by omega)
 have o4:((t.op:Int) == 4)=true:=beq_t (m:=4) (by omega)
 have iy:(t.y:Int) < 256:=by omega
 have iz:(t.z:Int) < 256:=by omega
 have hU0:=hU.mod hm0
 have hV0:=hV.mod hm0
 have d0:=hm0.cell cy0
 have d1:=hm0.cell cy1
 have d2:=hm0.cell cz0
 have d3:=hm0.cell cz1
 obtain ⟨e0,e1,e2,e3⟩:=cells4 a1
 have HH:Hid _:=And.intro hU0 (And.intro hV0 (And.intro a2 hm0))
 have HC:Hid _:=And.intro d0 (And.intro d1 (And.intro d2 (And.intro d3 (And.intro e2 e3))))
 clear hU hV cy0 cy1 cz0 cz1 hM a1 a2 hm0 hU0 hV0 d0 d1 d2 d3 e0 e1 e2 e3 hop hxa hxb
 go_enter Tryz.func181,Tryz.ntmps181
 go_wp2_with fail
 generalize (w.alloc (.cells #[.int .u8 t.op,.int .u8 t.x,.int .u8 t.y,.int .u8 t.z] 107)).alloc (.cells #[.bool false,.slice none 0 0] 159)=W at *
 obtain ⟨hU0,hV0,hR0,hm0⟩:=HH.out
 obtain ⟨d0,d1,d2,d3,e2,e3⟩:=HC.out
 have hcall:=mul9_any nx ny (.slice ao an acap) (.slice bo bn bcap) a b W.drew (hU0.mod (Mod.refl _ W).drew) (hV0.mod (Mod.refl _ W).drew) (by omega) (by omega)
 generalize num9 nx a*num9 ny b=tot at *
 clear HH HC hU0 hV0
 go_region_held3 (fun w'=>w'.cell? ⟨mb,1+t.y*2,none⟩=some (.bool nx)∧w'.cell? ⟨mb,1+t.y*2+1,none⟩=some (.slice ao an acap)∧w'.cell? ⟨mb,1+t.z*2,none⟩=some (.bool ny)∧w'.cell? ⟨mb,1+t.z*2+1,none⟩=some (.slice bo bn bcap)∧w'.cell? ⟨w.heap.size,2,none⟩=some (.int .u8 t.y)∧w'.cell? ⟨w.heap.size,3,none⟩=some (.int .u8 t.z))
  (first | go_keep | (exact hkeep) | (exact hkeep2))
  ((go_at_call 192;refine hcall.mono ?_;rintro e w3 ⟨hm3,nb3,v3,l3,rfl,hN3,hx3,hl3⟩;have hkeep:=And.intro (hm3.cell (a:=W.drew) d0) (And.intro (hm3.cell (a:=W.drew) d1) (And.intro (hm3.cell (a:=W.drew) d2) (And.intro (hm3.cell (a:=W.drew) d3) (And.intro (hm3.cell (a:=W.drew) e2) (hm3.cell (a:=W.drew) e3)))));have hR3:=hm3.keep (a:=W.drew) hR0 (fun f=>f);obtain ⟨r0,r1⟩:=c2_of hR3;have f0:=fz3 hR3 0;have f1:=fz3 hR3 1;obtain ⟨vo3,vcap3,rfl,-⟩:=owns_form hN3.2;have hkeep2:=And.intro ((set2_cell (w.heap.size+1) w3 (.bool nb3) (.slice vo3 l3.length vcap3) mb (1+t.y*2) (by omega)).trans hkeep.1) (And.intro ((set2_cell (w.heap.size+1) w3 (.bool nb3) (.slice vo3 l3.length vcap3) mb (1+t.y*2+1) (by omega)).trans hkeep.2.1) (And.intro ((set2_cell (w.heap.size+1) w3 (.bool nb3) (.slice vo3 l3.length vcap3) mb (1+t.z*2) (by omega)).trans hkeep.2.2.1) (And.intro ((set2_cell (w.heap.size+1) w3 (.bool nb3) (.slice vo3 l3.length vcap3) mb (1+t.z*2+1) (by omega)).trans hkeep.2.2.2.1) (And.intro ((set2_cell (w.heap.size+1) w3 (.bool nb3) (.slice vo3 l3.length vcap3) w.heap.size 2 (by omega)).trans hkeep.2.2.2.2.1) ((set2_cell (w.heap.size+1) w3 (.bool nb3) (.slice vo3 l3.length vcap3) w.heap.size 3 (by omega)).trans hkeep.2.2.2.2.2)))))))
 have HE:Hid _:=n9_end (x:=tot) (n:=1800) hR3 (by omega) (hm0.drew.trans hm3) hN3.2 hN3.1 hx3 (by omega)
 clear hR3 hm3 hN3 hx3 hR0 hm0
 go_wp2_with fail
 obtain ⟨k1,q0,q1⟩:=HE.out
 unfold set2at at q0 q1
 exact bodyPost_ret (by simp [results,Tryz.results181,go_sem,q0,q1]) rfl k1
end Go.Proofs.YtmnfndpbblpjiaaGreatDoor

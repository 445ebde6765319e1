/- Who gave a name, on both sides. -/
import Derived.Test.YtmnfndpbblpjiaaGreatDoorZr19
import Derived.Test.YtmnfndpbblpjiaaGreatDoorZr26
namespace Go.Proofs.YtmnfndpbblpjiaaGreatDoor
open Go.RowKit Pu
set_option maxHeartbeats 800000 in
set_option maxRecDepth 100000 in
theorem giver_any (v:Value) (q:List It) (nm base:Nat) (w:World) (hq:q.length≤1000) (hL:Lst w base v q) :
  Calls Tryz.prog 92 #[v,.int .u8 nm] w fun e w'=>e=.returned (.int .i64 (gvI (q.map It.x) nm))∧w=w':=by
 obtain ⟨ao,cap,rfl,-⟩:=hL.form
 go_enter Tryz.func92,Tryz.ntmps92
 go_wp2
 go_loop [8] (fun i=>∃ k:Nat,k≤q.length∧i=.int .i64 k∧∀ j (hj:j < q.length),j < k→q[j].x.name≠nm) (fun i=>q.length - (intOf i).toNat)
 case atStart=>exact ⟨0,by omega,rfl,fun j hj h=>by omega⟩
 case round =>
  obtain ⟨k,hk,rfl,hn⟩:=hrel
  by_cases hlt:k < q.length
  ·obtain ⟨gb,rfl,c0,-⟩:=hL.cell hlt
   have HN:Hid (∀ j (hj:j < q.length),j < k→q[j].x.name≠nm):=hn
   clear hn
   by_cases he:q[k].x.name=nm
   ·have HE:Hid (q[k].x.name=nm):=he
    have hb:((q[k].x.name:Int) == (nm:Int))=true:=beq_t he
    clear he
    go_wp2
    go_ret
    exact ⟨by rw [gvI_some (k:=k) (by simpa using hlt) (by simpa using HE.out) (fun j hj=>by simpa using HN.out j (by omega) hj)];rfl,rfl⟩
   ·have hb:((q[k].x.name:Int) == (nm:Int))=false:=beq_f he
    go_wp2
    go_round
    case rel=>exact ⟨k+1,by omega,by go_num,fun j hj h=>by by_cases e:j=k;(· subst e;exact he);exact HN.out j hj (by omega)⟩
    case measure=>simp [intOf];omega
  ·have hks:k=q.length:=by omega
   subst hks
   go_wp2
   go_ret
   exact ⟨by rw [gvI_none (fun j hj=>by simpa using hn j (by simpa using hj) (by simpa using hj))];rfl,rfl⟩
theorem RLst.cell {w:World} {base:Nat} {ao:Option Addr} {cap:Nat} {l:List St} (h:RLst w base (.slice ao l.length cap) l) {j:Nat} (hj:j < l.length) :
  ∃ gb,ao=some ⟨gb,0,none⟩∧w.cell? ⟨gb,j*3,none⟩=some (.int .u8 l[j].name)∧w.cell? ⟨gb,j*3+1,none⟩=some (S l[j].word)∧w.cell? ⟨gb,j*3+2,none⟩=some (S l[j].args):=by
 unfold RLst at h
 obtain ⟨gb,rfl,h0⟩:=owns_cell h (j:=j*3+0) (by omega)
 have h1:=h.cellAt (j*3+1) (by omega)
 have h2:=h.cellAt (j*3+2) (by omega)
 rw [rcellsOf_at l j _ hj (by omega)] at h0 h1 h2
 exact ⟨gb,rfl,by simpa [rcells] using h0,by simpa [rcells] using h1,by simpa [rcells] using h2⟩
set_option maxHeartbeats 800000 in
set_option maxRecDepth 100000 in
theorem given_any (v:Value) (l:List St) (n nm base:Nat) (w:World) (hq:l.length≤1000) (hn:n≤l.length) (hL:RLst w base v l) :
  Calls Tryz.prog 114 #[v,.int .i64 n,.int .u8 nm] w fun e w'=>e=.returned (.int .i64 (gvI (l.take n) nm))∧w=w':=by
 obtain ⟨ao,cap,rfl,-⟩:=owns_form hL
 go_enter Tryz.func114,Tryz.ntmps114
 go_wp2
 go_loop [7] (fun i=>∃ k:Nat,k≤n∧i=.int .i64 k∧∀ j (hj:j < l.length),j < k→l[j].name≠nm) (fun i=>n - (intOf i).toNat)
 case atStart=>exact ⟨0,by omega,rfl,fun j hj h=>by omega⟩
 case round =>
  obtain ⟨k,hk,rfl,hN⟩:=hrel
  have HN:Hid (∀ j (hj:j < l.length),j < k→l[j].name≠nm):=hN
  clear hN
  by_cases hlt:k < n
  ·have hkl:k < l.length:=by omega
   obtain ⟨gb,rfl,c0,-⟩:=hL.cell hkl
   by_cases he:l[k].name=nm
   ·have HE:Hid (l[k].name=nm):=he
    have hb:((l[k].name:Int) == (nm:Int))=true:=beq_t he
    clear he
    go_wp2
    go_ret
    exact ⟨by rw [gvI_some (k:=k) (by simp;omega) (by simpa using HE.out) (fun j hj=>by simpa using HN.out j (by omega) hj)];rfl,rfl⟩
   ·have hb:((l[k].name:Int) == (nm:Int))=false:=beq_f he
    go_wp2
    go_round
    case rel=>exact ⟨k+1,by omega,by go_num,fun j hj h=>by by_cases e:j=k;(· subst e;exact he);exact HN.out j hj (by omega)⟩
    case measure=>simp [intOf];omega
  ·have hks:k=n:=by omega
   subst hks
   go_wp2
   go_ret
   exact ⟨by rw [gvI_none (fun j hj=>by simpa using HN.out j (by simp at hj;omega) (by simp at hj;omega))];rfl,rfl⟩
end Go.Proofs.YtmnfndpbblpjiaaGreatDoor

/- The program's judging of a statement: names, sorts, weight. -/
namespace Go.Proofs.YtmnfndpbblpjiaaGreatDoor
set_option linter.unusedVariables false
open Go.RowKit Pu
abbrev ag4 (nm:Nat) (wd:List UInt8) (av:Value) (wt:Int):Value:=.agg #[.int .u8 nm,S wd,av,.int .i64 wt]
def pq (q:List It):List (St × Nat):=q.map fun t=>(t.x,t.wt)
theorem sts_pq (q:List It):sts (pq q)=q.map It.x:=by simp [sts,pq]
set_option maxHeartbeats 400000 in
theorem isQuestion_any (nm:Nat) (wd:List UInt8) (av:Value) (wt:Int) (w:World) (hav:av.oneCell'=true) :
  Calls Tryz.prog 57 #[ag4 nm wd av wt] w fun e w'=>e=.returned (.bool (nm == 0))∧Mod (fun _=>False) w w':=by
 go_enter Tryz.func57,Tryz.ntmps57
 go_wp2
 go_ret
 exact ⟨by have:(nm == 0)=((nm:Int) == 0):=(by rw [Bool.eq_iff_iff];simp);rw [this];rfl,(Mod.refl _ w).alloc _⟩
theorem se_new (w:World) (nm:Nat) (wd:List UInt8) (av:Value) (wt:Int):Se (w.alloc (.cells #[.int .u8 nm,S wd,av,.int .i64 wt] 83)) w.heap.size nm wd av wt:=by
 unfold Se;show (w.heap.push _)[w.heap.size]?=_;simp
def tk (nm:Nat) (wd:List UInt8):List UInt8 × Bool:=if nm=0 then qT wd else cT wd
set_option maxHeartbeats 800000 in
theorem argumentSorts_any (nm:Nat) (wd:List UInt8) (av:Value) (wt:Int) (w:World) (hav:av.oneCell'=true) :
  Calls Tryz.prog 88 #[ag4 nm wd av wt] w fun e w'=>e=.returned (.tuple #[S (tk nm wd).1,.bool (tk nm wd).2])∧Mod (fun _=>False) w w':=by
 have hS:=se_new w nm wd av wt
 have hm0:Mod (fun _=>False) w (w.alloc (.cells #[.int .u8 nm,S wd,av,.int .i64 wt] 83)):=(Mod.refl _ w).alloc _
 by_cases h0:nm=0
 ·have HT:Hid (tk nm wd=qT wd):=show tk nm wd=qT wd by simp [tk,h0]
  have hb:(nm == 0)=true:=by simpa using h0
  clear h0
  go_enter Tryz.func88,Tryz.ntmps88
  go_wp2_with fail
  refine (isQuestion_any nm wd av wt _ hav).mono ?_
  rintro e w1 ⟨rfl,hm1⟩
  have c1:=(hS.keep hm1 (fun f=>f)).c1
  go_wp2_with fail
  refine (questionTakes_any _ _).mono ?_
  rintro e w2 ⟨rfl,rfl⟩
  go_wp2
  go_ret2
  exact ⟨by rw [HT.out];rfl,hm0.trans hm1⟩
 ·have HT:Hid (tk nm wd=cT wd):=show tk nm wd=cT wd by simp [tk,h0]
  have hb:(nm == 0)=false:=by simpa using h0
  go_enter Tryz.func88,Tryz.ntmps88
  go_wp2_with fail
  refine (isQuestion_any nm wd av wt _ hav).mono ?_
  rintro e w1 ⟨rfl,hm1⟩
  have c1:=(hS.keep hm1 (fun f=>f)).c1
  go_wp2_with fail
  refine (constructionTakes_any _ _).mono ?_
  rintro e w2 ⟨rfl,rfl⟩
  go_wp2
  go_ret2
  exact ⟨by rw [HT.out];rfl,hm0.trans hm1⟩
theorem owns_one {w:World} {base:Nat} {e:TypeId} {size:Nat} {v:Value} {n:Nat} {xs:List Value} (h:w.ownsRow base e size v n xs):v.oneCell'=true:=by
 obtain ⟨ao,cap,rfl,-⟩:=owns_form h;rfl
theorem args_cell {w:World} {base n:Nat} {ao:Option Addr} {cap:Nat} {ag:List UInt8} (h:w.ownsRow base 5 1 (.slice ao n cap) n (bvs ag)) (hn:n=ag.length) {k:Nat} (hk:k < ag.length) :
  ∃ gb,ao=some ⟨gb,0,none⟩∧w.cell? ⟨gb,k,none⟩=some (.int .u8 ag[k].toNat):=by
 subst hn
 obtain ⟨gb,rfl,hc⟩:=owns_cell h (j:=k) (by omega)
 exact ⟨gb,rfl,by rw [hc];simp [bvs,hk]⟩
theorem names_no {l:List St} {x:St} {k:Nat} (hk:k < x.args.length) (h:gvI l x.args[k].toNat=-1):namesOk l x=false:=by
 have:x.args.all (fun a=>gvI l a.toNat != -1)=false:=by
  rw [Bool.eq_false_iff,ne_eq,List.all_eq_true]
  intro H
  have:=H x.args[k] (List.getElem_mem hk)
  simp [h] at this
 simp [namesOk,this]
set_option maxHeartbeats 1600000 in
set_option maxRecDepth 100000 in
theorem namesFit_any (v:Value) (q:List It) (base:Nat) (x:St) (av:Value) (wt:Int) (w:World) (hq:q.length≤1000) (hal:x.args.length≤1000) (hL:Lst w base v q) (hA:w.ownsRow base 5 1 av x.args.length (bvs x.args)) :
  Calls Tryz.prog 89 #[v,ag4 x.name x.word av wt] w fun e w'=>e=.returned (.bool (namesOk (q.map It.x) x))∧Mod (fun _=>False) w w':=by
 have hS:=se_new w x.name x.word av wt
 have hm0:Mod (fun _=>False) w (w.alloc (.cells #[.int .u8 x.name,S x.word,av,.int .i64 wt] 83)):=(Mod.refl _ w).alloc _
 have hL1:=hL.mod hm0 (fun _ _ _ f=>f)
 have hA1:=owns_mod hA hm0 (fun _ _ f=>f)
 have hav:=owns_one hA
 obtain ⟨aa,acap,rfl,-⟩:=owns_form hA
 clear hL hA
 go_enter Tryz.func89,Tryz.ntmps89
 go_wp2
 generalize hW:w.alloc (.cells #[.int .u8 x.name,S x.word,.slice aa x.args.length acap,.int .i64 wt] 83)=W at *
 clear hW
 go_loop [10] (fun i=>∃ k:Nat,k≤x.args.length∧i=.int .i64 k∧∀ j (hj:j < x.args.length),j < k→gvI (q.map It.x) x.args[j].toNat≠-1) (fun i=>x.args.length - (intOf i).toNat)
 case atStart=>exact ⟨0,by omega,rfl,fun j hj h=>by omega⟩
 case round =>
  obtain ⟨k,hk,rfl,hN⟩:=hrel
  have HN:Hid (∀ j (hj:j < x.args.length),j < k→gvI (q.map It.x) x.args[j].toNat≠-1):=hN
  clear hN
  by_cases hlt:k < x.args.length
  ·obtain ⟨gb,rfl,ck⟩:=args_cell hA1 rfl hlt
   by_cases hg:gvI (q.map It.x) x.args[k].toNat=-1
   ·have HG:Hid (gvI (q.map It.x) x.args[k].toNat=-1):=hg
    have hb:(gvI (q.map It.x) x.args[k].toNat == -1)=true:=by rw [hg];rfl
    clear hg
    go_wp2_with fail
    refine (giver_any v q x.args[k].toNat base W hq hL1).mono ?_
    rintro e w2 ⟨rfl,rfl⟩
    go_wp2
    go_ret
    exact ⟨by rw [names_no hlt HG.out];rfl,hm0⟩
   ·have hb:(gvI (q.map It.x) x.args[k].toNat == -1)=false:=by rw [beq_eq_false_iff_ne];exact hg
    go_wp2_with fail
    refine (giver_any v q x.args[k].toNat base W hq hL1).mono ?_
    rintro e w2 ⟨rfl,rfl⟩
    go_wp2
    go_round
    case rel=>exact ⟨k+1,by omega,by go_num,fun j hj h=>by by_cases e:j=k;(· subst e;exact hg);exact HN.out j hj (by omega)⟩
    case measure=>simp [intOf];omega
  ·have hall:x.args.all (fun a=>gvI (q.map It.x) a.toNat != -1)=true:=by
    rw [List.all_eq_true];intro a ha;obtain ⟨j,hj,rfl⟩:=List.getElem_of_mem ha
    rw [bne_iff_ne];exact HN.out j hj (by omega)
   have HA:Hid (x.args.all (fun a=>gvI (q.map It.x) a.toNat != -1)=true):=hall
   clear hall
   have s0:=hS.c0
   have s1:=hS.c1
   have s2:=hS.c2
   have s3:=hS.c3
   by_cases h0:x.name=0
   ·have hb:(x.name == 0)=true:=by simpa using h0
    have HB:Hid (namesOk (q.map It.x) x=true):=show namesOk (q.map It.x) x=true by unfold namesOk;rw [HA.out];simp [h0]
    clear h0
    go_wp2_with fail
    refine (isQuestion_any x.name x.word _ wt _ hav).mono ?_
    rintro e w2 ⟨rfl,hm2⟩
    go_wp2
    go_ret
    exact ⟨by rw [HB.out];rfl,hm0.trans hm2⟩
   ·have hb:(x.name == 0)=false:=by simpa using h0
    have HB:Hid (namesOk (q.map It.x) x=(gvI (q.map It.x) x.name == -1)):=show namesOk (q.map It.x) x=(gvI (q.map It.x) x.name == -1) by unfold namesOk;rw [HA.out,hb];simp
    clear h0
    go_wp2_with fail
    refine (isQuestion_any x.name x.word _ wt _ hav).mono ?_
    rintro e w2 ⟨rfl,hm2⟩
    have c0:=(hS.keep hm2 (fun f=>f)).c0
    have hL2:=hL1.mod hm2 (fun _ _ _ f=>f)
    go_wp2_with fail
    refine (giver_any v q x.name base _ hq hL2).mono ?_
    rintro e w3 ⟨rfl,rfl⟩
    go_wp2
    go_ret
    exact ⟨by rw [HB.out];rfl,hm0.trans hm2⟩
end Go.Proofs.YtmnfndpbblpjiaaGreatDoor

/- The program's look at sorts, and its weighing. -/
namespace Go.Proofs.YtmnfndpbblpjiaaGreatDoor
open Go.RowKit Pu
theorem Lst.drewN {w:World} {base:Nat} {v:Value} {q:List It} (h:Lst w base v q) (n:Nat):Lst (w.drewN n) base v q:=h.mod (Mod.same n (fun _=>False) w) (fun _ _ _ f=>f)
theorem who_q {q:List It} {nm j:Nat} (hj:j < q.length) (h:gvI (q.map It.x) nm=(j:Int)):who (pq q) nm=some (q[j].x,q[j].wt):=by
 have:=who_of (p:=pq q) (nm:=nm) (k:=j) (by simpa [pq] using hj) (by rw [sts_pq];exact h)
 simpa [pq] using this
theorem given_q {q:List It} {nm:Nat} (h:gvI (q.map It.x) nm≠-1):∃ j,∃ hj:j < q.length,gvI (q.map It.x) nm=(j:Int)∧q[j].x.name=nm:=by
 obtain ⟨k,hk,h1,h2⟩:=given_lt (p:=pq q) (nm:=nm) (by rw [sts_pq];exact h)
 exact ⟨k,by simpa [pq] using hk,by rw [← sts_pq];exact h1,by simpa [pq] using h2⟩
theorem sorts_no {p:List (St × Nat)} {ag so:List UInt8} {k:Nat} (hk:k < ag.length) (hs:k < so.length) (h:¬ sG (argWord p ag[k].toNat)=so[k].toNat):sortsOkG p ag so=false:=by
 unfold sortsOkG
 rw [Bool.eq_false_iff,ne_eq,List.all_eq_true]
 intro H
 have:=H (ag[k],so[k]) (by rw [← List.getElem_zip (h:=by simp;omega)];exact List.getElem_mem _)
 exact h (by simpa using this)
theorem sorts_yes {p:List (St × Nat)} {ag so:List UInt8} (h:∀ j (hj:j < ag.length) (hs:j < so.length),sG (argWord p ag[j].toNat)=so[j].toNat):sortsOkG p ag so=true:=by
 unfold sortsOkG
 rw [List.all_eq_true]
 intro y hy
 obtain ⟨j,hj,rfl⟩:=List.getElem_of_mem hy
 have hj':j < min ag.length so.length:=by simpa using hj
 simpa using h j (by omega) (by omega)
set_option maxHeartbeats 1600000 in
set_option maxRecDepth 100000 in
theorem sortsFit_any (v:Value) (q:List It) (base:Nat) (x:St) (av:Value) (wt:Int) (so:List UInt8) (w:World) (hq:q.length≤1000) (hal:x.args.length≤1000) (hL:Lst w base v q) (hA:w.ownsRow base 5 1 av x.args.length (bvs x.args))
  (hg:∀ j (hj:j < x.args.length),gvI (q.map It.x) x.args[j].toNat≠-1) (hlen:x.args.length=so.length) :
  Calls Tryz.prog 90 #[v,ag4 x.name x.word av wt,S so] w fun e w'=>e=.returned (.bool (sortsOkG (pq q) x.args so))∧Mod (fun _=>False) w w':=by
 have hS:=se_new w x.name x.word av wt
 have hm0:Mod (fun _=>False) w (w.alloc (.cells #[.int .u8 x.name,S x.word,av,.int .i64 wt] 83)):=(Mod.refl _ w).alloc _
 have hL1:=hL.mod hm0 (fun _ _ _ f=>f)
 have hA1:=owns_mod hA hm0 (fun _ _ f=>f)
 have hav:=owns_one hA
 obtain ⟨aa,acap,rfl,-⟩:=owns_form hA
 obtain ⟨va,vcap,rfl,-⟩:=hL.form
 have HG:Hid (∀ j (hj:j < x.args.length),gvI (q.map It.x) x.args[j].toNat≠-1):=hg
 have HLen:Hid (x.args.length=so.length):=hlen
 clear hL hA hg hlen
 go_enter Tryz.func90,Tryz.ntmps90
 go_wp2
 go_loopw [13] (fun i wr=>∃ k:Nat,k≤x.args.length∧i=.int .i64 k∧Mod (fun _=>False) w wr∧Lst wr base (.slice va q.length vcap) q∧wr.ownsRow base 5 1 (.slice aa x.args.length acap) x.args.length (bvs x.args)∧∀ j (hj:j < x.args.length) (hs:j < so.length),j < k→sG (argWord (pq q) x.args[j].toNat)=so[j].toNat) (fun i _=>x.args.length - (intOf i).toNat)
 case atStart=>exact ⟨0,by omega,rfl,hm0,hL1,hA1,fun j hj hs h=>by omega⟩
 case round =>
  clear hm0 hL1 hA1 hS
  obtain ⟨k,hk,rfl,hm0,hL1,hA1,hN⟩:=hrel
  have HN:Hid (∀ j (hj:j < x.args.length) (hs:j < so.length),j < k→sG (argWord (pq q) x.args[j].toNat)=so[j].toNat):=hN
  clear hN
  by_cases hlt:k < x.args.length
  ·have hks:k < so.length:=by have:=HLen.out;omega
   obtain ⟨gb,rfl,ck⟩:=args_cell hA1 rfl hlt
   obtain ⟨j,hj,hgj,-⟩:=given_q (HG.out k hlt)
   obtain ⟨vb,rfl,-,cw,-⟩:=hL1.cell hj
   have hw:argWord (pq q) x.args[k].toNat=q[j].x.word:=by simp [argWord,who_q hj hgj]
   have HW:Hid (argWord (pq q) x.args[k].toNat=q[j].x.word):=hw
   have HJ:Hid (gvI (q.map It.x) x.args[k].toNat=(j:Int)):=hgj
   clear hw hgj
   have hj1:((j:Int) == -1)=false:=by rw [beq_eq_false_iff_ne];omega
   have hso:∀ h,(⟨so.toArray⟩:ByteArray)[k]'h=so[k]:=fun _=>rfl
   by_cases he:sG q[j].x.word=so[k].toNat
   ·have HE:Hid (sG q[j].x.word=so[k].toNat):=he
    have hb:((sG q[j].x.word:Int) != (so[k].toNat:Int))=false:=by rw [he];simp
    clear he
    go_wp2_with fail
    have hgv:=giver_any (.slice (some ⟨vb,0,none⟩) q.length vcap) q x.args[k].toNat base wr hq hL1
    rw [HJ.out] at hgv
    refine hgv.mono ?_
    rintro e w2 ⟨rfl,rfl⟩
    clear hgv
    go_wp2
    go_quiet ((go_at_call 145;exact Calls.quiet_of_same ((sortGiven_any _ _).mono fun _ _ h=>⟨h.1,h.2.symm⟩)))
    go_wp2
    go_roundw
    case rel=>exact ⟨k+1,by omega,by go_num,hm0.drewN _,hL1.drewN _,owns_drewN hA1 _,fun j hj hs h=>by by_cases e:j=k;(· subst e;rw [HW.out];exact HE.out);exact HN.out j hj hs (by omega)⟩
    case measure=>simp [intOf];omega
   ·have hb:((sG q[j].x.word:Int) != (so[k].toNat:Int))=true:=by rw [bne_iff_ne];omega
    go_wp2_with fail
    have hgv:=giver_any (.slice (some ⟨vb,0,none⟩) q.length vcap) q x.args[k].toNat base wr hq hL1
    rw [HJ.out] at hgv
    refine hgv.mono ?_
    rintro e w2 ⟨rfl,rfl⟩
    clear hgv
    go_wp2
    go_quiet ((go_at_call 145;exact Calls.quiet_of_same ((sortGiven_any _ _).mono fun _ _ h=>⟨h.1,h.2.symm⟩)))
    go_wp2
    go_ret
    exact ⟨by rw [sorts_no hlt hks (by rw [HW.out];exact he)];rfl,hm0.drewN _⟩
  ·go_wp2
   go_ret
   exact ⟨by rw [sorts_yes (fun j hj hs=>HN.out j hj hs (by omega))];rfl,hm0⟩
theorem take_snoc' {α:Type} (l:List α) (k:Nat) (h:k < l.length):l.take (k+1)=l.take k++[l[k]]:=by
 rw [List.take_succ_eq_append_getElem h]
set_option maxHeartbeats 1600000 in
set_option maxRecDepth 100000 in
theorem weigh_any (v:Value) (q:List It) (base:Nat) (x:St) (av:Value) (wt:Int) (w:World) (hq:q.length≤1000) (hal:x.args.length≤4) (hL:Lst w base v q) (hA:w.ownsRow base 5 1 av x.args.length (bvs x.args))
  (hg:∀ j (hj:j < x.args.length),gvI (q.map It.x) x.args[j].toNat≠-1) (hok:Ok (pq q)) :
  Calls Tryz.prog 91 #[v,ag4 x.name x.word av wt] w fun e w'=>e=.returned (.int .i64 (wgh (pq q) x))∧Mod (fun _=>False) w w':=by
 have hS:=se_new w x.name x.word av wt
 have hm0:Mod (fun _=>False) w (w.alloc (.cells #[.int .u8 x.name,S x.word,av,.int .i64 wt] 83)):=(Mod.refl _ w).alloc _
 have hL1:=hL.mod hm0 (fun _ _ _ f=>f)
 have hA1:=owns_mod hA hm0 (fun _ _ f=>f)
 have hav:=owns_one hA
 obtain ⟨aa,acap,rfl,-⟩:=owns_form hA
 obtain ⟨va,vcap,rfl,-⟩:=hL.form
 have HG:Hid (∀ j (hj:j < x.args.length),gvI (q.map It.x) x.args[j].toNat≠-1):=hg
 have HO:Hid (Ok (pq q)):=hok
 clear hL hA hg hok
 by_cases h0:x.name=0
 ·have hb:(x.name == 0)=true:=by simpa using h0
  have HB:Hid (wgh (pq q) x=0):=show wgh (pq q) x=0 by simp [wgh,h0]
  clear h0
  go_enter Tryz.func91,Tryz.ntmps91
  go_wp2_with fail
  refine (isQuestion_any x.name x.word _ wt _ hav).mono ?_
  rintro e w2 ⟨rfl,hm2⟩
  go_wp2
  go_ret
  exact ⟨by rw [HB.out];rfl,hm0.trans hm2⟩
 ·have hb:(x.name == 0)=false:=by simpa using h0
  have HB:Hid (wgh (pq q) x=wG x.word (sumW (pq q) x.args) (lastW (pq q) x.args)):=show wgh (pq q) x=wG x.word (sumW (pq q) x.args) (lastW (pq q) x.args) by simp [wgh,h0]
  clear h0
  go_enter Tryz.func91,Tryz.ntmps91
  go_wp2_with fail
  refine (isQuestion_any x.name x.word _ wt _ hav).mono ?_
  rintro e W ⟨rfl,hm2⟩
  have hS2:=hS.keep hm2 (fun f=>f)
  have hL2:=hL1.mod hm2 (fun _ _ _ f=>f)
  have hA2:=owns_mod hA1 hm2 (fun _ _ f=>f)
  have hm3:=hm0.trans hm2
  clear hm0 hm2 hS hL1 hA1
  have s1:=hS2.c1
  have s2:=hS2.c2
  go_wp2
  go_loop [5,6,15] (fun a b i=>∃ k:Nat,k≤x.args.length∧i=.int .i64 k∧a=.int .i64 (sumW (pq q) (x.args.take k))∧b=.int .i64 (lastW (pq q) (x.args.take k))) (fun _ _ i=>x.args.length - (intOf i).toNat)
  case atStart=>exact ⟨0,by omega,rfl,rfl,rfl⟩
  case round =>
   obtain ⟨k,hk,rfl,rfl,rfl⟩:=hrel
   have b1:=HO.out.sumW (x.args.take k)
   have b2:=HO.out.lastW (x.args.take k)
   have b3:(x.args.take k).length≤k:=List.length_take_le _ _
   by_cases hlt:k < x.args.length
   ·have HT:Hid (x.args.take (k+1)=x.args.take k++[x.args[k]]):=take_snoc' _ _ hlt
    obtain ⟨gb,rfl,ck⟩:=args_cell hA2 rfl hlt
    obtain ⟨j,hj,hgj,-⟩:=given_q (HG.out k hlt)
    obtain ⟨vb,rfl,-,-,-,cw⟩:=hL2.cell hj
    have HW:Hid (argW (pq q) x.args[k].toNat=q[j].wt):=show argW (pq q) x.args[k].toNat=q[j].wt by simp [argW,who_q hj hgj]
    have hwb:q[j].wt≤64:=by have:=HO.out.argW x.args[k].toNat;rw [HW.out] at this;exact this
    have HJ:Hid (gvI (q.map It.x) x.args[k].toNat=(j:Int)):=hgj
    clear hgj
    have hj1:((j:Int) != -1)=true:=by rw [bne_iff_ne];omega
    go_wp2_with fail
    have hgv:=giver_any (.slice (some ⟨vb,0,none⟩) q.length vcap) q x.args[k].toNat base W hq hL2
    rw [HJ.out] at hgv
    refine hgv.mono ?_
    rintro e w2 ⟨rfl,rfl⟩
    clear hgv
    go_wp2
    go_round
    case rel=>exact ⟨k+1,by omega,by go_num,by rw [HT.out,sumW_snoc,HW.out];go_num,by rw [HT.out,lastW_snoc,HW.out]⟩
    case measure=>simp [intOf];omega
   ·have hkl:k=x.args.length:=by omega
    subst hkl
    rw [List.take_length] at b1 b2 ⊢
    clear b3
    go_wp2_with fail
    refine (weightGiven_any _ _ _ _ (by omega) (by omega)).mono ?_
    rintro e w2 ⟨rfl,rfl⟩
    go_wp2
    go_ret
    exact ⟨by rw [HB.out];rfl,hm3⟩
def jw (p:List (St × Nat)) (x:St):Nat:=if err p x=0 then wgh p x else 0
theorem jw_no {p:List (St × Nat)} {x:St} {n:Nat} (h:err p x=n+1):jw p x=0:=by simp [jw,h]
theorem jw_yes {p:List (St × Nat)} {x:St} (h:err p x=0):jw p x=wgh p x:=by simp [jw,h]
theorem tk_known (x:St):(tk x.name x.word).2=known x∧(known x=true→(tk x.name x.word).1=(fm x.word).1):=by
 unfold tk known
 have h1:=qT_fm x.word
 have h2:=cT_fm x.word
 by_cases h0:x.name=0
 ·rw [if_pos h0]
  refine ⟨?_,fun h=>h1.2 ?_⟩
  ·rw [Bool.eq_iff_iff,h1.1];simp [h0];intro h;omega
  ·rw [h1.1];simp [h0] at h;exact h.2
 ·rw [if_neg h0]
  refine ⟨?_,fun h=>h2.2 ?_⟩
  ·rw [Bool.eq_iff_iff,h2.1];simp [h0];exact ⟨fun h=>⟨h.2,h.1⟩,fun h=>⟨h.2,h.1⟩⟩
  ·rw [h2.1];simp [h0] at h;exact ⟨h.2,h.1⟩
theorem names_each {l:List St} {x:St} (h:namesOk l x=true):∀ a∈x.args,gvI l a.toNat≠-1:=by
 unfold namesOk at h
 rw [Bool.and_eq_true,List.all_eq_true] at h
 intro a ha
 simpa using h.1 a ha
set_option maxHeartbeats 1600000 in
set_option maxRecDepth 100000 in
theorem judge_any (v:Value) (q:List It) (base:Nat) (x:St) (av:Value) (wt:Int) (w:World) (hq:q.length≤1000) (hal:x.args.length≤1000) (hL:Lst w base v q) (hA:w.ownsRow base 5 1 av x.args.length (bvs x.args))
  (hok:Ok (pq q)) (hz:∀ a∈x.args,a.toNat≠0) :
  Calls Tryz.prog 55 #[v,ag4 x.name x.word av wt] w fun e w'=>e=.returned (.tuple #[.int .i64 (jw (pq q) x:Int),.int .i64 (err (pq q) x)])∧Mod (fun _=>False) w w':=by
 have hS:=se_new w x.name x.word av wt
 have hm0:Mod (fun _=>False) w (w.alloc (.cells #[.int .u8 x.name,S x.word,av,.int .i64 wt] 83)):=(Mod.refl _ w).alloc _
 have hL1:=hL.mod hm0 (fun _ _ _ f=>f)
 have hA1:=owns_mod hA hm0 (fun _ _ f=>f)
 have hav:=owns_one hA
 obtain ⟨aa,acap,rfl,-⟩:=owns_form hA
 have HO:Hid (Ok (pq q)):=hok
 have HZ:Hid (∀ a∈x.args,a.toNat≠0):=hz
 have hk:=tk_known x
 have HK:Hid ((tk x.name x.word).2=known x):=hk.1
 have HK2:Hid (known x=true→(tk x.name x.word).1=(fm x.word).1):=hk.2
 clear hL hA hok hz hk
 cases hkn:known x with
 | false =>
  have HE:Hid (err (pq q) x=3):=show err (pq q) x=3 by simp [err,hkn]
  have hb:(tk x.name x.word).2=false:=by rw [HK.out,hkn]
  go_enter Tryz.func55,Tryz.ntmps55
  go_wp2_with fail
  refine (argumentSorts_any x.name x.word _ wt _ hav).mono ?_
  rintro e w2 ⟨rfl,hm2⟩
  go_wp2
  go_ret2
  exact ⟨by rw [jw_no HE.out,HE.out];rfl,hm0.trans hm2⟩
 | true =>
  have hb:(tk x.name x.word).2=true:=by rw [HK.out,hkn]
  have HTK:Hid (tk x.name x.word=((fm x.word).1,true)):=show tk x.name x.word=((fm x.word).1,true) by rw [← HK2.out hkn,← hb]
  have HKN:Hid (known x=true):=hkn
  clear hb HK HK2 hkn
  have hfl:=fm_len x.word
  have hAS:=argumentSorts_any x.name x.word (.slice aa x.args.length acap) wt (w.alloc (.cells #[.int .u8 x.name,S x.word,.slice aa x.args.length acap,.int .i64 wt] 83)) hav
  rw [HTK.out] at hAS
  clear HTK
  generalize hso:(fm x.word).1=so at *
  have HSO:Hid ((fm x.word).1=so):=hso
  clear hso
  simp only at hAS
  go_enter Tryz.func55,Tryz.ntmps55
  go_wp2_with fail
  refine hAS.mono ?_
  clear hAS
  rintro e w2 ⟨rfl,hm2⟩
  have hS2:=hS.keep hm2 (fun f=>f)
  have hL2:=hL1.mod hm2 (fun _ _ _ f=>f)
  have hA2:=owns_mod hA1 hm2 (fun _ _ f=>f)
  have hm:=hm0.trans hm2
  clear hm0 hm2 hS hL1 hA1
  have s0:=hS2.c0
  have s1:=hS2.c1
  have s2:=hS2.c2
  have s3:=hS2.c3
  by_cases hc:x.args.length=so.length
  ·have HC:Hid (x.args.length=so.length):=hc
   have hb:((x.args.length:Int) != (so.length:Int))=false:=by rw [hc];simp
   have hal4:x.args.length≤4:=by omega
   clear hc
   go_wp2_with fail
   refine (namesFit_any v q base x _ wt _ hq hal hL2 hA2).mono ?_
   rintro e w3 ⟨rfl,hm3⟩
   cases hn:namesOk (q.map It.x) x with
   | false =>
    have HE:Hid (err (pq q) x=5):=show err (pq q) x=5 by simp [err,HKN.out,HC.out,HSO.out,sts_pq,hn]
    go_wp2
    go_ret2
    exact ⟨by rw [jw_no HE.out,HE.out];rfl,hm.trans hm3⟩
   | true =>
    have HN:Hid (namesOk (q.map It.x) x=true):=hn
    clear hn
    have hS3:=hS2.keep hm3 (fun f=>f)
    have hL3:=hL2.mod hm3 (fun _ _ _ f=>f)
    have hA3:=owns_mod hA2 hm3 (fun _ _ f=>f)
    have hmm:=hm.trans hm3
    clear s0 s1 s2 s3 hm hm3 hS2 hL2 hA2
    have s0:=hS3.c0
    have s1:=hS3.c1
    have s2:=hS3.c2
    have s3:=hS3.c3
    go_wp2_with fail
    refine (sortsFit_any v q base x _ wt so _ hq hal hL3 hA3 (fun j hj=>names_each HN.out _ (List.getElem_mem hj)) HC.out).mono ?_
    rintro e w4 ⟨rfl,hm4⟩
    have HSS:Hid (sortsOkG (pq q) x.args so=sortsOk (pq q) x.args so):=sorts_same HO.out (fun a ha=>by rw [sts_pq];exact names_each HN.out a ha) HZ.out
    cases hs:sortsOkG (pq q) x.args so with
    | false =>
     have HE:Hid (err (pq q) x=6):=show err (pq q) x=6 by
      have h6:sortsOk (pq q) x.args so=false:=by rw [← HSS.out,hs]
      simp [err,HKN.out,HC.out,HSO.out,sts_pq,HN.out,h6]
     go_wp2
     go_ret2
     exact ⟨by rw [jw_no HE.out,HE.out];rfl,hmm.trans hm4⟩
    | true =>
     have h6:sortsOk (pq q) x.args so=true:=by rw [← HSS.out,hs]
     have H6:Hid (sortsOk (pq q) x.args so=true):=h6
     clear h6 hs HSS
     have hS4:=hS3.keep hm4 (fun f=>f)
     have hL4:=hL3.mod hm4 (fun _ _ _ f=>f)
     have hA4:=owns_mod hA3 hm4 (fun _ _ f=>f)
     have hm5:=hmm.trans hm4
     clear s0 s1 s2 s3 hmm hm4 hS3 hL3 hA3
     have s0:=hS4.c0
     have s1:=hS4.c1
     have s2:=hS4.c2
     have s3:=hS4.c3
     go_wp2_with fail
     refine (weigh_any v q base x _ wt _ hq hal4 hL4 hA4 (fun j hj=>names_each HN.out _ (List.getElem_mem hj)) HO.out).mono ?_
     rintro e w6 ⟨rfl,hm6⟩
     by_cases h64:64 < wgh (pq q) x
     ·have HE:Hid (err (pq q) x=7):=show err (pq q) x=7 by simp [err,HKN.out,HC.out,HSO.out,sts_pq,HN.out,H6.out,h64]
      go_wp2
      go_ret2
      exact ⟨by rw [jw_no HE.out,HE.out];rfl,hm5.trans hm6⟩
     ·have HE:Hid (err (pq q) x=0):=show err (pq q) x=0 by simp [err,HKN.out,HC.out,HSO.out,sts_pq,HN.out,H6.out,h64]
      go_wp2
      go_ret2
      exact ⟨by rw [jw_yes HE.out,HE.out];rfl,hm5.trans hm6⟩
  ·have hb:((x.args.length:Int) != (so.length:Int))=true:=by rw [bne_iff_ne];omega
   have HE:Hid (err (pq q) x=4):=show err (pq q) x=4 by simp [err,HKN.out,HSO.out,hc]
   go_wp2
   go_ret2
   exact ⟨by rw [jw_no HE.out,HE.out];rfl,hm⟩
def GoodSt (k:Nat) (x:St):Prop:=x.args.length≤k∧x.word.length≤k∧(∀ a∈x.args,a.toNat≠0)∧x.name < 256
theorem GoodSt.mono {k m:Nat} {x:St} (h:GoodSt k x) (hk:k≤m):GoodSt m x:=⟨by have:=h.1;omega,by have:=h.2.1;omega,h.2.2.1,h.2.2.2⟩
theorem ga_good (s:ByteArray) (k:Nat):(∀ x∈(gaA s k).l,GoodSt k x)∧GoodSt k (gaA s k).x:=by
 induction k with
 | zero=>simp [gaA,GoodSt]
 | succ k ih =>
  obtain ⟨h1,h2⟩:=ih
  have h1':∀ x∈(gaA s k).l,GoodSt (k+1) x:=fun x hx=>(h1 x hx).mono (by omega)
  have h2':=h2.mono (m:=k+1) (by omega)
  obtain ⟨a1,a2,a3,a4⟩:=h2
  show (∀ x∈(gaStep s k (gaA s k)).l,GoodSt (k+1) x)∧GoodSt (k+1) (gaStep s k (gaA s k)).x
  unfold gaStep
  have hb:g s (k - 1) < 256:=g_lt s _
  split
  ·exact ⟨h1',h2'.1,by simp,h2'.2.2.1,hb⟩
  ·split
   ·exact ⟨h1',h2'.1,by simp,h2'.2.2.1,h2'.2.2.2⟩
   ·split
    ·exact ⟨h1',h2'⟩
    ·split
     ·exact ⟨h1',h2'⟩
     ·split
      ·refine ⟨fun x hx=>?_,by simp [GoodSt]⟩
       rcases List.mem_append.1 hx with hx | hx
       ·exact h1' x hx
       ·simp at hx;subst hx;exact h2'
      ·split
       ·rename_i hL
        have hg:=(isL_iff _).1 hL
        split
        ·refine ⟨h1',by simp;omega,h2'.2.1,fun a ha=>?_,h2'.2.2.2⟩
         rcases List.mem_append.1 ha with ha | ha
         ·exact a3 a ha
         ·simp at ha;subst ha;have:(bt s k).toNat=g s k:=rfl;omega
        ·exact ⟨h1',h2'.1,by simp;omega,h2'.2.2.1,h2'.2.2.2⟩
       ·exact ⟨h1',h2'⟩
def UnEnd (s:ByteArray) (w:World) (e:Ending) (w':World):Prop :=
 (∃ k:Nat,Stuck s k∧e=.returned (.tuple #[.slice none 0 0,.int .i64 2,.int .i64 k])) ∨
 (Whole s∧∃ (p:List (St × Nat)) (k:Nat) (hk:k < (gaA s s.size).l.length),Ok p∧sts p=(gaA s s.size).l.take k∧err p (gaA s s.size).l[k]≠0∧e=.returned (.tuple #[.slice none 0 0,.int .i64 (err p (gaA s s.size).l[k]),.int .i64 k])) ∨
 (Whole s∧∃ v q,Ok (pq q)∧q.map It.x=(gaA s s.size).l∧Lst w' w.heap.size v q∧q.length≤16∧e=.returned (.tuple #[v,.int .i64 0,.int .i64 0]))
set_option maxHeartbeats 2000000 in
set_option maxRecDepth 100000 in
theorem und_any (s:ByteArray) (w:World) (hs:s.size≤300):Calls Tryz.prog 32 #[.string s] w fun e w'=>Mod (fun _=>False) w w'∧UnEnd s w e w':=by
 obtain ⟨i0,hi,hz0,hz1,hz2⟩:=info_parts Tryz.info66
 go_enter Tryz.func32,Tryz.ntmps32
 go_wp2_with fail
 refine (parse_any s w hs).mono ?_
 rintro e w1 ⟨hm1,⟨v,q,rfl,hL,hWh,hl,hq⟩ | ⟨k,rfl,hst⟩⟩
 ·obtain ⟨ao,cap,rfl,-⟩:=hL.form
  have hz1':=hm1.size
  have HL:Hid ((gaA s s.size).l=q.map It.x):=hl
  clear hl
  have hgood:=(ga_good s s.size).1
  have HGd:Hid (∀ x∈(gaA s s.size).l,GoodSt s.size x):=hgood
  clear hgood
  go_wp2
  go_loopw [8,27] (fun v i wr=>∃ (k:Nat) (r:List It),k≤q.length∧i=.int .i64 k∧wr.ownsRow w1.heap.size 83 4 v r.length (cellsOf r)∧ArgsOk wr w.heap.size r∧r.map It.x=(q.map It.x).take k∧Ok (pq r)∧Mod (fun _=>False) w1 wr) (fun _ i _=>q.length - (intOf i).toNat)
  case atStart=>exact ⟨0,[],by omega,rfl,World.ownsRow_nil _ _ _ _,fun _ h=>by simp at h,by simp,Ok.nil,Mod.refl _ _⟩
  case round =>
   obtain ⟨k,r,hk,rfl,hrow,hra,hrx,hrok,hmr⟩:=hrel
   have hLr:=hL.mod hmr (fun _ _ _ f=>f)
   have hszr:=hmr.size
   have HRX:Hid (r.map It.x=(q.map It.x).take k):=hrx
   have HRL:Hid (r.length=k):=show r.length=k by have:=congrArg List.length hrx;simp at this;omega
   have hrl:r.length≤k:=by have:=HRL.out;omega
   clear hrx
   obtain ⟨va,vcap,rfl,-⟩:=owns_form hrow
   by_cases hlt:k < q.length
   ·obtain ⟨gb,rfl,c0,c1,c2,c3⟩:=hLr.cell hlt
    have hAk:=hLr.2 q[k] (List.getElem_mem hlt)
    obtain ⟨aa,acap,hae,-⟩:=owns_form hAk
    have hx:(gaA s s.size).l[k]?=some q[k].x:=by rw [HL.out];simp [hlt]
    have HX:Hid ((gaA s s.size).l[k]?=some q[k].x):=hx
    have HXQ:Hid ((q.map It.x)[k]?=some q[k].x):=show (q.map It.x)[k]?=some q[k].x by simp [hlt]
    have hgx:GoodSt s.size q[k].x:=HGd.out _ (List.mem_of_getElem? hx)
    clear hx
    generalize hxe:q[k].x=x at *
    generalize hve:q[k].av=av at *
    generalize hwe:q[k].wt=wt0 at *
    subst hae
    clear hxe hve hwe
    have hS1:=se_new wr x.name x.word (.slice aa x.args.length acap) wt0
    have hma:Mod (fun _=>False) wr (wr.alloc (.cells #[.int .u8 x.name,S x.word,.slice aa x.args.length acap,.int .i64 wt0] 83)):=(Mod.refl _ wr).alloc _
    have hlj:Lst (wr.alloc (.cells #[.int .u8 x.name,S x.word,.slice aa x.args.length acap,.int .i64 wt0] 83)) w.heap.size (.slice va r.length vcap) r:=Lst.mod ⟨owns_base hrow hz1',hra⟩ hma (fun _ _ _ f=>f)
    by_cases he:err (pq r) x=0
    ·have HE:Hid (err (pq r) x=0):=he
     have hb:((err (pq r) x:Int) != 0)=false:=by rw [he];rfl
     clear he hLr
     go_wp2_with fail
     have hJ:=judge_any (.slice va r.length vcap) r w.heap.size x (.slice aa x.args.length acap) wt0 _ (by omega) (by have:=hgx.1;omega) hlj (owns_mod hAk hma (fun _ _ f=>f)) hrok hgx.2.2.1
     refine hJ.mono ?_
     clear hJ
     rintro e w2 ⟨rfl,hm2⟩
     have hS2:=hS1.keep hm2 (fun f=>f)
     have hm3:=hma.trans hm2
     have hsz3:=hm3.size
     have hsb:wr.heap.size < w2.heap.size:=hS2.lt
     have hS3:=hS2.set3 (jw (pq r) x)
     have hm4:Mod (fun _=>False) wr (w2.setCell ⟨wr.heap.size,3,none⟩ (.int .i64 (jw (pq r) x))):=((hm3.mono (q:=fun i=>i=wr.heap.size) (fun _ _ f=>f.elim)).setCell _ _ (fun _=>rfl)).mono (fun i hi h=>by omega)
     have hrow3:=owns_mod hrow hm4 (fun _ _ f=>f)
     have hra3:=hra.mod hm4 (fun _ _ _ f=>f)
     have hAk3:=owns_mod hAk hm4 (fun _ _ f=>f)
     have hmr3:=hmr.trans hm4
     clear c0 c1 c2 c3 hma hm2 hrow hra hAk hmr hS1 hm3 hlj hm4
     have c0:=hS2.c0
     have c1:=hS2.c1
     have c2:=hS2.c2
     have c3:=hS2.c3
     have f3:=hS2.fz 3
     go_wp2_with (at_builtin;refine wpList_append_own _ rfl _ _ 47 rfl w1.heap.size 83 i0 _ 4 56 Tryz.underlying47 hi hz0 hz1 hz2 rfl (by decide) _ _ _ rfl (hrow3.alloc _) ⟨w2.heap.size,0,none⟩ 1 1 (secells ⟨x,.slice aa x.args.length acap,jw (pq r) x⟩) rfl rfl ?c1 ?c2 ?c3 ?c4 ?c5 ?_)
     case c1=>have:=cell_new4 (w2.setCell ⟨wr.heap.size,3,none⟩ (.int .i64 (jw (pq r) x))) (.int .u8 x.name) (S x.word) (.slice aa x.args.length acap) (.int .i64 (jw (pq r) x)) 83;simpa [secells] using this
     case c2=>intro u hu;simp [secells] at hu;rcases hu with rfl | rfl | rfl | rfl <;> rfl
     case c3=>unfold maxLen;omega
     case c4=>omega
     case c5=>simp;omega
     intro v' w4 hown4 hgrow _
     have hal:Mod (fun _=>False) (w2.setCell ⟨wr.heap.size,3,none⟩ (.int .i64 (jw (pq r) x))) ((w2.setCell ⟨wr.heap.size,3,none⟩ (.int .i64 (jw (pq r) x))).alloc (.cells #[.int .u8 x.name,S x.word,.slice aa x.args.length acap,.int .i64 (jw (pq r) x)] 83)):=(Mod.refl _ _).alloc _
     have hA4:ArgsOk w4 w.heap.size (r++[⟨x,.slice aa x.args.length acap,jw (pq r) x⟩]):=by
      intro t ht
      rcases List.mem_append.1 ht with ht | ht
      ·exact (hra3.mod hal (fun _ _ _ f=>f)).grown (hrow3.alloc _) hgrow t ht
      ·have h1:ArgsOk (w2.setCell ⟨wr.heap.size,3,none⟩ (.int .i64 (jw (pq r) x))) w.heap.size [⟨x,.slice aa x.args.length acap,jw (pq r) x⟩]:=fun t ht=>by simp at ht;subst ht;exact hAk3
       exact (h1.mod hal (fun _ _ _ f=>f)).grown (hrow3.alloc _) hgrow t ht
     have hm4:Mod (fun _=>False) w1 w4:=⟨hgrow.os.trans hmr3.os,hgrow.tape.trans hmr3.tape,hgrow.output.trans hmr3.output,by have a:=hmr3.size;have b:=hgrow.size;simp at a b;omega,fun i hi _=>by
      have a:=hmr3.block i hi (fun f=>f)
      have b:=hgrow.block i (by simp;omega) (fun e=>by have:=(hrow3.lt i e.symm).1;omega)
      rw [b,Below.heap_alloc _ _ _ (by simp;omega)];exact a⟩
     have hown5:w4.ownsRow w1.heap.size 83 4 v' (r++[(⟨x,.slice aa x.args.length acap,jw (pq r) x⟩:It)]).length (cellsOf (r++[⟨x,.slice aa x.args.length acap,jw (pq r) x⟩])):=by rw [← cellsOf_snoc,List.length_append];exact hown4
     obtain ⟨ao4,cap4,rfl,-⟩:=owns_form hown4
     clear hown4 hgrow hal hrow3 hra3 hAk3 hmr3 c0 c1 c2 c3 f3 hS2 hS3
     go_wp2
     go_roundw
     case rel=>exact ⟨k+1,r++[⟨x,.slice aa x.args.length acap,jw (pq r) x⟩],by omega,by go_num,hown5,hA4,by rw [List.map_append,HRX.out,List.take_add_one,HXQ.out];rfl,by
      have:=Ok.snoc hrok HE.out;rw [← jw_yes HE.out] at this;simpa [pq] using this,hm4⟩
     case measure=>simp [intOf];omega
    ·have hb:((err (pq r) x:Int) != 0)=true:=by rw [bne_iff_ne];omega
     go_wp2_with fail
     have hJ:=judge_any (.slice va r.length vcap) r w.heap.size x (.slice aa x.args.length acap) wt0 _ (by omega) (by have:=hgx.1;omega) hlj (owns_mod hAk hma (fun _ _ f=>f)) hrok hgx.2.2.1
     refine hJ.mono ?_
     clear hJ
     rintro e w2 ⟨rfl,hm2⟩
     go_wp2
     go_ret3
     obtain ⟨hkl,hxe⟩:=List.getElem?_eq_some_iff.1 HX.out
     refine ⟨hm1.trans (hmr.trans (hma.trans hm2)),.inr (.inl ⟨hWh,pq r,k,hkl,hrok,by rw [sts_pq,HRX.out,HL.out],by rw [hxe];exact he,by rw [hxe];rfl⟩)⟩
   ·have hkq:k=q.length:=by omega
    go_wp2
    go_ret3
    exact ⟨hm1.trans hmr,.inr (.inr ⟨hWh,_,r,hrok,by rw [HRX.out,HL.out,hkq,List.take_of_length_le (by simp)],⟨owns_base hrow hz1',hra⟩,by omega,rfl⟩)⟩
 ·go_wp2
  go_ret3
  exact ⟨hm1,.inl ⟨k,hst,rfl⟩⟩
def Ans (s:ByteArray) (a b:Nat):Prop :=
 (Stuck s b∧a=2) ∨
 (Whole s∧∃ (p:List (St × Nat)) (hk:b < (gaA s s.size).l.length),Ok p∧sts p=(gaA s s.size).l.take b∧err p (gaA s s.size).l[b]≠0∧a=err p (gaA s s.size).l[b]) ∨
 (Whole s∧a=0∧b=0∧∃ p,Ok p∧sts p=(gaA s s.size).l)
theorem Ok.unique:∀ {p r:List (St × Nat)},Ok p→Ok r→∀ n,n≤p.length→n≤r.length→(sts p).take n=(sts r).take n→p.take n=r.take n:=by
 intro p r hp hr n
 induction n with
 | zero=>intros;simp
 | succ n ih =>
  intro h1 h2 he
  have e':(sts p).take n=(sts r).take n:=by
   have:=congrArg (List.take n) he
   simpa [List.take_take] using this
  have hih:=ih (by omega) (by omega) e'
  have hn1:n < p.length:=by omega
  have hn2:n < r.length:=by omega
  have hx:p[n].1=r[n].1:=by
   have:=congrArg (fun l:List St=>l[n]?) he
   simpa [sts,hn1,hn2] using this
  have hw:p[n].2=r[n].2:=by rw [(hp n hn1).2,(hr n hn2).2,hih,hx]
  rw [take_snoc' p n hn1,take_snoc' r n hn2,hih,Prod.ext hx hw]
theorem Ans.unique {s:ByteArray} {a b c d:Nat} (h:Ans s a b) (k:Ans s c d):a=c∧b=d:=by
 have lens:∀ {p:List (St × Nat)} {n:Nat},sts p=(gaA s s.size).l.take n→n < (gaA s s.size).l.length→p.length=n:=fun {p n} h1 h2=>by
  have:=congrArg List.length h1;simp [sts] at this;omega
 have eqs:∀ {p r:List (St × Nat)} {m n:Nat},Ok p→Ok r→sts p=(gaA s s.size).l.take m→sts r=(gaA s s.size).l.take n→m≤n→p.length=m→m≤r.length→p=r.take m:=fun {p r m n} o1 o2 h1 h2 hmn hpl hrl=>by
  have:=Ok.unique o1 o2 m (by omega) hrl (by rw [h1,h2,List.take_take,List.take_take];congr 1;omega)
  rwa [List.take_of_length_le (by omega)] at this
 rcases h with ⟨hs,rfl⟩ | ⟨hw,p,hk,hok,hp,he,rfl⟩ | ⟨hw,rfl,rfl,p,hok,hp⟩
 ·rcases k with ⟨ks,rfl⟩ | ⟨kw,_⟩ | ⟨kw,_⟩
  ·exact ⟨rfl,hs.unique ks⟩
  ·exact (hs.not_whole kw).elim
  ·exact (hs.not_whole kw).elim
 ·rcases k with ⟨ks,rfl⟩ | ⟨kw,r,kk,kok,kp,ke,rfl⟩ | ⟨kw,rfl,rfl,r,kok,kp⟩
  ·exact (ks.not_whole hw).elim
  ·have l1:=lens hp hk
   have l2:=lens kp kk
   rcases Nat.lt_trichotomy b d with hbd | hbd | hbd
   ·have:=eqs hok kok hp kp (by omega) l1 (by omega)
    have hx:=(kok b (by omega)).1
    rw [← this] at hx
    have hxe:r[b].1=(gaA s s.size).l[b]:=by
     have h1:(sts r)[b]?=((gaA s s.size).l.take d)[b]?:=by rw [kp]
     simp [sts,show b < r.length by omega,hk,hbd] at h1
     exact h1
    rw [hxe] at hx
    exact (he hx).elim
   ·subst hbd
    have:=eqs hok kok hp kp (Nat.le_refl _) l1 (by omega)
    rw [List.take_of_length_le (by omega)] at this
    subst this
    exact ⟨rfl,rfl⟩
   ·have:=eqs kok hok kp hp (by omega) l2 (by omega)
    have hx:=(hok d (by omega)).1
    rw [← this] at hx
    have hxe:p[d].1=(gaA s s.size).l[d]:=by
     have h1:(sts p)[d]?=((gaA s s.size).l.take b)[d]?:=by rw [hp]
     simp [sts,show d < p.length by omega,kk,hbd] at h1
     exact h1
    rw [hxe] at hx
    exact (ke hx).elim
  ·exfalso
   have l1:=lens hp hk
   have l2:r.length=(gaA s s.size).l.length:=by have:=congrArg List.length kp;simpa [sts] using this
   have:=eqs (n:=(gaA s s.size).l.length) hok kok hp (by rw [kp,List.take_length]) (by omega) l1 (by omega)
   have hx:=(kok b (by omega)).1
   rw [← this] at hx
   have hxe:r[b].1=(gaA s s.size).l[b]:=by
    have h1:(sts r)[b]?=((gaA s s.size).l)[b]?:=by rw [kp]
    simp [sts,show b < r.length by omega,hk] at h1
    exact h1
   rw [hxe] at hx
   exact he hx
 ·rcases k with ⟨ks,rfl⟩ | ⟨kw,r,kk,kok,kp,ke,rfl⟩ | ⟨kw,rfl,rfl,r,kok,kp⟩
  ·exact (ks.not_whole hw).elim
  ·exfalso
   have l1:=lens kp kk
   have l2:p.length=(gaA s s.size).l.length:=by have:=congrArg List.length hp;simpa [sts] using this
   have:=eqs (n:=(gaA s s.size).l.length) kok hok kp (by rw [hp,List.take_length]) (by omega) l1 (by omega)
   have hx:=(hok d (by omega)).1
   rw [← this] at hx
   have hxe:p[d].1=(gaA s s.size).l[d]:=by
    have h1:(sts p)[d]?=((gaA s s.size).l)[d]?:=by rw [hp]
    simp [sts,show d < p.length by omega,kk] at h1
    exact h1
   rw [hxe] at hx
   exact ke hx
  ·exact ⟨rfl,rfl⟩
end Go.Proofs.YtmnfndpbblpjiaaGreatDoor

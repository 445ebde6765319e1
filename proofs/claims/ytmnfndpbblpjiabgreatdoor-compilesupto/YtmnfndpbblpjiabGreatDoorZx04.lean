/- Who gave a name, on both sides. -/
import Derived.Test.YtmnfndpbblpjiabGreatDoorZx03
set_option maxHeartbeats 2000000
set_option maxRecDepth 100000
namespace Go.Proofs.YtmnfndpbblpjiabGreatDoor
open Go.RowKit Pu
theorem lG (v:Value) (q:List It) (nm base:Nat) (w:World) (hq:q.length<=1000) (hL:vM w base v q) :
  Calls Tryz.prog 77 #[v,.int .u8 nm] w fun e w'=>e=.returned (.int .i64 (gN (q.map It.x) nm))/\w=w':=by
 obtain⟨ao,cap,rfl,-⟩:=hL.form
 go_in
 go_wp2
 go_loop [8] (fun i=>∃ k:Nat,k<=q.length/\i=.int .i64 k/\∀ j (hj:j < q.length),j < k->q[j].x.name≠nm) (fun i=>q.length - (intOf i).toNat)
 case atStart=>exact⟨0,by omega,rfl,fun j hj h=>by omega⟩
 case round =>
  obtain⟨k,hk,rfl,hn⟩:=hrel
  by_cases hlt:k < q.length
  ·obtain⟨gb,rfl,c0,-⟩:=hL.cell hlt
   have HN:Hid (∀ j (hj:j < q.length),j < k->q[j].x.name≠nm):=hn
   clear hn
   by_cases he:q[k].x.name=nm
   ·have HE:Hid (q[k].x.name=nm):=he
    have hb:((q[k].x.name:Int) == (nm:Int))=true:=bN he
    clear he
    go_wp2
    go_ret
    exact⟨by rw[rX (k:=k) (by simpa using hlt) (by simpa using HE.out) (fun j hj=>by simpa using HN.out j (by omega) hj)];rfl,rfl⟩
   ·have hb:((q[k].x.name:Int) == (nm:Int))=false:=aF he
    go_wp2
    go_round
    case rel=>exact⟨k+1,by omega,by go_num,fun j hj h=>by by_cases e:j=k;(· subst e;exact he);exact HN.out j hj (by omega)⟩
    case measure=>simp[intOf];omega
  ·have hks:k=q.length:=by omega
   subst hks
   go_wp2
   go_ret
   exact⟨by rw[FR (fun j hj=>by simpa using hn j (by simpa using hj) (by simpa using hj))];rfl,rfl⟩
theorem mE.cell {w:World} {base:Nat} {ao:Option Addr} {cap:Nat} {l:List St} (h:mE w base (.slice ao l.length cap) l) {j:Nat} (hj:j < l.length) :
  ∃ gb,ao=some ⟨gb,0,none⟩/\w.cell? ⟨gb,j*3,none⟩=some (.int .u8 l[j].name)/\w.cell? ⟨gb,j*3+1,none⟩=some (S l[j].word)/\w.cell? ⟨gb,j*3+2,none⟩=some (S l[j].args):=by
 unfold mE at h
 obtain⟨gb,rfl,h0⟩:=iM h (j:=j*3+0) (by omega)
 have h1:=h.cellAt (j*3+1) (by omega)
 have h2:=h.cellAt (j*3+2) (by omega)
 rw[He l j _ hj (by omega)]at h0 h1 h2
 exact⟨gb,rfl,by simpa [nY] using h0,by simpa [nY] using h1,by simpa [nY] using h2⟩
theorem iL (v:Value) (l:List St) (n nm base:Nat) (w:World) (hq:l.length<=1000) (hn:n<=l.length) (hL:mE w base v l) :
  Calls Tryz.prog 149 #[v,.int .i64 n,.int .u8 nm] w fun e w'=>e=.returned (.int .i64 (gN (l.take n) nm))/\w=w':=by
 obtain⟨ao,cap,rfl,-⟩:=aj hL
 go_in
 go_wp2
 go_loop [7] (fun i=>∃ k:Nat,k<=n/\i=.int .i64 k/\∀ j (hj:j < l.length),j < k->l[j].name≠nm) (fun i=>n - (intOf i).toNat)
 case atStart=>exact⟨0,by omega,rfl,fun j hj h=>by omega⟩
 case round =>
  obtain⟨k,hk,rfl,hN⟩:=hrel
  have HN:Hid (∀ j (hj:j < l.length),j < k->l[j].name≠nm):=hN
  clear hN
  by_cases hlt:k < n
  ·have hkl:k < l.length:=by omega
   obtain⟨gb,rfl,c0,-⟩:=hL.cell hkl
   by_cases he:l[k].name=nm
   ·have HE:Hid (l[k].name=nm):=he
    have hb:((l[k].name:Int) == (nm:Int))=true:=bN he
    clear he
    go_wp2
    go_ret
    exact⟨by rw[rX (k:=k) (by simp;omega) (by simpa using HE.out) (fun j hj=>by simpa using HN.out j (by omega) hj)];rfl,rfl⟩
   ·have hb:((l[k].name:Int) == (nm:Int))=false:=aF he
    go_wp2
    go_round
    case rel=>exact⟨k+1,by omega,by go_num,fun j hj h=>by by_cases e:j=k;(· subst e;exact he);exact HN.out j hj (by omega)⟩
    case measure=>simp[intOf];omega
  ·have hks:k=n:=by omega
   subst hks
   go_wp2
   go_ret
   exact⟨by rw[FR (fun j hj=>by simpa using HN.out j (by simp at hj;omega) (by simp at hj;omega))];rfl,rfl⟩
end Go.Proofs.YtmnfndpbblpjiabGreatDoor

/- The program's judging of a statement: names, sorts, weight. -/
namespace Go.Proofs.YtmnfndpbblpjiabGreatDoor
set_option linter.unusedVariables false
open Go.RowKit Pu
abbrev XC (nm:Nat) (wd:List UInt8) (av:Value) (wt:Int):Value:=.agg #[.int .u8 nm,S wd,av,.int .i64 wt]
def pq (q:List It):List (St × Nat):=q.map fun t=>(t.x,t.wt)
theorem fH (q:List It):aL (pq q)=q.map It.x:=by simp[aL,pq]
theorem fu (nm:Nat) (wd:List UInt8) (av:Value) (wt:Int) (w:World) (K4:av.oneCell'=true) :
  Calls Tryz.prog 47 #[XC nm wd av wt] w fun e w'=>e=.returned (.bool (nm == 0))/\Mod (fun _=>False) w w':=by
 go_in
 go_wp2
 go_ret
 exact⟨by have:(nm == 0)=((nm:Int) == 0):=(by rw[Bool.eq_iff_iff];simp);rw[this];rfl,(Mod.refl _ w).alloc _⟩
theorem yH (w:World) (nm:Nat) (wd:List UInt8) (av:Value) (wt:Int):Se (w.alloc (.cells #[.int .u8 nm,S wd,av,.int .i64 wt] 72)) w.heap.size nm wd av wt:=by
 unfold Se;show (w.heap.push _)[w.heap.size]?=_;simp
def tk (nm:Nat) (wd:List UInt8):List UInt8 × Bool:=if nm=0 then qT wd else cT wd
theorem oM (nm:Nat) (wd:List UInt8) (av:Value) (wt:Int) (w:World) (K4:av.oneCell'=true) :
  Calls Tryz.prog 73 #[XC nm wd av wt] w fun e w'=>e=.returned (.tuple #[S (tk nm wd).1,.bool (tk nm wd).2])/\Mod (fun _=>False) w w':=by
 have hS:=yH w nm wd av wt
 have hm0:Mod (fun _=>False) w (w.alloc (.cells #[.int .u8 nm,S wd,av,.int .i64 wt] 72)):=(Mod.refl _ w).alloc _
 by_cases h0:nm=0
 ·have HT:Hid (tk nm wd=qT wd):=show tk nm wd=qT wd by simp[tk,h0]
  have hb:(nm == 0)=true:=by simpa using h0
  clear h0
  go_in
  go_wp2_with fail
  refine (fu nm wd av wt _ K4).mono ?_
  rintro e w1 ⟨rfl,hm1⟩
  have c1:=(hS.keep hm1 (fun f=>f)).c1
  go_wp2_with fail
  refine (wP _ _).mono ?_
  rintro e w2 ⟨rfl,rfl⟩
  go_wp2
  go_ret2
  exact⟨by rw[HT.out];rfl,hm0.trans hm1⟩
 ·have HT:Hid (tk nm wd=cT wd):=show tk nm wd=cT wd by simp[tk,h0]
  have hb:(nm == 0)=false:=by simpa using h0
  go_in
  go_wp2_with fail
  refine (fu nm wd av wt _ K4).mono ?_
  rintro e w1 ⟨rfl,hm1⟩
  have c1:=(hS.keep hm1 (fun f=>f)).c1
  go_wp2_with fail
  refine (rE _ _).mono ?_
  rintro e w2 ⟨rfl,rfl⟩
  go_wp2
  go_ret2
  exact⟨by rw[HT.out];rfl,hm0.trans hm1⟩
theorem sK {w:World} {base:Nat} {e:TypeId} {size:Nat} {v:Value} {n:Nat} {xs:List Value} (h:w.ownsRow base e size v n xs):v.oneCell'=true:=by
 obtain⟨ao,cap,rfl,-⟩:=aj h;rfl
theorem tK {w:World} {base n:Nat} {ao:Option Addr} {cap:Nat} {ag:List UInt8} (h:w.ownsRow base 5 1 (.slice ao n cap) n (bvs ag)) (hn:n=ag.length) {k:Nat} (hk:k < ag.length) :
  ∃ gb,ao=some ⟨gb,0,none⟩/\w.cell? ⟨gb,k,none⟩=some (.int .u8 ag[k].toNat):=by
 subst hn
 obtain⟨gb,rfl,hc⟩:=iM h (j:=k) (by omega)
 exact⟨gb,rfl,by rw[hc];simp[bvs,hk]⟩
theorem GN {l:List St} {x:St} {k:Nat} (hk:k < x.args.length) (h:gN l x.args[k].toNat=-1):bX l x=false:=by
 have:x.args.all (fun a=>gN l a.toNat != -1)=false:=by
  rw[Bool.eq_false_iff,ne_eq,List.all_eq_true]
  intro H
  have:=H x.args[k] (List.getElem_mem hk)
  simp[h]at this
 simp[bX,this]
theorem Em (v:Value) (q:List It) (base:Nat) (x:St) (av:Value) (wt:Int) (w:World) (hq:q.length<=1000) (hal:x.args.length<=1000) (hL:vM w base v q) (hA:w.ownsRow base 5 1 av x.args.length (bvs x.args)) :
  Calls Tryz.prog 74 #[v,XC x.name x.word av wt] w fun e w'=>e=.returned (.bool (bX (q.map It.x) x))/\Mod (fun _=>False) w w':=by
 have hS:=yH w x.name x.word av wt
 have hm0:Mod (fun _=>False) w (w.alloc (.cells #[.int .u8 x.name,S x.word,av,.int .i64 wt] 72)):=(Mod.refl _ w).alloc _
 have hL1:=hL.mod hm0 (fun _ _ _ f=>f)
 have hA1:=au hA hm0 (fun _ _ f=>f)
 have K4:=sK hA
 obtain⟨aa,aK,rfl,-⟩:=aj hA
 clear hL hA
 go_in
 go_wp2
 generalize hW:w.alloc (.cells #[.int .u8 x.name,S x.word,.slice aa x.args.length aK,.int .i64 wt] 72)=W at *
 clear hW
 go_loop [10] (fun i=>∃ k:Nat,k<=x.args.length/\i=.int .i64 k/\∀ j (hj:j < x.args.length),j < k->gN (q.map It.x) x.args[j].toNat≠-1) (fun i=>x.args.length - (intOf i).toNat)
 case atStart=>exact⟨0,by omega,rfl,fun j hj h=>by omega⟩
 case round =>
  obtain⟨k,hk,rfl,hN⟩:=hrel
  have HN:Hid (∀ j (hj:j < x.args.length),j < k->gN (q.map It.x) x.args[j].toNat≠-1):=hN
  clear hN
  by_cases hlt:k < x.args.length
  ·obtain⟨gb,rfl,ck⟩:=tK hA1 rfl hlt
   by_cases hg:gN (q.map It.x) x.args[k].toNat=-1
   ·have HG:Hid (gN (q.map It.x) x.args[k].toNat=-1):=hg
    have hb:(gN (q.map It.x) x.args[k].toNat == -1)=true:=by rw[hg];rfl
    clear hg
    go_wp2_with fail
    refine (lG v q x.args[k].toNat base W hq hL1).mono ?_
    rintro e w2 ⟨rfl,rfl⟩
    go_wp2
    go_ret
    exact⟨by rw[GN hlt HG.out];rfl,hm0⟩
   ·have hb:(gN (q.map It.x) x.args[k].toNat == -1)=false:=by rw[beq_eq_false_iff_ne];exact hg
    go_wp2_with fail
    refine (lG v q x.args[k].toNat base W hq hL1).mono ?_
    rintro e w2 ⟨rfl,rfl⟩
    go_wp2
    go_round
    case rel=>exact⟨k+1,by omega,by go_num,fun j hj h=>by by_cases e:j=k;(· subst e;exact hg);exact HN.out j hj (by omega)⟩
    case measure=>simp[intOf];omega
  ·have hall:x.args.all (fun a=>gN (q.map It.x) a.toNat != -1)=true:=by
    rw[List.all_eq_true];intro a ha;obtain⟨j,hj,rfl⟩:=List.getElem_of_mem ha
    rw[bne_iff_ne];exact HN.out j hj (by omega)
   have HA:Hid (x.args.all (fun a=>gN (q.map It.x) a.toNat != -1)=true):=hall
   clear hall
   have s0:=hS.c0
   have s1:=hS.c1
   have s2:=hS.c2
   have s3:=hS.c3
   by_cases h0:x.name=0
   ·have hb:(x.name == 0)=true:=by simpa using h0
    have HB:Hid (bX (q.map It.x) x=true):=show bX (q.map It.x) x=true by unfold bX;rw[HA.out];simp[h0]
    clear h0
    go_wp2_with fail
    refine (fu x.name x.word _ wt _ K4).mono ?_
    rintro e w2 ⟨rfl,hm2⟩
    go_wp2
    go_ret
    exact⟨by rw[HB.out];rfl,hm0.trans hm2⟩
   ·have hb:(x.name == 0)=false:=by simpa using h0
    have HB:Hid (bX (q.map It.x) x=(gN (q.map It.x) x.name == -1)):=show bX (q.map It.x) x=(gN (q.map It.x) x.name == -1) by unfold bX;rw[HA.out,hb];simp
    clear h0
    go_wp2_with fail
    refine (fu x.name x.word _ wt _ K4).mono ?_
    rintro e w2 ⟨rfl,hm2⟩
    have c0:=(hS.keep hm2 (fun f=>f)).c0
    have hL2:=hL1.mod hm2 (fun _ _ _ f=>f)
    go_wp2_with fail
    refine (lG v q x.name base _ hq hL2).mono ?_
    rintro e w3 ⟨rfl,rfl⟩
    go_wp2
    go_ret
    exact⟨by rw[HB.out];rfl,hm0.trans hm2⟩
end Go.Proofs.YtmnfndpbblpjiabGreatDoor

/- The program's look at sorts, and its weighing. -/
namespace Go.Proofs.YtmnfndpbblpjiabGreatDoor
open Go.RowKit Pu
theorem vM.drewN {w:World} {base:Nat} {v:Value} {q:List It} (h:vM w base v q) (n:Nat):vM (w.drewN n) base v q:=h.mod (Mod.same n (fun _=>False) w) (fun _ _ _ f=>f)
theorem Xj {q:List It} {nm j:Nat} (hj:j < q.length) (h:gN (q.map It.x) nm=(j:Int)):who (pq q) nm=some (q[j].x,q[j].wt):=by
 have:=yM (p:=pq q) (nm:=nm) (k:=j) (by simpa [pq] using hj) (by rw[fH];exact h)
 simpa [pq] using this
theorem KY {q:List It} {nm:Nat} (h:gN (q.map It.x) nm≠-1):∃ j,∃ hj:j < q.length,gN (q.map It.x) nm=(j:Int)/\q[j].x.name=nm:=by
 obtain⟨k,hk,h1,h2⟩:=p8 (p:=pq q) (nm:=nm) (by rw[fH];exact h)
 exact⟨k,by simpa [pq] using hk,by rw[<- fH];exact h1,by simpa [pq] using h2⟩
theorem SE {p:List (St × Nat)} {ag so:List UInt8} {k:Nat} (hk:k < ag.length) (hs:k < so.length) (h:¬ sG (argWord p ag[k].toNat)=so[k].toNat):kM p ag so=false:=by
 unfold kM
 rw[Bool.eq_false_iff,ne_eq,List.all_eq_true]
 intro H
 have:=H (ag[k],so[k]) (by rw[<- List.getElem_zip (h:=by simp;omega)];exact List.getElem_mem _)
 exact h (by simpa using this)
theorem Oj {p:List (St × Nat)} {ag so:List UInt8} (h:∀ j (hj:j < ag.length) (hs:j < so.length),sG (argWord p ag[j].toNat)=so[j].toNat):kM p ag so=true:=by
 unfold kM
 rw[List.all_eq_true]
 intro y hy
 obtain⟨j,hj,rfl⟩:=List.getElem_of_mem hy
 have hj':j < min ag.length so.length:=by simpa using hj
 simpa using h j (by omega) (by omega)
theorem ED (v:Value) (q:List It) (base:Nat) (x:St) (av:Value) (wt:Int) (so:List UInt8) (w:World) (hq:q.length<=1000) (hal:x.args.length<=1000) (hL:vM w base v q) (hA:w.ownsRow base 5 1 av x.args.length (bvs x.args))
  (hg:∀ j (hj:j < x.args.length),gN (q.map It.x) x.args[j].toNat≠-1) (hlen:x.args.length=so.length) :
  Calls Tryz.prog 75 #[v,XC x.name x.word av wt,S so] w fun e w'=>e=.returned (.bool (kM (pq q) x.args so))/\Mod (fun _=>False) w w':=by
 have hS:=yH w x.name x.word av wt
 have hm0:Mod (fun _=>False) w (w.alloc (.cells #[.int .u8 x.name,S x.word,av,.int .i64 wt] 72)):=(Mod.refl _ w).alloc _
 have hL1:=hL.mod hm0 (fun _ _ _ f=>f)
 have hA1:=au hA hm0 (fun _ _ f=>f)
 have K4:=sK hA
 obtain⟨aa,aK,rfl,-⟩:=aj hA
 obtain⟨va,dO,rfl,-⟩:=hL.form
 have HG:Hid (∀ j (hj:j < x.args.length),gN (q.map It.x) x.args[j].toNat≠-1):=hg
 have HLen:Hid (x.args.length=so.length):=hlen
 clear hL hA hg hlen
 go_in
 go_wp2
 go_loopw [13] (fun i wr=>∃ k:Nat,k<=x.args.length/\i=.int .i64 k/\Mod (fun _=>False) w wr/\vM wr base (.slice va q.length dO) q/\wr.ownsRow base 5 1 (.slice aa x.args.length aK) x.args.length (bvs x.args)/\∀ j (hj:j < x.args.length) (hs:j < so.length),j < k->sG (argWord (pq q) x.args[j].toNat)=so[j].toNat) (fun i _=>x.args.length - (intOf i).toNat)
 case atStart=>exact⟨0,by omega,rfl,hm0,hL1,hA1,fun j hj hs h=>by omega⟩
 case round =>
  clear hm0 hL1 hA1 hS
  obtain⟨k,hk,rfl,hm0,hL1,hA1,hN⟩:=hrel
  have HN:Hid (∀ j (hj:j < x.args.length) (hs:j < so.length),j < k->sG (argWord (pq q) x.args[j].toNat)=so[j].toNat):=hN
  clear hN
  by_cases hlt:k < x.args.length
  ·have hks:k < so.length:=by have:=HLen.out;omega
   obtain⟨gb,rfl,ck⟩:=tK hA1 rfl hlt
   obtain⟨j,hj,hgj,-⟩:=KY (HG.out k hlt)
   obtain⟨vb,rfl,-,cw,-⟩:=hL1.cell hj
   have hw:argWord (pq q) x.args[k].toNat=q[j].x.word:=by simp[argWord,Xj hj hgj]
   have HW:Hid (argWord (pq q) x.args[k].toNat=q[j].x.word):=hw
   have HJ:Hid (gN (q.map It.x) x.args[k].toNat=(j:Int)):=hgj
   clear hw hgj
   have hj1:((j:Int) == -1)=false:=by rw[beq_eq_false_iff_ne];omega
   have hso:∀ h,(⟨so.toArray⟩:ByteArray)[k]'h=so[k]:=fun _=>rfl
   by_cases he:sG q[j].x.word=so[k].toNat
   ·have HE:Hid (sG q[j].x.word=so[k].toNat):=he
    have hb:((sG q[j].x.word:Int) != (so[k].toNat:Int))=false:=by rw[he];simp
    clear he
    go_wp2_with fail
    have hgv:=lG (.slice (some ⟨vb,0,none⟩) q.length dO) q x.args[k].toNat base wr hq hL1
    rw[HJ.out]at hgv
    refine hgv.mono ?_
    rintro e w2 ⟨rfl,rfl⟩
    clear hgv
    go_wp2
    go_quiet ((go_at_call 122;exact Calls.quiet_of_same ((uR _ _).mono fun _ _ h=>⟨h.1,h.2.symm⟩)))
    go_wp2
    go_roundw
    case rel=>exact⟨k+1,by omega,by go_num,hm0.drewN _,hL1.drewN _,AX hA1 _,fun j hj hs h=>by by_cases e:j=k;(· subst e;rw[HW.out];exact HE.out);exact HN.out j hj hs (by omega)⟩
    case measure=>simp[intOf];omega
   ·have hb:((sG q[j].x.word:Int) != (so[k].toNat:Int))=true:=by rw[bne_iff_ne];omega
    go_wp2_with fail
    have hgv:=lG (.slice (some ⟨vb,0,none⟩) q.length dO) q x.args[k].toNat base wr hq hL1
    rw[HJ.out]at hgv
    refine hgv.mono ?_
    rintro e w2 ⟨rfl,rfl⟩
    clear hgv
    go_wp2
    go_quiet ((go_at_call 122;exact Calls.quiet_of_same ((uR _ _).mono fun _ _ h=>⟨h.1,h.2.symm⟩)))
    go_wp2
    go_ret
    exact⟨by rw[SE hlt hks (by rw[HW.out];exact he)];rfl,hm0.drewN _⟩
  ·go_wp2
   go_ret
   exact⟨by rw[Oj (fun j hj hs=>HN.out j hj hs (by omega))];rfl,hm0⟩
theorem take_snoc' {α:Type} (l:List α) (k:Nat) (h:k < l.length):l.take (k+1)=l.take k++[l[k]]:=by
 rw[List.take_succ_eq_append_getElem h]
theorem OG (v:Value) (q:List It) (base:Nat) (x:St) (av:Value) (wt:Int) (w:World) (hq:q.length<=1000) (hal:x.args.length<=4) (hL:vM w base v q) (hA:w.ownsRow base 5 1 av x.args.length (bvs x.args))
  (hg:∀ j (hj:j < x.args.length),gN (q.map It.x) x.args[j].toNat≠-1) (hok:Ok (pq q)) :
  Calls Tryz.prog 76 #[v,XC x.name x.word av wt] w fun e w'=>e=.returned (.int .i64 (xD (pq q) x))/\Mod (fun _=>False) w w':=by
 have hS:=yH w x.name x.word av wt
 have hm0:Mod (fun _=>False) w (w.alloc (.cells #[.int .u8 x.name,S x.word,av,.int .i64 wt] 72)):=(Mod.refl _ w).alloc _
 have hL1:=hL.mod hm0 (fun _ _ _ f=>f)
 have hA1:=au hA hm0 (fun _ _ f=>f)
 have K4:=sK hA
 obtain⟨aa,aK,rfl,-⟩:=aj hA
 obtain⟨va,dO,rfl,-⟩:=hL.form
 have HG:Hid (∀ j (hj:j < x.args.length),gN (q.map It.x) x.args[j].toNat≠-1):=hg
 have HO:Hid (Ok (pq q)):=hok
 clear hL hA hg hok
 by_cases h0:x.name=0
 ·have hb:(x.name == 0)=true:=by simpa using h0
  have HB:Hid (xD (pq q) x=0):=show xD (pq q) x=0 by simp[xD,h0]
  clear h0
  go_in
  go_wp2_with fail
  refine (fu x.name x.word _ wt _ K4).mono ?_
  rintro e w2 ⟨rfl,hm2⟩
  go_wp2
  go_ret
  exact⟨by rw[HB.out];rfl,hm0.trans hm2⟩
 ·have hb:(x.name == 0)=false:=by simpa using h0
  have HB:Hid (xD (pq q) x=wG x.word (jA (pq q) x.args) (kC (pq q) x.args)):=show xD (pq q) x=wG x.word (jA (pq q) x.args) (kC (pq q) x.args) by simp[xD,h0]
  clear h0
  go_in
  go_wp2_with fail
  refine (fu x.name x.word _ wt _ K4).mono ?_
  rintro e W ⟨rfl,hm2⟩
  have hS2:=hS.keep hm2 (fun f=>f)
  have hL2:=hL1.mod hm2 (fun _ _ _ f=>f)
  have hA2:=au hA1 hm2 (fun _ _ f=>f)
  have aC:=hm0.trans hm2
  clear hm0 hm2 hS hL1 hA1
  have s1:=hS2.c1
  have s2:=hS2.c2
  go_wp2
  go_loop [5,6,15] (fun a b i=>∃ k:Nat,k<=x.args.length/\i=.int .i64 k/\a=.int .i64 (jA (pq q) (x.args.take k))/\b=.int .i64 (kC (pq q) (x.args.take k))) (fun _ _ i=>x.args.length - (intOf i).toNat)
  case atStart=>exact⟨0,by omega,rfl,rfl,rfl⟩
  case round =>
   obtain⟨k,hk,rfl,rfl,rfl⟩:=hrel
   have b1:=HO.out.jA (x.args.take k)
   have b2:=HO.out.kC (x.args.take k)
   have b3:(x.args.take k).length<=k:=List.length_take_le _ _
   by_cases hlt:k < x.args.length
   ·have HT:Hid (x.args.take (k+1)=x.args.take k++[x.args[k]]):=take_snoc' _ _ hlt
    obtain⟨gb,rfl,ck⟩:=tK hA2 rfl hlt
    obtain⟨j,hj,hgj,-⟩:=KY (HG.out k hlt)
    obtain⟨vb,rfl,-,-,-,cw⟩:=hL2.cell hj
    have HW:Hid (pX (pq q) x.args[k].toNat=q[j].wt):=show pX (pq q) x.args[k].toNat=q[j].wt by simp[pX,Xj hj hgj]
    have hwb:q[j].wt<=64:=by have:=HO.out.pX x.args[k].toNat;rw[HW.out]at this;exact this
    have HJ:Hid (gN (q.map It.x) x.args[k].toNat=(j:Int)):=hgj
    clear hgj
    have hj1:((j:Int) != -1)=true:=by rw[bne_iff_ne];omega
    go_wp2_with fail
    have hgv:=lG (.slice (some ⟨vb,0,none⟩) q.length dO) q x.args[k].toNat base W hq hL2
    rw[HJ.out]at hgv
    refine hgv.mono ?_
    rintro e w2 ⟨rfl,rfl⟩
    clear hgv
    go_wp2
    go_round
    case rel=>exact⟨k+1,by omega,by go_num,by rw[HT.out,Dn,HW.out];go_num,by rw[HT.out,Ao,HW.out]⟩
    case measure=>simp[intOf];omega
   ·have hkl:k=x.args.length:=by omega
    subst hkl
    rw[List.take_length]at b1 b2 ⊢
    clear b3
    go_wp2_with fail
    refine (zy _ _ _ _ (by omega) (by omega)).mono ?_
    rintro e w2 ⟨rfl,rfl⟩
    go_wp2
    go_ret
    exact⟨by rw[HB.out];rfl,aC⟩
def jw (p:List (St × Nat)) (x:St):Nat:=if err p x=0 then xD p x else 0
theorem Gp {p:List (St × Nat)} {x:St} {n:Nat} (h:err p x=n+1):jw p x=0:=by simp[jw,h]
theorem QA {p:List (St × Nat)} {x:St} (h:err p x=0):jw p x=xD p x:=by simp[jw,h]
theorem SN (x:St):(tk x.name x.word).2=known x/\(known x=true->(tk x.name x.word).1=(fm x.word).1):=by
 unfold tk known
 have h1:=aa0 x.word
 have h2:=Z9 x.word
 by_cases h0:x.name=0
 ·rw[if_pos h0]
  refine⟨?_,fun h=>h1.2 ?_⟩
  ·rw[Bool.eq_iff_iff,h1.1];simp[h0];intro h;omega
  ·rw[h1.1];simp[h0]at h;exact h.2
 ·rw[if_neg h0]
  refine⟨?_,fun h=>h2.2 ?_⟩
  ·rw[Bool.eq_iff_iff,h2.1];simp[h0];exact⟨fun h=>⟨h.2,h.1⟩,fun h=>⟨h.2,h.1⟩⟩
  ·rw[h2.1];simp[h0]at h;exact⟨h.2,h.1⟩
theorem qN {l:List St} {x:St} (h:bX l x=true):∀ a∈x.args,gN l a.toNat≠-1:=by
 unfold bX at h
 rw[Bool.and_eq_true,List.all_eq_true]at h
 intro a ha
 simpa using h.1 a ha
theorem CZ (v:Value) (q:List It) (base:Nat) (x:St) (av:Value) (wt:Int) (w:World) (hq:q.length<=1000) (hal:x.args.length<=1000) (hL:vM w base v q) (hA:w.ownsRow base 5 1 av x.args.length (bvs x.args))
  (hok:Ok (pq q)) (hz:∀ a∈x.args,a.toNat≠0) :
  Calls Tryz.prog 45 #[v,XC x.name x.word av wt] w fun e w'=>e=.returned (.tuple #[.int .i64 (jw (pq q) x:Int),.int .i64 (err (pq q) x)])/\Mod (fun _=>False) w w':=by
 have hS:=yH w x.name x.word av wt
 have hm0:Mod (fun _=>False) w (w.alloc (.cells #[.int .u8 x.name,S x.word,av,.int .i64 wt] 72)):=(Mod.refl _ w).alloc _
 have hL1:=hL.mod hm0 (fun _ _ _ f=>f)
 have hA1:=au hA hm0 (fun _ _ f=>f)
 have K4:=sK hA
 obtain⟨aa,aK,rfl,-⟩:=aj hA
 have HO:Hid (Ok (pq q)):=hok
 have HZ:Hid (∀ a∈x.args,a.toNat≠0):=hz
 have hk:=SN x
 have HK:Hid ((tk x.name x.word).2=known x):=hk.1
 have HK2:Hid (known x=true->(tk x.name x.word).1=(fm x.word).1):=hk.2
 clear hL hA hok hz hk
 cases hkn:known x with
 | false =>
  have HE:Hid (err (pq q) x=3):=show err (pq q) x=3 by simp[err,hkn]
  have hb:(tk x.name x.word).2=false:=by rw[HK.out,hkn]
  go_in
  go_wp2_with fail
  refine (oM x.name x.word _ wt _ K4).mono ?_
  rintro e w2 ⟨rfl,hm2⟩
  go_wp2
  go_ret2
  exact⟨by rw[Gp HE.out,HE.out];rfl,hm0.trans hm2⟩
 | true =>
  have hb:(tk x.name x.word).2=true:=by rw[HK.out,hkn]
  have ZO:Hid (tk x.name x.word=((fm x.word).1,true)):=show tk x.name x.word=((fm x.word).1,true) by rw[<- HK2.out hkn,<- hb]
  have Fb:Hid (known x=true):=hkn
  clear hb HK HK2 hkn
  have hfl:=uV x.word
  have hAS:=oM x.name x.word (.slice aa x.args.length aK) wt (w.alloc (.cells #[.int .u8 x.name,S x.word,.slice aa x.args.length aK,.int .i64 wt] 72)) K4
  rw[ZO.out]at hAS
  clear ZO
  generalize hso:(fm x.word).1=so at *
  have ZN:Hid ((fm x.word).1=so):=hso
  clear hso
  simp only at hAS
  go_in
  go_wp2_with fail
  refine hAS.mono ?_
  clear hAS
  rintro e w2 ⟨rfl,hm2⟩
  have hS2:=hS.keep hm2 (fun f=>f)
  have hL2:=hL1.mod hm2 (fun _ _ _ f=>f)
  have hA2:=au hA1 hm2 (fun _ _ f=>f)
  have hm:=hm0.trans hm2
  clear hm0 hm2 hS hL1 hA1
  have s0:=hS2.c0
  have s1:=hS2.c1
  have s2:=hS2.c2
  have s3:=hS2.c3
  by_cases hc:x.args.length=so.length
  ·have HC:Hid (x.args.length=so.length):=hc
   have hb:((x.args.length:Int) != (so.length:Int))=false:=by rw[hc];simp
   have UN:x.args.length<=4:=by omega
   clear hc
   go_wp2_with fail
   refine (Em v q base x _ wt _ hq hal hL2 hA2).mono ?_
   rintro e w3 ⟨rfl,aC⟩
   cases hn:bX (q.map It.x) x with
   | false =>
    have HE:Hid (err (pq q) x=5):=show err (pq q) x=5 by simp[err,Fb.out,HC.out,ZN.out,fH,hn]
    go_wp2
    go_ret2
    exact⟨by rw[Gp HE.out,HE.out];rfl,hm.trans aC⟩
   | true =>
    have HN:Hid (bX (q.map It.x) x=true):=hn
    clear hn
    have uD:=hS2.keep aC (fun f=>f)
    have hL3:=hL2.mod aC (fun _ _ _ f=>f)
    have hA3:=au hA2 aC (fun _ _ f=>f)
    have hmm:=hm.trans aC
    clear s0 s1 s2 s3 hm aC hS2 hL2 hA2
    have s0:=uD.c0
    have s1:=uD.c1
    have s2:=uD.c2
    have s3:=uD.c3
    go_wp2_with fail
    refine (ED v q base x _ wt so _ hq hal hL3 hA3 (fun j hj=>qN HN.out _ (List.getElem_mem hj)) HC.out).mono ?_
    rintro e w4 ⟨rfl,aO⟩
    have Zu:Hid (kM (pq q) x.args so=eU (pq q) x.args so):=Kv HO.out (fun a ha=>by rw[fH];exact qN HN.out a ha) HZ.out
    cases hs:kM (pq q) x.args so with
    | false =>
     have HE:Hid (err (pq q) x=6):=show err (pq q) x=6 by
      have h6:eU (pq q) x.args so=false:=by rw[<- Zu.out,hs]
      simp[err,Fb.out,HC.out,ZN.out,fH,HN.out,h6]
     go_wp2
     go_ret2
     exact⟨by rw[Gp HE.out,HE.out];rfl,hmm.trans aO⟩
    | true =>
     have h6:eU (pq q) x.args so=true:=by rw[<- Zu.out,hs]
     have H6:Hid (eU (pq q) x.args so=true):=h6
     clear h6 hs Zu
     have xP:=uD.keep aO (fun f=>f)
     have hL4:=hL3.mod aO (fun _ _ _ f=>f)
     have UJ:=au hA3 aO (fun _ _ f=>f)
     have jH:=hmm.trans aO
     clear s0 s1 s2 s3 hmm aO uD hL3 hA3
     have s0:=xP.c0
     have s1:=xP.c1
     have s2:=xP.c2
     have s3:=xP.c3
     go_wp2_with fail
     refine (OG v q base x _ wt _ hq UN hL4 UJ (fun j hj=>qN HN.out _ (List.getElem_mem hj)) HO.out).mono ?_
     rintro e w6 ⟨rfl,uN⟩
     by_cases h64:64 < xD (pq q) x
     ·have HE:Hid (err (pq q) x=7):=show err (pq q) x=7 by simp[err,Fb.out,HC.out,ZN.out,fH,HN.out,H6.out,h64]
      go_wp2
      go_ret2
      exact⟨by rw[Gp HE.out,HE.out];rfl,jH.trans uN⟩
     ·have HE:Hid (err (pq q) x=0):=show err (pq q) x=0 by simp[err,Fb.out,HC.out,ZN.out,fH,HN.out,H6.out,h64]
      go_wp2
      go_ret2
      exact⟨by rw[QA HE.out,HE.out];rfl,jH.trans uN⟩
  ·have hb:((x.args.length:Int) != (so.length:Int))=true:=by rw[bne_iff_ne];omega
   have HE:Hid (err (pq q) x=4):=show err (pq q) x=4 by simp[err,Fb.out,ZN.out,hc]
   go_wp2
   go_ret2
   exact⟨by rw[Gp HE.out,HE.out];rfl,hm⟩
def mD (k:Nat) (x:St):Prop:=x.args.length<=k/\x.word.length<=k/\(∀ a∈x.args,a.toNat≠0)/\x.name < 256
theorem mD.mono {k m:Nat} {x:St} (h:mD k x) (hk:k<=m):mD m x:=⟨by have:=h.1;omega,by have:=h.2.1;omega,h.2.2.1,h.2.2.2⟩
theorem UC (s:ByteArray) (k:Nat):(∀ x∈(bF s k).l,mD k x)/\mD k (bF s k).x:=by
 induction k with
 | zero=>simp[bF,mD]
 | succ k ih =>
  obtain⟨h1,h2⟩:=ih
  have h1':∀ x∈(bF s k).l,mD (k+1) x:=fun x hx=>(h1 x hx).mono (by omega)
  have h2':=h2.mono (m:=k+1) (by omega)
  obtain⟨a1,a2,a3,a4⟩:=h2
  show (∀ x∈(aX s k (bF s k)).l,mD (k+1) x)/\mD (k+1) (aX s k (bF s k)).x
  unfold aX
  have hb:g s (k - 1) < 256:=rW s _
  split
  ·exact⟨h1',h2'.1,by simp,h2'.2.2.1,hb⟩
  ·split
   ·exact⟨h1',h2'.1,by simp,h2'.2.2.1,h2'.2.2.2⟩
   ·split
    ·exact⟨h1',h2'⟩
    ·split
     ·exact⟨h1',h2'⟩
     ·split
      ·refine⟨fun x hx=>?_,by simp[mD]⟩
       rcases List.mem_append.1 hx with hx | hx
       ·exact h1' x hx
       ·simp at hx;subst hx;exact h2'
      ·split
       ·rename_i hL
        have hg:=(jM _).1 hL
        split
        ·refine⟨h1',by simp;omega,h2'.2.1,fun a ha=>?_,h2'.2.2.2⟩
         rcases List.mem_append.1 ha with ha | ha
         ·exact a3 a ha
         ·simp at ha;subst ha;have:(bt s k).toNat=g s k:=rfl;omega
        ·exact⟨h1',h2'.1,by simp;omega,h2'.2.2.1,h2'.2.2.2⟩
       ·exact⟨h1',h2'⟩
def ZY (s:ByteArray) (w:World) (e:Ending) (w':World):Prop :=
 (∃ k:Nat,Stuck s k/\e=.returned (.tuple #[.slice none 0 0,.int .i64 2,.int .i64 k])) \/
 (Whole s/\∃ (p:List (St × Nat)) (k:Nat) (hk:k < (bF s s.size).l.length),Ok p/\aL p=(bF s s.size).l.take k/\err p (bF s s.size).l[k]≠0/\e=.returned (.tuple #[.slice none 0 0,.int .i64 (err p (bF s s.size).l[k]),.int .i64 k])) \/
 (Whole s/\∃ v q,Ok (pq q)/\q.map It.x=(bF s s.size).l/\vM w' w.heap.size v q/\q.length<=16/\e=.returned (.tuple #[v,.int .i64 0,.int .i64 0]))
theorem xk (s:ByteArray) (w:World) (hs:300 < s.size) (hm:s.size<=maxLen):Calls Tryz.prog 31 #[.string s] w fun e w'=>e=.returned (.tuple #[.slice none 0 0,.int .i64 1,.int .i64 0])/\w=w':=by
 unfold maxLen at hm
 go_in
 go_wp2
 go_ret3
 exact⟨rfl,rfl⟩
theorem xg (s:ByteArray) (w:World) (hs:s.size<=300):Calls Tryz.prog 31 #[.string s] w fun e w'=>Mod (fun _=>False) w w'/\ZY s w e w':=by
 obtain⟨i0,hi,hz0,hz1,hz2⟩:=info_parts Tryz.info66
 go_in
 go_wp2_with fail
 refine (NY s w hs).mono ?_
 rintro e w1 ⟨hm1,⟨v,q,rfl,hL,hWh,hl,hq⟩ | ⟨k,rfl,hst⟩⟩
 ·obtain⟨ao,cap,rfl,-⟩:=hL.form
  have hz1':=hm1.size
  have HL:Hid ((bF s s.size).l=q.map It.x):=hl
  clear hl
  have hgood:=(UC s s.size).1
  have HGd:Hid (∀ x∈(bF s s.size).l,mD s.size x):=hgood
  clear hgood
  go_wp2
  go_loopw [8,27] (fun v i wr=>∃ (k:Nat) (r:List It),k<=q.length/\i=.int .i64 k/\wr.ownsRow w1.heap.size 72 4 v r.length (cellsOf r)/\mq wr w.heap.size r/\r.map It.x=(q.map It.x).take k/\Ok (pq r)/\Mod (fun _=>False) w1 wr) (fun _ i _=>q.length - (intOf i).toNat)
  case atStart=>exact⟨0,[],by omega,rfl,World.ownsRow_nil _ _ _ _,fun _ h=>by simp at h,by simp,Ok.nil,Mod.refl _ _⟩
  case round =>
   obtain⟨k,r,hk,rfl,hrow,hra,hrx,Qu,hmr⟩:=hrel
   have qH:=hL.mod hmr (fun _ _ _ f=>f)
   have acS:=hmr.size
   have HRX:Hid (r.map It.x=(q.map It.x).take k):=hrx
   have Xp:Hid (r.length=k):=show r.length=k by have:=congrArg List.length hrx;simp at this;omega
   have hrl:r.length<=k:=by have:=Xp.out;omega
   clear hrx
   obtain⟨va,dO,rfl,-⟩:=aj hrow
   by_cases hlt:k < q.length
   ·obtain⟨gb,rfl,c0,c1,c2,c3⟩:=qH.cell hlt
    have hAk:=qH.2 q[k] (List.getElem_mem hlt)
    obtain⟨aa,aK,hae,-⟩:=aj hAk
    have hx:(bF s s.size).l[k]?=some q[k].x:=by rw[HL.out];simp[hlt]
    have HX:Hid ((bF s s.size).l[k]?=some q[k].x):=hx
    have HXQ:Hid ((q.map It.x)[k]?=some q[k].x):=show (q.map It.x)[k]?=some q[k].x by simp[hlt]
    have hgx:mD s.size q[k].x:=HGd.out _ (List.mem_of_getElem? hx)
    clear hx
    generalize hxe:q[k].x=x at *
    generalize hve:q[k].av=av at *
    generalize hwe:q[k].wt=IQ at *
    subst hae
    clear hxe hve hwe
    have hS1:=yH wr x.name x.word (.slice aa x.args.length aK) IQ
    have hma:Mod (fun _=>False) wr (wr.alloc (.cells #[.int .u8 x.name,S x.word,.slice aa x.args.length aK,.int .i64 IQ] 72)):=(Mod.refl _ wr).alloc _
    have hlj:vM (wr.alloc (.cells #[.int .u8 x.name,S x.word,.slice aa x.args.length aK,.int .i64 IQ] 72)) w.heap.size (.slice va r.length dO) r:=vM.mod ⟨bI hrow hz1',hra⟩ hma (fun _ _ _ f=>f)
    by_cases he:err (pq r) x=0
    ·have HE:Hid (err (pq r) x=0):=he
     have hb:((err (pq r) x:Int) != 0)=false:=by rw[he];rfl
     clear he qH
     go_wp2_with fail
     have hJ:=CZ (.slice va r.length dO) r w.heap.size x (.slice aa x.args.length aK) IQ _ (by omega) (by have:=hgx.1;omega) hlj (au hAk hma (fun _ _ f=>f)) Qu hgx.2.2.1
     refine hJ.mono ?_
     clear hJ
     rintro e w2 ⟨rfl,hm2⟩
     have hS2:=hS1.keep hm2 (fun f=>f)
     have aC:=hma.trans hm2
     have YD:=aC.size
     have hsb:wr.heap.size < w2.heap.size:=hS2.lt
     have uD:=hS2.gL (jw (pq r) x)
     have aO:Mod (fun _=>False) wr (w2.setCell ⟨wr.heap.size,3,none⟩ (.int .i64 (jw (pq r) x))):=((aC.mono (q:=fun i=>i=wr.heap.size) (fun _ _ f=>f.elim)).setCell _ _ (fun _=>rfl)).mono (fun i hi h=>by omega)
     have hrow3:=au hrow aO (fun _ _ f=>f)
     have aaO:=hra.mod aO (fun _ _ _ f=>f)
     have aaC:=au hAk aO (fun _ _ f=>f)
     have Ah:=hmr.trans aO
     clear c0 c1 c2 c3 hma hm2 hrow hra hAk hmr hS1 aC hlj aO
     have c0:=hS2.c0
     have c1:=hS2.c1
     have c2:=hS2.c2
     have c3:=hS2.c3
     have f3:=hS2.fz 3
     go_wp2_with (at_builtin;refine wpList_append_own _ rfl _ _ 58 rfl w1.heap.size 72 i0 _ 4 56 Tryz.underlying58 hi hz0 hz1 hz2 rfl (by decide) _ _ _ rfl (hrow3.alloc _) ⟨w2.heap.size,0,none⟩ 1 1 (iw ⟨x,.slice aa x.args.length aK,jw (pq r) x⟩) rfl rfl ?c1 ?c2 ?c3 ?c4 ?c5 ?_)
     case c1=>have:=CQ (w2.setCell ⟨wr.heap.size,3,none⟩ (.int .i64 (jw (pq r) x))) (.int .u8 x.name) (S x.word) (.slice aa x.args.length aK) (.int .i64 (jw (pq r) x)) 72;simpa [iw] using this
     case c2=>intro u hu;simp[iw]at hu;rcases hu with rfl | rfl | rfl | rfl<;>rfl
     case c3=>unfold maxLen;omega
     case c4=>omega
     case c5=>simp;omega
     intro v' w4 aG hgrow _
     have hal:Mod (fun _=>False) (w2.setCell ⟨wr.heap.size,3,none⟩ (.int .i64 (jw (pq r) x))) ((w2.setCell ⟨wr.heap.size,3,none⟩ (.int .i64 (jw (pq r) x))).alloc (.cells #[.int .u8 x.name,S x.word,.slice aa x.args.length aK,.int .i64 (jw (pq r) x)] 72)):=(Mod.refl _ _).alloc _
     have UJ:mq w4 w.heap.size (r++[⟨x,.slice aa x.args.length aK,jw (pq r) x⟩]):=by
      intro t ht
      rcases List.mem_append.1 ht with ht | ht
      ·exact (aaO.mod hal (fun _ _ _ f=>f)).grown (hrow3.alloc _) hgrow t ht
      ·have h1:mq (w2.setCell ⟨wr.heap.size,3,none⟩ (.int .i64 (jw (pq r) x))) w.heap.size [⟨x,.slice aa x.args.length aK,jw (pq r) x⟩]:=fun t ht=>by simp at ht;subst ht;exact aaC
       exact (h1.mod hal (fun _ _ _ f=>f)).grown (hrow3.alloc _) hgrow t ht
     have aO:Mod (fun _=>False) w1 w4:=⟨hgrow.os.trans Ah.os,hgrow.tape.trans Ah.tape,hgrow.output.trans Ah.output,by have a:=Ah.size;have b:=hgrow.size;simp at a b;omega,fun i hi _=>by
      have a:=Ah.block i hi (fun f=>f)
      have b:=hgrow.block i (by simp;omega) (fun e=>by have:=(hrow3.lt i e.symm).1;omega)
      rw[b,Below.heap_alloc _ _ _ (by simp;omega)];exact a⟩
     have hown5:w4.ownsRow w1.heap.size 72 4 v' (r++[(⟨x,.slice aa x.args.length aK,jw (pq r) x⟩:It)]).length (cellsOf (r++[⟨x,.slice aa x.args.length aK,jw (pq r) x⟩])):=by rw[<- vQ,List.length_append];exact aG
     obtain⟨ao4,cap4,rfl,-⟩:=aj aG
     clear aG hgrow hal hrow3 aaO aaC Ah c0 c1 c2 c3 f3 hS2 uD
     go_wp2
     go_roundw
     case rel=>exact⟨k+1,r++[⟨x,.slice aa x.args.length aK,jw (pq r) x⟩],by omega,by go_num,hown5,UJ,by rw[List.map_append,HRX.out,List.take_add_one,HXQ.out];rfl,by
      have:=Ok.snoc Qu HE.out;rw[<- QA HE.out]at this;simpa [pq] using this,aO⟩
     case measure=>simp[intOf];omega
    ·have hb:((err (pq r) x:Int) != 0)=true:=by rw[bne_iff_ne];omega
     go_wp2_with fail
     have hJ:=CZ (.slice va r.length dO) r w.heap.size x (.slice aa x.args.length aK) IQ _ (by omega) (by have:=hgx.1;omega) hlj (au hAk hma (fun _ _ f=>f)) Qu hgx.2.2.1
     refine hJ.mono ?_
     clear hJ
     rintro e w2 ⟨rfl,hm2⟩
     go_wp2
     go_ret3
     obtain⟨hkl,hxe⟩:=List.getElem?_eq_some_iff.1 HX.out
     refine⟨hm1.trans (hmr.trans (hma.trans hm2)),.inr (.inl ⟨hWh,pq r,k,hkl,Qu,by rw[fH,HRX.out,HL.out],by rw[hxe];exact he,by rw[hxe];rfl⟩)⟩
   ·have hkq:k=q.length:=by omega
    go_wp2
    go_ret3
    exact⟨hm1.trans hmr,.inr (.inr ⟨hWh,_,r,Qu,by rw[HRX.out,HL.out,hkq,List.take_of_length_le (by simp)],⟨bI hrow hz1',hra⟩,by omega,rfl⟩)⟩
 ·go_wp2
  go_ret3
  exact⟨hm1,.inl ⟨k,hst,rfl⟩⟩
def EW (s:ByteArray) (a b:Nat):Prop :=
 (Stuck s b/\a=2) \/
 (Whole s/\∃ (p:List (St × Nat)) (hk:b < (bF s s.size).l.length),Ok p/\aL p=(bF s s.size).l.take b/\err p (bF s s.size).l[b]≠0/\a=err p (bF s s.size).l[b]) \/
 (Whole s/\a=0/\b=0/\∃ p,Ok p/\aL p=(bF s s.size).l)
theorem Ok.unique:∀ {p r:List (St × Nat)},Ok p->Ok r->∀ n,n<=p.length->n<=r.length->(aL p).take n=(aL r).take n->p.take n=r.take n:=by
 intro p r hp hr n
 induction n with
 | zero=>intros;simp
 | succ n ih =>
  intro h1 h2 he
  have e':(aL p).take n=(aL r).take n:=by
   have:=congrArg (List.take n) he
   simpa [List.take_take] using this
  have hih:=ih (by omega) (by omega) e'
  have hn1:n < p.length:=by omega
  have hn2:n < r.length:=by omega
  have hx:p[n].1=r[n].1:=by
   have:=congrArg (fun l:List St=>l[n]?) he
   simpa [aL,hn1,hn2] using this
  have hw:p[n].2=r[n].2:=by rw[(hp n hn1).2,(hr n hn2).2,hih,hx]
  rw[take_snoc' p n hn1,take_snoc' r n hn2,hih,Prod.ext hx hw]
theorem EW.unique {s:ByteArray} {a b c d:Nat} (h:EW s a b) (k:EW s c d):a=c/\b=d:=by
 have lens:∀ {p:List (St × Nat)} {n:Nat},aL p=(bF s s.size).l.take n->n < (bF s s.size).l.length->p.length=n:=fun {p n} h1 h2=>by
  have:=congrArg List.length h1;simp[aL]at this;omega
 have eqs:∀ {p r:List (St × Nat)} {m n:Nat},Ok p->Ok r->aL p=(bF s s.size).l.take m->aL r=(bF s s.size).l.take n->m<=n->p.length=m->m<=r.length->p=r.take m:=fun {p r m n} o1 o2 h1 h2 hmn hpl hrl=>by
  have:=Ok.unique o1 o2 m (by omega) hrl (by rw[h1,h2,List.take_take,List.take_take];congr 1;omega)
  rwa [List.take_of_length_le (by omega)]at this
 rcases h with ⟨hs,rfl⟩ | ⟨hw,p,hk,hok,hp,he,rfl⟩ | ⟨hw,rfl,rfl,p,hok,hp⟩
 ·rcases k with ⟨ks,rfl⟩ | ⟨kw,_⟩ | ⟨kw,_⟩
  ·exact⟨rfl,hs.unique ks⟩
  ·exact (hs.tX kw).elim
  ·exact (hs.tX kw).elim
 ·rcases k with ⟨ks,rfl⟩ | ⟨kw,r,kk,TB,kp,ke,rfl⟩ | ⟨kw,rfl,rfl,r,TB,kp⟩
  ·exact (ks.tX hw).elim
  ·have l1:=lens hp hk
   have l2:=lens kp kk
   rcases Nat.lt_trichotomy b d with hbd | hbd | hbd
   ·have:=eqs hok TB hp kp (by omega) l1 (by omega)
    have hx:=(TB b (by omega)).1
    rw[<- this]at hx
    have hxe:r[b].1=(bF s s.size).l[b]:=by
     have h1:(aL r)[b]?=((bF s s.size).l.take d)[b]?:=by rw[kp]
     simp[aL,show b < r.length by omega,hk,hbd]at h1
     exact h1
    rw[hxe]at hx
    exact (he hx).elim
   ·subst hbd
    have:=eqs hok TB hp kp (Nat.le_refl _) l1 (by omega)
    rw[List.take_of_length_le (by omega)]at this
    subst this
    exact⟨rfl,rfl⟩
   ·have:=eqs TB hok kp hp (by omega) l2 (by omega)
    have hx:=(hok d (by omega)).1
    rw[<- this]at hx
    have hxe:p[d].1=(bF s s.size).l[d]:=by
     have h1:(aL p)[d]?=((bF s s.size).l.take b)[d]?:=by rw[hp]
     simp[aL,show d < p.length by omega,kk,hbd]at h1
     exact h1
    rw[hxe]at hx
    exact (ke hx).elim
  ·exfalso
   have l1:=lens hp hk
   have l2:r.length=(bF s s.size).l.length:=by have:=congrArg List.length kp;simpa [aL] using this
   have:=eqs (n:=(bF s s.size).l.length) hok TB hp (by rw[kp,List.take_length]) (by omega) l1 (by omega)
   have hx:=(TB b (by omega)).1
   rw[<- this]at hx
   have hxe:r[b].1=(bF s s.size).l[b]:=by
    have h1:(aL r)[b]?=((bF s s.size).l)[b]?:=by rw[kp]
    simp[aL,show b < r.length by omega,hk]at h1
    exact h1
   rw[hxe]at hx
   exact he hx
 ·rcases k with ⟨ks,rfl⟩ | ⟨kw,r,kk,TB,kp,ke,rfl⟩ | ⟨kw,rfl,rfl,r,TB,kp⟩
  ·exact (ks.tX hw).elim
  ·exfalso
   have l1:=lens kp kk
   have l2:p.length=(bF s s.size).l.length:=by have:=congrArg List.length hp;simpa [aL] using this
   have:=eqs (n:=(bF s s.size).l.length) TB hok kp (by rw[hp,List.take_length]) (by omega) l1 (by omega)
   have hx:=(hok d (by omega)).1
   rw[<- this]at hx
   have hxe:p[d].1=(bF s s.size).l[d]:=by
    have h1:(aL p)[d]?=((bF s s.size).l)[d]?:=by rw[hp]
    simp[aL,show d < p.length by omega,kk]at h1
    exact h1
   rw[hxe]at hx
   exact ke hx
  ·exact⟨rfl,rfl⟩
end Go.Proofs.YtmnfndpbblpjiabGreatDoor

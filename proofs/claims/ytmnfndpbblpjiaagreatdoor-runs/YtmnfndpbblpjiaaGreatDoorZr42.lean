/- What running a code and running a source have in common: start. -/
import Derived.Test.YtmnfndpbblpjiaaGreatDoorZr39
import Derived.Test.YtmnfndpbblpjiaaGreatDoorZr41
namespace Go.Proofs.YtmnfndpbblpjiaaGreatDoor
open Go.RowKit Pu
def stt (B n:Nat) (l:List Stp) (inp:ByteArray):ByteArray × Nat :=
 match inps inp with
 | none=>(⟨#[]⟩,9)
 | some ins=>if ins.length≠n then (⟨#[]⟩,9) else play B ins l (List.replicate 128 0) ⟨#[]⟩
theorem stt_none {B n:Nat} {l:List Stp} {inp:ByteArray} (h:inps inp=none):stt B n l inp=(⟨#[]⟩,9):=by unfold stt;rw [h]
theorem stt_count {B n:Nat} {l:List Stp} {inp:ByteArray} {ins:List Int} (h:inps inp=some ins) (k:¬ ins.length=n):stt B n l inp=(⟨#[]⟩,9):=by unfold stt;rw [h];simp [k]
theorem stt_play {B n:Nat} {l:List Stp} {inp:ByteArray} {ins:List Int} (h:inps inp=some ins) (k:ins.length=n):stt B n l inp=play B ins l (List.replicate 128 0) ⟨#[]⟩:=by unfold stt;rw [h];simp [k]
set_option maxHeartbeats 800000 in
set_option maxRecDepth 4000 in
theorem start_any (B nn:Nat) (hB:B=10 ^ nn) (hnn:nn=8000) (r i:Nat) (v:Value) (l:List Stp) (base:Nat) (inp:ByteArray) (w:World) (hl:l.length≤3000) (hL:PLst w base v l) (hi:inp.size≤140) (h256:i < 256) (hg:∀ t∈l,Good i t) :
  Calls Tryz.prog 34 #[.agg #[.int .u8 r,.int .u8 i,v],.string inp] w fun e w'=>e=.returned (.tuple #[.string (stt B i l inp).1,.int .i64 (stt B i l inp).2])∧Mod (fun _=>False) w w':=by
 obtain ⟨ao,cap,rfl,-⟩:=owns_form hL
 have HB:Hid (B=10 ^ nn):=hB
 have HNN:Hid (nn=8000):=hnn
 have HG:Hid (∀ t∈l,Good i t):=hg
 have HLen:Hid (l.length≤3000):=hl
 clear hB hnn hg
 have w3:IntKind.i64.wrap (i:Int)=(i:Int):=by simp [IntKind.wrap,IntKind.signed,IntKind.bits];omega
 have hpa:=heap_alloc_new w (.cells #[.int .u8 r,.int .u8 i,.slice ao l.length cap] 52)
 have hma:=(Mod.refl (fun _=>False) w).alloc (.cells #[.int .u8 r,.int .u8 i,.slice ao l.length cap] 52)
 have hLa:=PLst.mod hL ((Mod.refl (fun _=>False) w).alloc (.cells #[.int .u8 r,.int .u8 i,.slice ao l.length cap] 52))
 have HH:Hid _:=And.intro hpa (And.intro hma hLa)
 clear hpa hma hLa hL hl
 go_enter Tryz.func34,Tryz.ntmps34
 go_wp2_with fail
 generalize w.alloc (.cells #[.int .u8 r,.int .u8 i,.slice ao l.length cap] 52)=w2 at *
 obtain ⟨hpa,hma,hLa⟩:=HH.out
 clear HH
 refine (pinputs_any inp w2 hi).mono ?_
 rintro e w3 ⟨hm3,he⟩
 have hp3:=hm3.keep hpa (fun f=>f)
 have hm3w:=hma.trans hm3
 have hL3:=hLa.mod hm3
 obtain ⟨c0,c1,c2⟩:=cells3 hp3
 clear hpa hma hLa hp3
 cases hin:inps inp with
 | none =>
  rw [hin] at he
  simp only at he
  subst he
  have HE:Hid (stt B i l inp=(⟨#[]⟩,9)):=stt_none hin
  clear hm3 hL3 hin
  go_wp2_with fail
  go_ret2
  exact ⟨by rw [HE.out];rfl,hm3w⟩
 | some ins =>
  rw [hin] at he
  simp only at he
  obtain ⟨v,rfl,hown⟩:=he
  obtain ⟨vo,vcap,rfl,-⟩:=owns_form hown
  have HR:Hid (∀ x∈ins,-100 < x∧x < 100):=inps_range hin
  by_cases hl:ins.length=i
  ·have HE:Hid (stt B i l inp=play B ins l (List.replicate 128 0) ⟨#[]⟩):=stt_play hin hl
   have hbq:((ins.length:Int) != (i:Int))=false:=bne_f hl
   have hx:=execute_any B nn HB.out HNN.out r i (.slice ao l.length cap) (.slice vo ins.length vcap) l ins _ _ w3 HLen.out hL3 hown (by omega) HR.out (fun t ht=>by rw [hl];exact HG.out t ht)
   clear hl hin hm3 hL3 hown
   go_wp2_with fail
   refine hx.mono ?_
   rintro e w4 ⟨rfl,hm4⟩
   have hmE:=hm3w.trans hm4
   clear hx hm4 hm3w
   go_wp2_with fail
   go_ret2
   exact ⟨by rw [HE.out];rfl,hmE⟩
  ·have HE:Hid (stt B i l inp=(⟨#[]⟩,9)):=stt_count hin hl
   have hbq:((ins.length:Int) != (i:Int))=true:=bne_t hl
   clear hl hin hm3 hL3 hown
   go_wp2_with fail
   go_ret2
   exact ⟨by rw [HE.out];rfl,hm3w⟩
def rnS (l:List St) (inp:ByteArray):ByteArray × Nat :=
 match inps inp with
 | none=>(⟨#[]⟩,9)
 | some ins=>if ins.length≠cntI (cmds l) then (⟨#[]⟩,9) else (semC ins (cmds l) 0 0 [] ⟨#[]⟩,0)
theorem okG_good {p:List (St × Nat)} (h:Ok p) (hl:p.length≤16):∀ t∈cmdsL (cmds (sts p)) 0 0,Good (cntI (cmds (sts p))) t:=by
 have hm:=Pu.made_any h hl
 have hr:=(okL_iff _ _ _).2 (okG_okL _ _ hm.ok)
 intro t ht
 obtain ⟨j,hj,rfl⟩:=List.getElem_of_mem ht
 exact right_good (okG_small _ _ hm.ok _ (List.getElem_mem hj)) (Nat.le_refl _) (hr j hj)
theorem stt_rn {B nn:Nat} (hB:B=10 ^ nn) (hn:nn=8000) {p:List (St × Nat)} (h:Ok p) (hl:p.length≤16) (inp:ByteArray):stt B (cntI (cmds (sts p))) (cmdsL (cmds (sts p)) 0 0) inp=rnS (sts p) inp:=by
 unfold stt rnS
 cases hin:inps inp with
 | none=>rfl
 | some ins =>
  simp only
  by_cases hc:ins.length=cntI (cmds (sts p))
  ·have hr:=inps_range hin
   rw [if_neg (fun e=>e hc),if_neg (fun e=>e hc)]
   exact play_report hB hn ins (fun x hx=>by have:=hr x hx;omega) _ (wf_cmds h) (by rw [cmds_len];exact hl) hc.symm
  ·rw [if_pos hc,if_pos hc]
def RunA (s inp:ByteArray) (r:ByteArray × Nat):Prop:=∃ a b,Ans s a b∧((a≠0∧r=(⟨#[]⟩,a))∨(a=0∧r=rnS (gaA s s.size).l inp))
theorem RunA.unique {s inp:ByteArray} {r t:ByteArray × Nat} (h:RunA s inp r) (k:RunA s inp t):r=t:=by
 obtain ⟨a,b,hA,h⟩:=h
 obtain ⟨c,d,kA,k⟩:=k
 obtain ⟨rfl,rfl⟩:=hA.unique kA
 rcases h with ⟨h0,rfl⟩ | ⟨h0,rfl⟩ <;> rcases k with ⟨k0,rfl⟩ | ⟨k0,rfl⟩
 ·rfl
 ·exact absurd k0 h0
 ·exact absurd h0 k0
 ·rfl
set_option maxHeartbeats 400000 in
theorem run_long (s inp:ByteArray) (w:World) (hs:300 < s.size∨140 < inp.size) (hm:s.size≤maxLen) (hm2:inp.size≤maxLen):Calls Tryz.prog 20 #[.string s,.string inp] w fun e w'=>e=.returned (.tuple #[.string ⟨#[]⟩,.int .i64 1])∧w=w':=by
 unfold maxLen at hm hm2
 by_cases h1:300 < s.size
 ·have i1:(300:Int) < (s.size:Int):=by omega
  clear hs
  go_enter Tryz.func20,Tryz.ntmps20
  go_wp2_with fail
  go_ret2
  exact ⟨rfl,rfl⟩
 ·have i1:¬ (300:Int) < (s.size:Int):=by omega
  have i2:(140:Int) < (inp.size:Int):=by omega
  clear hs
  go_enter Tryz.func20,Tryz.ntmps20
  go_wp2_with fail
  go_ret2
  exact ⟨rfl,rfl⟩
set_option maxHeartbeats 1600000 in
set_option maxRecDepth 4000 in
theorem run_any (s inp:ByteArray) (w:World) (hs:s.size≤300) (hi:inp.size≤140):Calls Tryz.prog 20 #[.string s,.string inp] w fun e w'=>Mod (fun _=>False) w w'∧∃ r,RunA s inp r∧e=.returned (.tuple #[.string r.1,.int .i64 (r.2:Nat)]):=by
 have i1:¬ (300:Int) < (s.size:Int):=by omega
 have i2:¬ (140:Int) < (inp.size:Int):=by omega
 obtain ⟨nn,hnn⟩:∃ nn:Nat,nn=8000:=⟨8000,rfl⟩
 obtain ⟨B,hB⟩:∃ B:Nat,B=10 ^ nn:=⟨_,rfl⟩
 have HB:Hid (B=10 ^ nn):=hB
 have HNN:Hid (nn=8000):=hnn
 clear hB hnn
 go_enter Tryz.func20,Tryz.ntmps20
 go_wp2_with fail
 refine (und_any s w hs).mono ?_
 rintro e w1 ⟨hm1,hu⟩
 rcases hu with ⟨k,hst,rfl⟩ | ⟨hW,p,k,hk,hok,hp,he,rfl⟩ | ⟨hW,v,q,hok,hqx,hL,hq16,rfl⟩
 ·have HA:Hid (RunA s inp (⟨#[]⟩,2)):=⟨2,k,.inl ⟨hst,rfl⟩,.inl ⟨by decide,rfl⟩⟩
  clear hst
  go_wp2_with fail
  go_ret2
  exact ⟨hm1,_,HA.out,rfl⟩
 ·have HA:Hid (RunA s inp (⟨#[]⟩,err p (gaA s s.size).l[k])):=⟨_,k,.inr (.inl ⟨hW,p,hk,hok,hp,he,rfl⟩),.inl ⟨he,rfl⟩⟩
  have hb:((err p (gaA s s.size).l[k]:Int) != 0)=true:=by rw [bne_iff_ne];omega
  generalize err p (gaA s s.size).l[k]=er at *
  clear he hok hp hW
  go_wp2_with fail
  go_ret2
  exact ⟨hm1,_,HA.out,rfl⟩
 ·have hql:(pq q).length≤16:=by simpa [pq] using hq16
  have HG:Hid _:=okG_good hok hql
  have HR:Hid _:=stt_rn HB.out HNN.out hok hql inp
  have hM:=Pu.made_any hok hql
  have h256:cntI (cmds (sts (pq q))) < 256:=by have:=hM.n32;omega
  have hln:(cmdsL (cmds (sts (pq q))) 0 0).length≤3000:=by have:=hM.len;omega
  have HA:Hid (RunA s inp (rnS (sts (pq q)) inp)):=⟨0,0,.inr (.inr ⟨hW,rfl,rfl,pq q,hok,by rw [sts_pq];exact hqx⟩),.inr ⟨rfl,by rw [sts_pq,hqx]⟩⟩
  have ht:=trans_any v q _ w1 hq16 hL hok
  rw [sts_pq] at HG HR h256 hln HA
  clear hM hqx hok hW hq16 hql hL
  go_wp2_with fail
  refine ht.mono ?_
  clear ht
  rintro e w2 ⟨hm2,ao,n,cap,rfl,hP⟩
  generalize cntI (cmds (q.map It.x))=NN at *
  generalize cmdsL (cmds (q.map It.x)) 0 0=SS at *
  have hmB:=(hm1.trans hm2).alloc (.cells #[.int .u8 128,.int .u8 (NN:Nat),.slice ao n cap] 52)
  have hPB:=PLst.mod hP ((Mod.refl (fun _=>False) w2).alloc (.cells #[.int .u8 128,.int .u8 (NN:Nat),.slice ao n cap] 52))
  have f_p:=heap_alloc_new w2 (.cells #[.int .u8 128,.int .u8 (NN:Nat),.slice ao n cap] 52)
  obtain ⟨c0,c1,c2⟩:=cells3 f_p
  have HH:Hid _:=And.intro hmB hPB
  clear hmB hPB f_p hm2 hP hm1
  go_wp2_with fail
  generalize w2.alloc (.cells #[.int .u8 128,.int .u8 (NN:Nat),.slice ao n cap] 52)=w3 at *
  clear c0 c1 c2
  obtain ⟨hmB,hPB⟩:=HH.out
  clear HH
  refine (start_any B nn HB.out HNN.out 128 NN (.slice ao n cap) SS _ inp w3 hln hPB hi h256 HG.out).mono ?_
  rintro e w4 ⟨rfl,hm4⟩
  rw [HR.out]
  have hmE:=hmB.trans hm4
  generalize rnS (q.map It.x) inp=rr at *
  clear hmB hPB hm4
  go_wp2_with fail
  go_ret2
  exact ⟨hmE,_,HA.out,rfl⟩
end Go.Proofs.YtmnfndpbblpjiaaGreatDoor

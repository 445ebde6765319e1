/- Proved here: whatever the script of bulk at most 1048576, each of its steps is answered by the program as the document says; no other condition (the three listed tables of Go's library are tied to the program's text). -/
import Derived.Test.YtmnfndpbblpjiabGreatDoorZx51
set_option maxHeartbeats 400000
set_option maxRecDepth 100000
namespace Go.Proofs.YtmnfndpbblpjiabGreatDoor
open Go.RowKit Pu
theorem N7:zS 1 7:=by
 intro kd n a b w h1 h2 ha hb hn
 obtain rfl | rfl | rfl | rfl | rfl | rfl | rfl:kd=1\/kd=2\/kd=3\/kd=4\/kd=5\/kd=6\/kd=7:=by omega
 ·exact yY.u 1 n a b w (by decide) (by decide) ha hb hn
 ·exact yZ.u 2 n a b w (by decide) (by decide) ha hb hn
 ·exact wL.u 3 n a b w (by decide) (by decide) ha hb hn
 ·exact A8.u 4 n a b w (by decide) (by decide) ha hb hn
 ·exact wK.u 5 n a b w (by decide) (by decide) ha hb hn
 ·exact Dh.u 6 n a b w (by decide) (by decide) ha hb hn
 ·exact uP 7 n a b w (by decide) (by decide) ha hb hn
theorem O5 (v:Value) (w:World) (hS:IY w v):Calls Tryz.prog 8 #[v] w fun e w'=>e=.returned (.bool true)/\Mod (fun _=>False) w w':=by
 have HS:Hid (IY w v):=hS
 clear hS
 go_in
 go_wp2_with fail
 refine (Du v 1 7 w HS.out N7).mono ?_
 rintro e w1 ⟨rfl,hm1⟩
 go_wp2
 go_ret
 exact⟨rfl,hm1⟩
end Go.Proofs.YtmnfndpbblpjiabGreatDoor

/- Proved here: whatever the script of bulk at most 1048576, each of its steps is answered by the program as the document says; no other condition (the three listed tables of Go's library are tied to the program's text). -/
namespace Go.Proofs.YtmnfndpbblpjiabGreatDoor
open Go.ChangeShapes Go.WideShapes Go.ChangeAt Go.RowKit
theorem L6 (os:Os) {H:Type} (enc:TypeId × Value->H):∃ places,DataW.whole enc Tryz.prog ((acY (World.holding Tryz.prog os ⟨#[],#[],[]⟩)).forCall (fun _ _=>0) ⟨#[],#[.slice none 0 0],[]⟩).memory Tryz.f8.params.toList Rows.allSpec.vars false #[Value.slice none 0 0].toList 8=some ([.nil],[],places) :=
 ⟨[],by kernel_rfl⟩
theorem I4 (os:Os) (started:os.Started) (H:Type) (enc:TypeId × Value->H) (F:Stop.Interp) :
  ReturnsInHanded {} Tryz.checked os 8 .any ((Rows.OpenSpec.upto Rows.allSpec).preRow enc Tryz.prog Tryz.f8 Rows.allUptoRow.domain false Rows.allUptoRow.laid) (((Rows.OpenSpec.upto Rows.allSpec).at F).post enc Tryz.prog Tryz.f8 false true false false):=by
 obtain⟨places,hx⟩:=L6 os enc
 refine returnsInHanded_of_row (C:=Tryz.checked) (s:=Rows.OpenSpec.upto Rows.allSpec) Tryz.own started (by kernel_rfl) Tryz.func8
  (witness_row_at (enc:=enc) (C:=Tryz.checked) false (acY (World.holding Tryz.prog os ⟨#[],#[],[]⟩)) #[.slice none 0 0] rfl (by kernel_rfl) (by kernel_rfl) (by kernel_rfl)
   (OpenSpec.preRow_of_cond 8 hx (by kernel_rfl) (fun k hk=>by cases hk;kernel_rfl) (by kernel_rfl) (QC os))) ?_
 intro W base args ds gs before hval0 hW _ hcond _ _ _ _
 have hval:∀ (j:Nat) t v,Tryz.f8.params[j]?=some t->args[j]?=some v->Value.okWide Tryz.prog W .any base t v:=hval0
 have hW':=hW
 obtain⟨p,q,CV,hV,rfl,_,_⟩:=hW
 have hA:DataW.TrodAll enc Tryz.prog W 0 (fun _=>true) true Tryz.f8.params.toList args.toList ds p:=CV
 rw[Tryz.params8]at hA hval
 obtain⟨v0,d0,rfl,rfl,h0⟩:=trodAll_one hA
 obtain⟨rfl,rfl⟩:=trodVars_none hV
 have h0k:=h0
 obtain⟨fuel,hf⟩:=h0
 clear CV hval0
 simp only[List.append_nil]at hW'
 have hlt:∀ x∈p,x.block < W.heap.size:=fun x hx=>by simpa using hW'.lt x hx
 have hk:=of_decide_eq_true (hcond _ rfl)
 simp only[List.append_nil,Rows.uptoBulkAll,Nat.add_zero]at hk
 have hS:IY W v0:=VX (okWide_slice Tryz.underlying43 (hval 0 43 v0 rfl rfl)) hf hk
 refine (O5 v0 W hS).mono fun e W' ⟨he,hm⟩=>?_
 subst he
 exact⟨_,rfl,⟨_,_,_,[],_,[],hW',trodAll_mk1 (shut_bool Tryz.underlying4 true),trodAll_mk1 (Below.trod Tryz.laidOut (by kernel_rfl) (of_decide_eq_true (by kernel_rfl)) h0k hm.below hlt),rfl,hm.below.frame _,fun h=>by cases h⟩⟩
theorem O4:Rows.AllUptoSaid :=
 OpenClaim.holds_of_cond 8 Tryz.f8 rfl rfl rfl rfl rfl rfl rfl ⟨rfl,rfl,rfl,rfl,rfl⟩ rfl rfl rfl rfl rfl (by kernel_rfl) Tryz.func8 (by kernel_rfl)
  (of_decide_eq_true (by kernel_rfl)) (by unfold Func.isWrapper;first | (rw[if_pos (by decide +kernel)];kernel_rfl) | (rw[if_neg (by decide +kernel)];exact⟨rfl,rfl⟩))
  (fun os started H enc _ F=>by rw[OpenClaim.pre_eq_preRow];exact I4 os started H enc F)
theorem all_holds:Rows.AllUptoCardSaid :=
 Claim7.holds_tied_plain_at .later [] _ _ _ _ O4 (fun _ h=>by cases h) (by kernel_rfl) (fun _ h=>by cases h) allUpto_row_tie rfl ⟨rfl,rfl⟩ (by kernel_rfl) rfl (RS (by kernel_rfl) Tryz.func8 Tryz.params8) (by kernel_rfl)
end Go.Proofs.YtmnfndpbblpjiabGreatDoor

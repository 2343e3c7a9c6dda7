import Derived.Test.YtocligpfmfmihaaGreatDoorLw4G
import Derived.Test.YtocligpfmfmihaaGreatDoorValidG
import Derived.Test.YtocligpfmfmihaaGreatDoorVerF
import Derived.Test.YtocligpfmfmihaaGreatDoorTie
import Derived.Test.YtocligpfmfmihaaGreatDoorCards
import Derived.Deep.DeepHandedRow
set_option maxHeartbeats 4000000
set_option maxRecDepth 100000
namespace Go.Proofs.YtocligpfmfmihaaGreatDoor.verifies
open Go.Proofs.Tryz
section
open Go Go.ChangeShapes Go.WideShapes Go.ChangeAt Go.RowKit
open Go.ChangeMaps (open_string shut_string)
theorem own:ownKnob prog.godebug=none:=by kernel_rfl
theorem ul:laidOutB prog=true:=by kernel_rfl
theorem m7{w w':World}(h:Kp (fun _=>False) w w'):Below w.heap.size w w':=⟨h.os,h.tape,h.output,h.size,fun k hk=>h.block k hk (by simp)⟩
theorem reads(os:Os){H:Type}(enc:TypeId×Value→H):DataW.whole enc prog ((wl.lWorld os).forCall (fun _ _=>0) ⟨#[], #[.string ByteArray.empty,.string ByteArray.empty,.slice none 0 0,.slice none 0 0],[]⟩).memory Tryz.f8.params.toList Rows.verifiesSpec.vars false #[Value.string ByteArray.empty,.string ByteArray.empty,.slice none 0 0,.slice none 0 0].toList 8=some ([.lit (.string []),.lit (.string []),.nil,.nil],[],[]):=by kernel_rfl
theorem lifted(os:Os)(started:os.Started)(H:Type)(enc:TypeId×Value→H)(F:Stop.Interp):
  ReturnsInHanded {} Tryz.checked os 8 .any ((Rows.OpenSpec.upto Rows.verifiesSpec).preRow enc prog Tryz.f8 Rows.verifiesUptoRow.domain false Rows.verifiesUptoRow.laid) (((Rows.OpenSpec.upto Rows.verifiesSpec).at F).post enc prog Tryz.f8 false true false false):=by
 have r:Input.okWideB Tryz.checked.prog ((wl.lWorld os).forCall (fun _ _=>0) ⟨#[], #[.string ByteArray.empty,.string ByteArray.empty,.slice none 0 0,.slice none 0 0],[]⟩) 8 ⟨#[], #[.string ByteArray.empty,.string ByteArray.empty,.slice none 0 0,.slice none 0 0],[]⟩=true:=by kernel_rfl
 refine returnsInHanded_of_row (C:=Tryz.checked) (s:=Rows.OpenSpec.upto Rows.verifiesSpec) own started (by kernel_rfl) func8
  ⟨wl.lWorld os,fun _ _=>0,⟨#[], #[.string ByteArray.empty,.string ByteArray.empty,.slice none 0 0,.slice none 0 0],[]⟩,wl.lWorld_os os,World.shaped_of_ZipB (by kernel_rfl) (by kernel_rfl),(Input.okWide_of_okWideB (base:=0) r).1,(Input.okWide_of_okWideB r).2,
   OpenSpec.preRow_of_cond 8 (reads os enc) (by kernel_rfl) (fun k B=>by cases B;kernel_rfl) (by kernel_rfl) (wl.wit_met os _),by
    simp only[Assume.holds];exact⟨by simp,by simp,fun _=>Modest.zero,by simp,by simp⟩⟩ ?_
 intro W base args X gs before c P _ i _ hL _ _;have a:∀(j:Nat) t v,Tryz.f8.params[j]? =some t→args[j]? =some v→Value.okWide prog W .any base t v:=c;have f:=P;obtain⟨p,q,m,hV,rfl,ac,ad⟩:=P;have M:DataW.TrodAll enc prog W 0 (fun _=>true) true Tryz.f8.params.toList args.toList X p:=m;rw[params8]at M a;obtain⟨v0,ae,d0,Y,p0,q0,A,rfl,rfl,h0,r0⟩:=trodAll_cons M;obtain⟨R,af,d1,Z,p1,q1,rfl,rfl,rfl,h1,r1⟩:=trodAll_cons r0;obtain⟨v2,ag,d2,aa,p2,q2,rfl,rfl,rfl,K,r2⟩:=trodAll_cons r1;obtain⟨v3,ah,d3,ab,p3,q3,rfl,rfl,rfl,L,r3⟩:=trodAll_cons r2;obtain⟨rfl,rfl,rfl⟩:=trodAll_nil r3;obtain rfl:args= #[v0,R,v2,v3]:=by cases args;simp_all
 obtain⟨rfl,rfl⟩:=trodVars_none hV;obtain⟨a0,rfl,rfl,rfl,w0⟩:=open_string underlying9 (a 0 9 v0 rfl rfl) h0;obtain⟨S,rfl,rfl,rfl,w1⟩:=open_string underlying9 (a 1 9 R rfl rfl) h1;have u:=K;have w:=L;obtain⟨x2,l2,U,rfl⟩:=okWide_slice underlying36 (a 2 36 v2 rfl rfl);obtain⟨x3,l3,V,rfl⟩:=okWide_slice underlying37 (a 3 37 v3 rfl rfl);obtain⟨n2,f2⟩:=K;obtain⟨n3,f3⟩:=L;obtain⟨xs,va,vc,I,Q,b,l⟩:=xA f2;obtain⟨G,sa,sc,T,J,E,D,d,z,y⟩:=rK f3;simp only[Value.cells,List.cons.injEq,Value.slice.injEq,and_true]at I J;dsimp only at l D d z;obtain⟨rfl,rfl,rfl⟩:=I;obtain⟨rfl,rfl,rfl⟩:=J;clear m c;have n:∀x ∈ p2 ++p3,x.block < W.heap.size:=fun x l=>f.lt x (by simpa using l)
 simp only[List.append_nil]at f;have B:=i _ rfl;have g:=of_decide_eq_true B;simp only[Rows.uptoBulkAll,Rows.uptoBulk,List.append_nil,kY]at g;have O:=Dx hL (fun _ h=>h);have N:=O.n2.ng.gl;refine (vR W O N (xW W N) W (Below.refl _ _) a0.data.toList S.data.toList (by rw[kY];omega) (by rw[kY];omega) xs x2 U Q b (by omega) G x3 V E (by omega) (fun o ho=>by have:=d o ho;omega) T (by omega) (DK b (fun h=>(Q h).1)) y).mono fun e W' ⟨he,hg⟩=> ?_
 subst he;exact⟨_,rfl,_,_,_,[],_,[],f,trodAll_mk1 (shut_bool underlying4 _),(trodAll_cons_mk (shut_string underlying9 w0) (trodAll_cons_mk (shut_string underlying9 w1) (trodAll_cons_mk (Below.trod ul (by kernel_rfl) (of_decide_eq_true (by kernel_rfl)) u (m7 hg) (fun x l=>n x (by simp[l]))) (trodAll_cons_mk (Below.trod ul (by kernel_rfl) (of_decide_eq_true (by kernel_rfl)) w (m7 hg) (fun x l=>n x (by simp[l]))) trodAll_mk0)))),rfl,(m7 hg).frame _,fun h=>by cases h⟩
theorem over:Rows.verifiesUptoRow.holds Tryz.pinned (Rows.OpenSpec.upto Rows.verifiesSpec):=
 OpenClaim.holds_of_cond 8 Tryz.f8 rfl rfl rfl rfl rfl rfl rfl ⟨rfl,rfl,rfl,rfl,rfl⟩ rfl rfl rfl rfl rfl (by kernel_rfl) func8 verifies.closed
  (of_decide_eq_true (by kernel_rfl)) (by unfold Func.isWrapper;first | (rw[if_pos (by decide +kernel)];kernel_rfl) | (rw[if_neg (by decide +kernel)];exact⟨rfl,rfl⟩))
  (fun os started H enc _ F=>by rw[OpenClaim.pre_eq_preRow];exact lifted os started H enc F)
theorem BJ{P:Program}{c:OpenClaim}{f:FuncId}(hf:P.funcNamed c.func=some f)(hu:P.unfollowed f=true)(hg:P.funcs.any Func.goes=true):true=c.goesBy P:=by
 unfold OpenClaim.goesBy Program.goesAt Program.goesFrom;rw[hf];simp[Program.goes,hu,hg]
theorem goes:true=Rows.verifiesUptoRow.goesBy Tryz.pinned.checked.prog:=BJ (f:=8) (by kernel_rfl) (beq_iff_eq.1 f2).symm (by kernel_rfl)
end
end Go.Proofs.YtocligpfmfmihaaGreatDoor.verifies
namespace Go.Proofs.YtocligpfmfmihaaGreatDoor
open Go.Proofs.Tryz
section
open Go
theorem verifiesupto_holds:Rows.VerifiesUptoCardSaid:=
 ⟨Claim7.tied_new_at .later Rows.verifiesUptoCard.laidKinds true (Claim7.new_of_sixth verifies.over Rows.verifiesUptoCard.stood.harness true rfl ⟨rfl,rfl⟩ (by kernel_rfl) (by kernel_rfl)
   (fun f fn hf hfn=>by
     obtain rfl:f=8:=Option.some.inj ((show prog.funcNamed "notary/notarylaw.Verifies" =some 8 by kernel_rfl).symm.trans hf) |>.symm
     obtain rfl:fn=Tryz.f8:=(Option.some.inj (func8.symm.trans hfn)).symm
     exact⟨by kernel_rfl,fun j t ht=>by
       rw[params8]at ht;have b:t ∈ [9,9,36,37]:=by simpa using Array.mem_of_getElem? ht
       have a:([9,9,36,37].all fun u=> !prog.wantsStandIn u)=true:=by kernel_rfl
       exact (show prog.wantsStandIn t=false by simpa using List.all_eq_true.1 a t b)⟩)) (by kernel_rfl),
  (fun D hD=>by cases hD),verifiesUpto_row_tie,(fun h=>by cases h),verifies.goes⟩
#print axioms verifiesupto_holds
end
end Go.Proofs.YtocligpfmfmihaaGreatDoor

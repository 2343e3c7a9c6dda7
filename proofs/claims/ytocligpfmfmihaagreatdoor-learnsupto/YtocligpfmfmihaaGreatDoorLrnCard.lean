import Derived.Test.YtocligpfmfmihaaGreatDoorPn12G
import Derived.Test.YtocligpfmfmihaaGreatDoorValidG
import Derived.Test.YtocligpfmfmihaaGreatDoorLrnF
import Derived.Test.YtocligpfmfmihaaGreatDoorTie
import Derived.Test.YtocligpfmfmihaaGreatDoorCards
import Derived.SevenTiedAt
import Derived.ProofKit
import Derived.OpenShut
import Derived.ShutString
import Derived.LaidLaws
import Derived.Carry
import Derived.Deep.DeepHandedRow
namespace Go.Proofs.YtocligpfmfmihaaGreatDoor.learns
open Go Go.ChangeShapes Go.WideShapes Go.ChangeAt Go.RowKit
open Go.ChangeMaps (open_string shut_string)

theorem own : ownKnob Tryz.prog.godebug = none := by kernel_rfl
theorem laidOut : laidOutB Tryz.prog = true := by kernel_rfl
theorem kp_below {w w' : World} (h : Kp (fun _ => False) w w') : Below w.heap.size w w' := ⟨h.os, h.tape, h.output, h.size, fun k hk => h.block k hk (by simp)⟩
theorem reads (os : Os) {H : Type} (enc : TypeId × Value → H) : DataW.whole enc Tryz.prog ((wl.lWorld os).forCall (fun _ _ => 0) ⟨#[], #[.string ByteArray.empty, .string ByteArray.empty, .slice none 0 0, .slice none 0 0], []⟩).memory Tryz.f7.params.toList Rows.learnsSpec.vars false #[Value.string ByteArray.empty, .string ByteArray.empty, .slice none 0 0, .slice none 0 0].toList 8 = some ([.lit (.string []), .lit (.string []), .nil, .nil], [], []) := by kernel_rfl

set_option maxRecDepth 100000 in
set_option maxHeartbeats 4000000 in
theorem lifted (os : Os) (started : os.Started) (H : Type) (enc : TypeId × Value → H) (F : Stop.Interp) :
    ReturnsInHanded {} Tryz.checked os 7 .any ((Rows.OpenSpec.upto Rows.learnsSpec).preRow enc Tryz.prog Tryz.f7 Rows.learnsUptoRow.domain false Rows.learnsUptoRow.laid) (((Rows.OpenSpec.upto Rows.learnsSpec).at F).post enc Tryz.prog Tryz.f7 false true false false) := by
  have hok : Input.okWideB Tryz.checked.prog ((wl.lWorld os).forCall (fun _ _ => 0) ⟨#[], #[.string ByteArray.empty, .string ByteArray.empty, .slice none 0 0, .slice none 0 0], []⟩) 7 ⟨#[], #[.string ByteArray.empty, .string ByteArray.empty, .slice none 0 0, .slice none 0 0], []⟩ = true := by kernel_rfl
  refine returnsInHanded_of_row (C := Tryz.checked) (s := Rows.OpenSpec.upto Rows.learnsSpec) own started (by kernel_rfl) Tryz.func7
    ⟨wl.lWorld os, fun _ _ => 0, ⟨#[], #[.string ByteArray.empty, .string ByteArray.empty, .slice none 0 0, .slice none 0 0], []⟩, wl.lWorld_os os, World.shaped_of_ZipB (by kernel_rfl) (by kernel_rfl), (Input.okWide_of_okWideB (base := 0) hok).1, (Input.okWide_of_okWideB hok).2,
      OpenSpec.preRow_of_cond 8 (reads os enc) (by kernel_rfl) (fun k hk => by cases hk; kernel_rfl) (by kernel_rfl) (wl.wit_met os _), by
        simp only [Assume.holds]
        exact ⟨by simp, by simp, fun _ => Modest.zero, by simp, by simp⟩⟩ ?_
  intro W base args ds gs before hval0 hW _ hcond _ hL _ _
  have hval : ∀ (j : Nat) t v, Tryz.f7.params[j]? = some t → args[j]? = some v → Value.okWide Tryz.prog W .any base t v := hval0
  have hW' := hW
  obtain ⟨p, q, hA0, hV, rfl, hfz, hnd⟩ := hW
  have hA : DataW.TrodAll enc Tryz.prog W 0 (fun _ => true) true Tryz.f7.params.toList args.toList ds p := hA0
  rw [Tryz.params7] at hA hval
  obtain ⟨v0, vs0, d0, ds0, p0, q0, hargs, rfl, rfl, h0, r0⟩ := trodAll_cons hA
  obtain ⟨v1, vs1, d1, ds1, p1, q1, rfl, rfl, rfl, h1, r1⟩ := trodAll_cons r0
  obtain ⟨v2, vs2, d2, ds2, p2, q2, rfl, rfl, rfl, h2, r2⟩ := trodAll_cons r1
  obtain ⟨v3, vs3, d3, ds3, p3, q3, rfl, rfl, rfl, h3, r3⟩ := trodAll_cons r2
  obtain ⟨rfl, rfl, rfl⟩ := trodAll_nil r3
  obtain rfl : args = #[v0, v1, v2, v3] := by cases args; simp_all
  obtain ⟨rfl, rfl⟩ := trodVars_none hV
  obtain ⟨a0, rfl, rfl, rfl, w0⟩ := open_string Tryz.underlying9 (hval 0 9 v0 rfl rfl) h0
  obtain ⟨a1, rfl, rfl, rfl, w1⟩ := open_string Tryz.underlying9 (hval 1 9 v1 rfl rfl) h1
  have h2k := h2
  have h3k := h3
  obtain ⟨x2, l2, c2, rfl⟩ := okWide_slice Tryz.underlying36 (hval 2 36 v2 rfl rfl)
  obtain ⟨x3, l3, c3, rfl⟩ := okWide_slice Tryz.underlying37 (hval 3 37 v3 rfl rfl)
  obtain ⟨n2, f2⟩ := h2
  obtain ⟨n3, f3⟩ := h3
  obtain ⟨xs, va, vc, e2, hn, hcell, hx⟩ := open_srcs f2
  obtain ⟨ops, sa, sc, e3, hsa, hos, hok3⟩ := open_script f3
  simp only [Value.cells, List.cons.injEq, Value.slice.injEq, and_true] at e2 e3
  dsimp only at hx hos hok3
  obtain ⟨rfl, rfl, rfl⟩ := e2
  obtain ⟨rfl, rfl, rfl⟩ := e3
  clear hA0 hval0
  have hlt : ∀ x ∈ p2 ++ p3, x.block < W.heap.size := fun x hx => hW'.lt x (by simpa using hx)
  simp only [List.append_nil] at hW'
  have hk := hcond _ rfl
  have hbulk := of_decide_eq_true hk
  simp only [Rows.uptoBulkAll, Rows.uptoBulk, List.append_nil, dlen] at hbulk
  have hN := ng3_of hL (fun _ h => h)
  have hG := hN.n2.ng.gl
  refine (learns_c W hN hG (rsigned_c W hG) W (Below.refl _ _) a0.data.toList a1.data.toList (by rw [dlen]; omega) (by rw [dlen]; omega) xs x2 c2 hn hcell (by omega) ops x3 c3 hsa (by omega) (fun o ho => by have := hok3 o ho; omega)).mono fun e W' ⟨he, hg⟩ => ?_
  subst he
  exact ⟨_, rfl, _, _, _, [], _, [], hW', trodAll_mk1 (shut_bool Tryz.underlying4 _), (trodAll_cons_mk (shut_string Tryz.underlying9 w0) (trodAll_cons_mk (shut_string Tryz.underlying9 w1) (trodAll_cons_mk (Below.trod laidOut (by kernel_rfl) (of_decide_eq_true (by kernel_rfl)) h2k (kp_below hg) (fun x hx => hlt x (by simp [hx]))) (trodAll_cons_mk (Below.trod laidOut (by kernel_rfl) (of_decide_eq_true (by kernel_rfl)) h3k (kp_below hg) (fun x hx => hlt x (by simp [hx]))) trodAll_mk0)))), rfl, (kp_below hg).frame _, fun h => by cases h⟩

theorem over : Rows.learnsUptoRow.holds Tryz.pinned (Rows.OpenSpec.upto Rows.learnsSpec) :=
  OpenClaim.holds_of_cond 7 Tryz.f7 rfl rfl rfl rfl rfl rfl rfl ⟨rfl, rfl, rfl, rfl, rfl⟩ rfl rfl rfl rfl rfl (by kernel_rfl) Tryz.func7 learns.closed
    (of_decide_eq_true (by kernel_rfl)) (by unfold Func.isWrapper; first | (rw [if_pos (by decide +kernel)]; kernel_rfl) | (rw [if_neg (by decide +kernel)]; exact ⟨rfl, rfl⟩))
    (fun os started H enc _ F => by rw [OpenClaim.pre_eq_preRow]; exact lifted os started H enc F)
theorem goes_of {P : Program} {c : OpenClaim} {f : FuncId} (hf : P.funcNamed c.func = some f) (hu : P.unfollowed f = true) (hg : P.funcs.any Func.goes = true) : true = c.goesBy P := by
  unfold OpenClaim.goesBy Program.goesAt Program.goesFrom
  rw [hf]
  simp [Program.goes, hu, hg]
theorem goes : true = Rows.learnsUptoRow.goesBy Tryz.pinned.checked.prog := goes_of (f := 7) (by kernel_rfl) (beq_iff_eq.1 f2).symm (by kernel_rfl)
end Go.Proofs.YtocligpfmfmihaaGreatDoor.learns
namespace Go.Proofs.YtocligpfmfmihaaGreatDoor
open Go
theorem learnsupto_holds : Rows.LearnsUptoCardSaid :=
  ⟨Claim7.tied_new_at .later Rows.learnsUptoCard.laidKinds true (Claim7.new_of_sixth learns.over Rows.learnsUptoCard.stood.harness true rfl ⟨rfl, rfl⟩ (by kernel_rfl) (by kernel_rfl)
    (fun f fn hf hfn => by
      obtain rfl : f = 7 := Option.some.inj ((show Tryz.prog.funcNamed "notary/notarylaw.Learns" = some 7 by kernel_rfl).symm.trans hf) |>.symm
      obtain rfl : fn = Tryz.f7 := (Option.some.inj (Tryz.func7.symm.trans hfn)).symm
      exact ⟨by kernel_rfl, fun j t ht => by
        rw [Tryz.params7] at ht
        have hm : t ∈ [9, 9, 36, 37] := by simpa using Array.mem_of_getElem? ht
        have hall : ([9, 9, 36, 37].all fun u => !Tryz.prog.wantsStandIn u) = true := by kernel_rfl
        exact (show Tryz.prog.wantsStandIn t = false by simpa using List.all_eq_true.1 hall t hm)⟩)) (by kernel_rfl),
   (fun D hD => by cases hD), learnsUpto_row_tie, (fun h => by cases h), learns.goes⟩
#print axioms learnsupto_holds
end Go.Proofs.YtocligpfmfmihaaGreatDoor

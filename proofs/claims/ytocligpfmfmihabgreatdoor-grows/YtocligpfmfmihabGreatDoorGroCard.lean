import Derived.Test.YtocligpfmfmihabGreatDoorGrwOG
import Derived.Test.YtocligpfmfmihabGreatDoorLf3G
import Derived.Test.YtocligpfmfmihabGreatDoorGroF
import Derived.Test.YtocligpfmfmihabGreatDoorTie
import Derived.Test.YtocligpfmfmihabGreatDoorCards
import Derived.SevenTiedAt
import Derived.ProofKit
import Derived.OpenShut
import Derived.ShutString
import Derived.LaidLaws
import Derived.Carry
import Derived.Deep.DeepHandedRow
import Derived.Stop.Joined
namespace Go.Proofs.YtocligpfmfmihabGreatDoor.grows
open Go Go.ChangeShapes Go.WideShapes Go.ChangeAt Go.RowKit
open Go.ChangeMaps (open_string shut_string)

theorem own : ownKnob Tryz.prog.godebug = none := by kernel_rfl
theorem kp_frame {w w' : World} (h : Kp (fun _ => False) w w') (ps : MemPlace → Prop) : w.keptBut w' ps := (show Below w.heap.size w w' from ⟨h.os, h.tape, h.output, h.size, fun k hk => h.block k hk (by simp)⟩).frame ps

theorem laidOut : laidOutB Tryz.prog = true := by kernel_rfl
theorem gkp_below {w w' : World} (h : Kp (fun _ => False) w w') : Below w.heap.size w w' := ⟨h.os, h.tape, h.output, h.size, fun k hk => h.block k hk (by simp)⟩
theorem lit_i64 {n : Int} (h : (Lit.int .i64 n).wf = true) : -9223372036854775808 ≤ n ∧ n ≤ 9223372036854775807 := by
  simp only [Lit.wf, Bool.and_eq_true, decide_eq_true_eq] at h
  exact h

set_option maxRecDepth 100000 in
theorem lifted (os : Os) (started : os.Started) (H : Type) (enc : TypeId × Value → H) :
    ReturnsInHanded {} Tryz.checked os 4 .any (fun w args => (Rows.growsSpec.pre enc Tryz.prog Tryz.f4 [] false w args ∧ laidMetH Tryz.prog Rows.growsRow.laid w) ∧ sizedMet enc Tryz.prog Tryz.f4 (OpenSpec.ofChange Rows.growsSpec) false w args)
      (Rows.growsSpec.post enc Tryz.prog Tryz.f4 false true false false) := by
  refine returnsInHanded_of_change_and (C := Tryz.checked) (X := fun w _ => laidMetH Tryz.prog Rows.growsRow.laid w) (fun _ _ _ hh h => laidMetH.of_heap hh h) own started (by kernel_rfl) Tryz.func4
    (ChangeSpec.witness_shaped (enc := enc) (C := Tryz.checked) (os := os) (X := fun w _ => laidMetH Tryz.prog Rows.growsRow.laid w) false (wl.lWorld os) #[.string ByteArray.empty, .string ByteArray.empty, .int .i64 0, .slice none 0 0, .int .i64 0] 8 (wl.lWorld_os os) (World.shaped_of_ZipB (by kernel_rfl) (by kernel_rfl)) (by kernel_rfl) (by kernel_rfl) (by kernel_rfl) (wl.wit_met os _)) ?_
  intro W base args ds gs before hval0 hW _ hwt hL _
  have hval : ∀ (j : Nat) t v, Tryz.f4.params[j]? = some t → args[j]? = some v → Value.okWide Tryz.prog W .any base t v := hval0
  have hW' := hW
  obtain ⟨p, q, hA0, hV, rfl, hfz, hnd⟩ := hW
  have hA : DataW.TrodAll enc Tryz.prog W 0 (fun _ => true) true Tryz.f4.params.toList args.toList ds p := hA0
  rw [Tryz.params4] at hA hval
  obtain ⟨v0, vs0, d0, ds0, p0, q0, hargs, rfl, rfl, h0, r0⟩ := trodAll_cons hA
  obtain ⟨v1, vs1, d1, ds1, p1, q1, rfl, rfl, rfl, h1, r1⟩ := trodAll_cons r0
  obtain ⟨v2, vs2, d2, ds2, p2, q2, rfl, rfl, rfl, h2, r2⟩ := trodAll_cons r1
  obtain ⟨v3, vs3, d3, ds3, p3, q3, rfl, rfl, rfl, h3, r3⟩ := trodAll_cons r2
  obtain ⟨v4, vs4, d4, ds4, p4, q4, rfl, rfl, rfl, h4, r4⟩ := trodAll_cons r3
  obtain ⟨rfl, rfl, rfl⟩ := trodAll_nil r4
  obtain rfl : args = #[v0, v1, v2, v3, v4] := by cases args; simp_all
  obtain ⟨rfl, rfl⟩ := trodVars_none hV
  obtain ⟨a0, rfl, rfl, rfl, w0⟩ := open_string Tryz.underlying9 (hval 0 9 v0 rfl rfl) h0
  obtain ⟨a1, rfl, rfl, rfl, w1⟩ := open_string Tryz.underlying9 (hval 1 9 v1 rfl rfl) h1
  obtain ⟨n2, rfl, rfl, rfl, w2⟩ := open_int Tryz.underlying2 (hval 2 2 v2 rfl rfl) h2
  obtain ⟨n4, rfl, rfl, rfl, w4⟩ := open_int Tryz.underlying2 (hval 4 2 v4 rfl rfl) h4
  have h3k := h3
  obtain ⟨x3, l3, c3, rfl⟩ := okWide_slice Tryz.underlying26 (hval 3 26 v3 rfl rfl)
  obtain ⟨m3, f3⟩ := h3
  obtain ⟨xs, va, vc, e3, hS, hx⟩ := open_docs1 f3
  simp only [Value.cells, List.cons.injEq, Value.slice.injEq, and_true] at e3
  dsimp only at hx
  obtain ⟨rfl, rfl, rfl⟩ := e3
  have hxl : xs.length ≤ 9000000000000 := by
    rcases hx with ⟨el, sp, rfl, hle⟩ | hx
    · have hb : Tryz.prog.bytesOf 9 = 16 := by kernel_rfl
      have hm : (el.length + sp.length) * Tryz.prog.bytesOf 9 ∈ DataW.weightsEach Tryz.prog (Tryz.f4.params.toList ++ Rows.growsSpec.plain.varTypes Tryz.prog) ([.lit (.string a0.data.toList), .lit (.string a1.data.toList), .lit (.int .i64 n2), .slice el sp, .lit (.int .i64 n4)] ++ []) := by
        rw [Tryz.params4]
        simp [DataW.weightsEach, DataW.weights, Tryz.underlying26]
      have hle2 := of_decide_eq_true (List.all_eq_true.1 hwt _ hm)
      rw [hb] at hle2
      unfold reachBytes at hle2
      omega
    · omega
  clear hA0 hval0 hwt hx
  have hlt : ∀ x ∈ p3, x.block < W.heap.size := fun x hx => hW'.lt x (by simpa using hx)
  simp only [List.append_nil] at hW'
  have e0 : a0 = ⟨a0.data.toList.toArray⟩ := by cases a0; simp
  have e1 : a1 = ⟨a1.data.toList.toArray⟩ := by cases a1; simp
  have z0 : a0.data.toList.length ≤ 9223372036854775807 := by rw [Array.length_toList]; exact w0
  have z1 : a1.data.toList.length ≤ 9223372036854775807 := by rw [Array.length_toList]; exact w1
  have hgr := grows_c W (ng3g_of hL (fun _ h => h)) a0.data.toList a1.data.toList z0 z1 n2 n4 (lit_i64 w2) (lit_i64 w4) xs x3 c3 hS hxl (sdocF kNn kFir kKk (momS n2) :: xs) (by rw [List.length_cons]; omega) (fun t ht r hr => List.mem_cons_of_mem _ ht) (by simp)
  rw [← e0, ← e1] at hgr
  refine hgr.mono fun e W' ⟨he, hg⟩ => ?_
  subst he
  exact ⟨_, rfl, _, _, _, [], _, [], hW', trodAll_mk1 (shut_bool Tryz.underlying4 _), (trodAll_cons_mk (shut_string Tryz.underlying9 w0) (trodAll_cons_mk (shut_string Tryz.underlying9 w1) (trodAll_cons_mk (shut_int Tryz.underlying2 w2) (trodAll_cons_mk (Below.trod laidOut (by kernel_rfl) (of_decide_eq_true (by kernel_rfl)) h3k (gkp_below hg) (fun x hx => hlt x (by simp [hx]))) (trodAll_cons_mk (shut_int Tryz.underlying2 w4) trodAll_mk0))))), rfl, kp_frame hg _, fun h => by cases h⟩

theorem over : Rows.growsRow.holds Tryz.pinned (OpenSpec.ofChange Rows.growsSpec) :=
  OpenClaim.holds_of_wide 4 Tryz.f4 rfl rfl rfl rfl rfl rfl rfl ⟨rfl, rfl, rfl, rfl, rfl⟩ rfl rfl rfl rfl rfl (by kernel_rfl) Tryz.func4 grows.closed
    (of_decide_eq_true (by kernel_rfl)) (by unfold Func.isWrapper; first | (rw [if_pos (by decide +kernel)]; kernel_rfl) | (rw [if_neg (by decide +kernel)]; exact ⟨rfl, rfl⟩))
    (fun os started H enc _ => lifted os started H enc)
end Go.Proofs.YtocligpfmfmihabGreatDoor.grows
namespace Go.Proofs.YtocligpfmfmihabGreatDoor
open Go
theorem grows_holds : Rows.GrowsCardSaid :=
  ⟨Claim7.tied_new_at .later Rows.growsCard.laidKinds true (Claim7.new_of_sixth grows.over Rows.growsCard.stood.harness true rfl ⟨rfl, rfl⟩ (by kernel_rfl) (by kernel_rfl)
    (fun f fn hf hfn => by
      obtain rfl : f = 4 := Option.some.inj ((show Tryz.prog.funcNamed "notary/notarykeep.Grows" = some 4 by kernel_rfl).symm.trans hf) |>.symm
      obtain rfl : fn = Tryz.f4 := (Option.some.inj (Tryz.func4.symm.trans hfn)).symm
      exact ⟨by kernel_rfl, fun j t ht => by
        rw [Tryz.params4] at ht
        have hm : t ∈ [9, 9, 2, 26, 2] := by simpa using Array.mem_of_getElem? ht
        have hall : ([9, 9, 2, 26, 2].all fun u => !Tryz.prog.wantsStandIn u) = true := by kernel_rfl
        exact (show Tryz.prog.wantsStandIn t = false by simpa using List.all_eq_true.1 hall t hm)⟩)) (by kernel_rfl),
   (fun D hD => by cases hD), grows_row_tie, (fun h => by cases h), by kernel_rfl⟩
#print axioms grows_holds
end Go.Proofs.YtocligpfmfmihabGreatDoor

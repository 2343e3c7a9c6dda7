import Derived.Test.YtocligpfmfmihabGreatDoorGrwOG
import Derived.Test.YtocligpfmfmihabGreatDoorChn5wG
import Derived.Test.YtocligpfmfmihabGreatDoorRea10G
import Derived.Lay
import Derived.LaidHandle
import Derived.Stop.Joined
namespace Go.Proofs.YtocligpfmfmihabGreatDoor
open Go Go.RowKit Go.ChangeShapes Go.Lib Go.Shelf

theorem gn_errKind : Tryz.prog.globalNamed "notary/notary.errKind" = some 9 ∧ (Tryz.prog.globals[9]?).map (·.type) = some 58 := ⟨by kernel_rfl, by kernel_rfl⟩
theorem gn_errName : Tryz.prog.globalNamed "notary/notary.errName" = some 12 ∧ (Tryz.prog.globals[12]?).map (·.type) = some 58 := ⟨by kernel_rfl, by kernel_rfl⟩
theorem gn_errBelow : Tryz.prog.globalNamed "notary/notary.errBelow" = some 10 ∧ (Tryz.prog.globals[10]?).map (·.type) = some 58 := ⟨by kernel_rfl, by kernel_rfl⟩
theorem gn_errCount : Tryz.prog.globalNamed "notary/notary.errCount" = some 13 ∧ (Tryz.prog.globals[13]?).map (·.type) = some 58 := ⟨by kernel_rfl, by kernel_rfl⟩
theorem gn_errBoth : Tryz.prog.globalNamed "notary/notary.errBoth" = some 14 ∧ (Tryz.prog.globals[14]?).map (·.type) = some 58 := ⟨by kernel_rfl, by kernel_rfl⟩
theorem gn_errSignature : Tryz.prog.globalNamed "notary/notary.errSignature" = some 2 ∧ (Tryz.prog.globals[2]?).map (·.type) = some 58 := ⟨by kernel_rfl, by kernel_rfl⟩
theorem sub_reads : ∀ x ∈ ordL, x ∈ Rows.growsRow.laid := by
  intro x hx
  rcases List.mem_iff_getElem?.1 hx with ⟨i, hi⟩
  match i, hi with
  | 0, hi => exact (Option.some.inj hi) ▸ List.mem_of_getElem? (i := 0) rfl
  | 1, hi => exact (Option.some.inj hi) ▸ List.mem_of_getElem? (i := 1) rfl
  | 2, hi => exact (Option.some.inj hi) ▸ List.mem_of_getElem? (i := 2) rfl
  | 3, hi => exact (Option.some.inj hi) ▸ List.mem_of_getElem? (i := 3) rfl
  | 4, hi => exact (Option.some.inj hi) ▸ List.mem_of_getElem? (i := 4) rfl
  | 5, hi => exact (Option.some.inj hi) ▸ List.mem_of_getElem? (i := 5) rfl
  | 6, hi => exact (Option.some.inj hi) ▸ List.mem_of_getElem? (i := 6) rfl
  | 7, hi => exact (Option.some.inj hi) ▸ List.mem_of_getElem? (i := 7) rfl
  | 8, hi => exact (Option.some.inj hi) ▸ List.mem_of_getElem? (i := 8) rfl
  | 9, hi => exact (Option.some.inj hi) ▸ List.mem_of_getElem? (i := 9) rfl
  | 10, hi => exact (Option.some.inj hi) ▸ List.mem_of_getElem? (i := 10) rfl
  | 11, hi => exact (Option.some.inj hi) ▸ List.mem_of_getElem? (i := 11) rfl
  | 12, hi => exact (Option.some.inj hi) ▸ List.mem_of_getElem? (i := 12) rfl
  | 13, hi => exact (Option.some.inj hi) ▸ List.mem_of_getElem? (i := 13) rfl
  | 14, hi => exact (Option.some.inj hi) ▸ List.mem_of_getElem? (i := 14) rfl
  | 15, hi => exact (Option.some.inj hi) ▸ List.mem_of_getElem? (i := 15) rfl
  | 16, hi => exact (Option.some.inj hi) ▸ List.mem_of_getElem? (i := 16) rfl
  | 17, hi => exact (Option.some.inj hi) ▸ List.mem_of_getElem? (i := 17) rfl
  | 18, hi => exact (Option.some.inj hi) ▸ List.mem_of_getElem? (i := 18) rfl
  | 19, hi => exact (Option.some.inj hi) ▸ List.mem_of_getElem? (i := 20) rfl
  | 20, hi => exact (Option.some.inj hi) ▸ List.mem_of_getElem? (i := 21) rfl
  | 21, hi => exact (Option.some.inj hi) ▸ List.mem_of_getElem? (i := 27) rfl
  | n + 22, hi => cases hi
theorem Sen.plain {W : World} {g : Nat} {x a b c d : List UInt8} (h : Sen W g x) (h1 : Sen W 3 a) (h2 : Sen W 4 b) (h3 : Sen W 5 c) (h4 : Sen W 1 d)
    (n1 : x ≠ a) (n2 : x ≠ b) (n3 : x ≠ c) (n4 : x ≠ d) : ∃ q, W.cell? ⟨g, 0, none⟩ = some (errV q) ∧ Plain W q := by
  have h' := h
  obtain ⟨ad, s, cc, t, e1, e2, e3, e4⟩ := h
  refine ⟨ad, e1, ⟨cc, t, e4⟩, ?_⟩
  intro k hk
  simp only [four, List.mem_cons, List.not_mem_nil, or_false] at hk
  rcases hk with rfl | rfl | rfl | rfl
  · exact h'.ne h1 n1 ad e1
  · exact h'.ne h2 n2 ad e1
  · exact h'.ne h3 n3 ad e1
  · exact h'.ne h4 n4 ad e1
/-- What the listed variables give, for documents. -/
theorem ng2_of {L : List (String × DataW Unit)} {W : World} (h : laidMetH Tryz.prog L W) (hm : ∀ x ∈ Rows.growsRow.laid, x ∈ L) : NG2 W := by
  obtain ⟨h1, h2⟩ := laidMetH_iff.1 h
  have m : ∀ (i : Nat) (x : String × DataW Unit), Rows.growsRow.laid[i]? = some x → x.2.handleName?.isNone = true → x ∈ L.filter fun x => x.2.handleName?.isNone :=
    fun i x hi hx => List.mem_filter.2 ⟨hm x (List.mem_of_getElem? hi), hx⟩
  have s_errLong : Sen W 3 (txt Rows.laid_notary_notary_errLong) := sen_of h1 (m 17 ("notary/notary.errLong", Rows.laid_notary_notary_errLong) rfl rfl) rfl gn_errLong.1 gn_errLong.2
  have s_errObject : Sen W 4 (txt Rows.laid_notary_notary_errObject) := sen_of h1 (m 18 ("notary/notary.errObject", Rows.laid_notary_notary_errObject) rfl rfl) rfl gn_errObject.1 gn_errObject.2
  have s_errConflict : Sen W 5 (txt Rows.laid_notary_notary_errConflict) := sen_of h1 (m 20 ("notary/notary.errConflict", Rows.laid_notary_notary_errConflict) rfl rfl) rfl gn_errConflict.1 gn_errConflict.2
  have s_errUnknown : Sen W 1 (txt Rows.laid_notary_notary_errUnknown) := sen_of h1 (m 21 ("notary/notary.errUnknown", Rows.laid_notary_notary_errUnknown) rfl rfl) rfl gn_errUnknown.1 gn_errUnknown.2
  have s_errKind : Sen W 9 (txt Rows.laid_notary_notary_errKind) := sen_of h1 (m 22 ("notary/notary.errKind", Rows.laid_notary_notary_errKind) rfl rfl) rfl gn_errKind.1 gn_errKind.2
  have s_errName : Sen W 12 (txt Rows.laid_notary_notary_errName) := sen_of h1 (m 23 ("notary/notary.errName", Rows.laid_notary_notary_errName) rfl rfl) rfl gn_errName.1 gn_errName.2
  have s_errBelow : Sen W 10 (txt Rows.laid_notary_notary_errBelow) := sen_of h1 (m 24 ("notary/notary.errBelow", Rows.laid_notary_notary_errBelow) rfl rfl) rfl gn_errBelow.1 gn_errBelow.2
  have s_errCount : Sen W 13 (txt Rows.laid_notary_notary_errCount) := sen_of h1 (m 25 ("notary/notary.errCount", Rows.laid_notary_notary_errCount) rfl rfl) rfl gn_errCount.1 gn_errCount.2
  have s_errBoth : Sen W 14 (txt Rows.laid_notary_notary_errBoth) := sen_of h1 (m 26 ("notary/notary.errBoth", Rows.laid_notary_notary_errBoth) rfl rfl) rfl gn_errBoth.1 gn_errBoth.2
  have s_errSignature : Sen W 2 (txt Rows.laid_notary_notary_errSignature) := sen_of h1 (m 19 ("notary/notary.errSignature", Rows.laid_notary_notary_errSignature) rfl rfl) rfl gn_errSignature.1 gn_errSignature.2
  refine ⟨ng_of h (fun x hx => hm x (sub_reads x hx)), ?_, ?_⟩
  · intro g hg
    simp only [four, List.mem_cons, List.not_mem_nil, or_false] at hg
    rcases hg with rfl | rfl | rfl | rfl
    · exact s_errLong.three
    · exact s_errObject.three
    · exact s_errConflict.three
    · exact s_errUnknown.three
  · intro g hg
    simp only [List.mem_cons, List.not_mem_nil, or_false] at hg
    rcases hg with rfl | rfl | rfl | rfl | rfl | rfl
    · exact s_errKind.plain s_errLong s_errObject s_errConflict s_errUnknown (by decide) (by decide) (by decide) (by decide)
    · exact s_errName.plain s_errLong s_errObject s_errConflict s_errUnknown (by decide) (by decide) (by decide) (by decide)
    · exact s_errBelow.plain s_errLong s_errObject s_errConflict s_errUnknown (by decide) (by decide) (by decide) (by decide)
    · exact s_errCount.plain s_errLong s_errObject s_errConflict s_errUnknown (by decide) (by decide) (by decide) (by decide)
    · exact s_errBoth.plain s_errLong s_errObject s_errConflict s_errUnknown (by decide) (by decide) (by decide) (by decide)
    · exact s_errSignature.plain s_errLong s_errObject s_errConflict s_errUnknown (by decide) (by decide) (by decide) (by decide)
end Go.Proofs.YtocligpfmfmihabGreatDoor
namespace Go.Proofs.YtocligpfmfmihabGreatDoor
open Go Go.RowKit Go.ChangeShapes Go.Lib Go.Shelf

/-- What the listed variables give, for notaries. -/
theorem ng3g_of {L : List (String × DataW Unit)} {W : World} (h : laidMetH Tryz.prog L W) (hm : ∀ x ∈ Rows.growsRow.laid, x ∈ L) : NG3 W := by
  obtain ⟨h1, h2⟩ := laidMetH_iff.1 h
  have m : ∀ (i : Nat) (x : String × DataW Unit), Rows.growsRow.laid[i]? = some x → x.2.handleName?.isNone = true → x ∈ L.filter fun x => x.2.handleName?.isNone :=
    fun i x hi hx => List.mem_filter.2 ⟨hm x (List.mem_of_getElem? hi), hx⟩
  have s_errLong : Sen W 3 (txt Rows.laid_notary_notary_errLong) := sen_of h1 (m 17 ("notary/notary.errLong", Rows.laid_notary_notary_errLong) rfl rfl) rfl gn_errLong.1 gn_errLong.2
  have s_errObject : Sen W 4 (txt Rows.laid_notary_notary_errObject) := sen_of h1 (m 18 ("notary/notary.errObject", Rows.laid_notary_notary_errObject) rfl rfl) rfl gn_errObject.1 gn_errObject.2
  have s_errConflict : Sen W 5 (txt Rows.laid_notary_notary_errConflict) := sen_of h1 (m 20 ("notary/notary.errConflict", Rows.laid_notary_notary_errConflict) rfl rfl) rfl gn_errConflict.1 gn_errConflict.2
  have s_errUnknown : Sen W 1 (txt Rows.laid_notary_notary_errUnknown) := sen_of h1 (m 21 ("notary/notary.errUnknown", Rows.laid_notary_notary_errUnknown) rfl rfl) rfl gn_errUnknown.1 gn_errUnknown.2
  refine ⟨ng2_of h hm, ?_⟩
  · intro g hg g' hg' hne a ha
    simp only [four, List.mem_cons, List.not_mem_nil, or_false] at hg hg'
    rcases hg with rfl | rfl | rfl | rfl <;> rcases hg' with rfl | rfl | rfl | rfl
    · exact absurd rfl hne
    · exact s_errLong.ne s_errObject (by decide) a ha
    · exact s_errLong.ne s_errConflict (by decide) a ha
    · exact s_errLong.ne s_errUnknown (by decide) a ha
    · exact s_errObject.ne s_errLong (by decide) a ha
    · exact absurd rfl hne
    · exact s_errObject.ne s_errConflict (by decide) a ha
    · exact s_errObject.ne s_errUnknown (by decide) a ha
    · exact s_errConflict.ne s_errLong (by decide) a ha
    · exact s_errConflict.ne s_errObject (by decide) a ha
    · exact absurd rfl hne
    · exact s_errConflict.ne s_errUnknown (by decide) a ha
    · exact s_errUnknown.ne s_errLong (by decide) a ha
    · exact s_errUnknown.ne s_errObject (by decide) a ha
    · exact s_errUnknown.ne s_errConflict (by decide) a ha
    · exact absurd rfl hne
end Go.Proofs.YtocligpfmfmihabGreatDoor
namespace Go.Proofs.YtocligpfmfmihabGreatDoor.wl
open Go

/-- The listed variables but the type's handle. -/
noncomputable def plainL : List (String × DataW Unit) := Rows.growsRow.laid.filter fun x => x.2.handleName?.isNone
/-- A world in which the handle is laid. -/
noncomputable def hWorld (os : Os) : World :=
  let w0 := World.holding Tryz.prog os ⟨#[], #[], []⟩
  { w0 with heap := w0.heap.modify 6 fun
      | .cells _ t frozen => .cells #[.iface 237 ((Value.agg #[Value.pointer (some (Addr.mk 31 58 none))]))] t frozen
      | o => o }
/-- .. and all the rest. -/
noncomputable def lWorld (os : Os) : World := (hWorld os).layVars Tryz.prog plainL
theorem lWorld_os (os : Os) : (lWorld os).os = os := World.layVars_os _ _ _
theorem wit_fits (os : Os) : (hWorld os).layFits Tryz.prog plainL [] = true := by kernel_rfl
theorem wit_ifaces (os : Os) : (hWorld os).layIfaces Tryz.prog plainL (lWorld os) = true := by kernel_rfl
theorem wit_handle (os : Os) : ((Rows.growsRow.laid.filter fun x => x.2.handleName?.isSome).all (handleAtB Tryz.prog (lWorld os))) = true := by kernel_rfl
theorem wit_laid (os : Os) : laidMetH Tryz.prog Rows.growsRow.laid (lWorld os) := by
  refine laidMetH_of_parts ?_ (wit_handle os)
  show laidMet Tryz.prog plainL (lWorld os)
  have e1 : (plainL.filter fun x => (plainL.map (·.1)).contains x.1) = plainL := List.filter_eq_self.2 fun x hx => List.contains_iff_mem.2 (List.mem_map.2 ⟨x, hx, rfl⟩)
  have e2 : (plainL.filter fun x => !(plainL.map (·.1)).contains x.1) = [] := List.filter_eq_nil_iff.2 fun x hx => by rw [List.contains_iff_mem.2 (List.mem_map.2 ⟨x, hx, rfl⟩)]; simp
  exact laidMet_layVars (w0 := hWorld os) (plainL.map (·.1)) [] (by rw [e1]; rfl) (by rw [e1]; exact wit_fits os) (by rw [e1]; exact wit_ifaces os) (by rw [e2]; exact LaidIn.none)
theorem wit_met (os : Os) (args : Array Value) : laidMetH Tryz.prog Rows.growsRow.laid ((lWorld os).forCall (fun _ _ => 0) ⟨#[], args, []⟩).memory :=
  laidMetH.of_heap (w := lWorld os) (by simp [World.memory, World.forCall, Input.heap]) (wit_laid os)
end Go.Proofs.YtocligpfmfmihabGreatDoor.wl

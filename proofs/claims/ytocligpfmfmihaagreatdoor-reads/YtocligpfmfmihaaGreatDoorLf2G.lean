import Derived.Test.YtocligpfmfmihaaGreatDoorPr13G
import Derived.Test.YtocligpfmfmihaaGreatDoorRef27G
namespace Go.Proofs.YtocligpfmfmihaaGreatDoor
open Go Go.RowKit Go.ChangeShapes Go.Lib Go.Shelf

def u8R : Ren := ⟨fun x => x, fun | 5 => 5 | 119 => 139 | 138 => 141 | 139 => 142 | _ => 0, fun | 3 => 4 | 4 => 5 | _ => 0⟩
theorem u8T : U8Types Tryz.prog u8R := ⟨Tryz.underlying5, Tryz.underlying139, Tryz.underlying141, Tryz.underlying142⟩
theorem u8X : U8Extra Tryz.prog u8R := ⟨by kernel_rfl, by kernel_rfl, by kernel_rfl, by kernel_rfl, by kernel_rfl, by kernel_rfl, by kernel_rfl⟩
theorem firstD : Rows.laid_unicode_utf8_first = firstData := by kernel_rfl
theorem accD : (Rows.laid_unicode_utf8_acceptRanges : DataW Unit) = acceptData := by kernel_rfl
theorem powD : (Rows.laid_internal_strconv_uint64pow10 : DataW Unit) = tabData .u64 pow10Tab := by kernel_rfl
theorem rtT : (Tryz.prog.cutTypes.find? (·.1 == "internal/reflectlite.rtype")).map (·.2) = some 289 := by kernel_rfl
theorem oneRow : ((List.range 446).filter fun t => Tryz.prog.rowNamed t [101, 114, 114, 111, 114]) = [61] := by kernel_rfl
theorem typesN : Tryz.prog.types.size = 446 := by kernel_rfl
theorem etG : Tryz.prog.globalNamed "errors.errorType" = some 9 := by kernel_rfl
theorem powG : Tryz.prog.globalNamed "internal/strconv.uint64pow10" = some 28 := by kernel_rfl
theorem powY : (Tryz.prog.globals[28]?).map (·.type) = some 393 := by kernel_rfl
theorem c8 : Tryz.prog.cellsOf 241 = 1 := by kernel_rfl
theorem c20 : Tryz.prog.cellsOf 393 = 20 := by kernel_rfl
theorem lastG : Tryz.prog.globalNamed "math/bits.deBruijn64tab" = some 30 := by kernel_rfl
theorem gn_errUTF8 : Tryz.prog.globalNamed "notary/value.errUTF8" = some 10 ∧ (Tryz.prog.globals[10]?).map (·.type) = some 61 := ⟨by kernel_rfl, by kernel_rfl⟩
theorem gn_errEnd : Tryz.prog.globalNamed "notary/value.errEnd" = some 24 ∧ (Tryz.prog.globals[24]?).map (·.type) = some 61 := ⟨by kernel_rfl, by kernel_rfl⟩
theorem gn_errRest : Tryz.prog.globalNamed "notary/value.errRest" = some 8 ∧ (Tryz.prog.globals[8]?).map (·.type) = some 61 := ⟨by kernel_rfl, by kernel_rfl⟩
theorem gn_errSign : Tryz.prog.globalNamed "notary/value.errSign" = some 19 ∧ (Tryz.prog.globals[19]?).map (·.type) = some 61 := ⟨by kernel_rfl, by kernel_rfl⟩
theorem gn_errDeep : Tryz.prog.globalNamed "notary/value.errDeep" = some 23 ∧ (Tryz.prog.globals[23]?).map (·.type) = some 61 := ⟨by kernel_rfl, by kernel_rfl⟩
theorem gn_errNumber : Tryz.prog.globalNamed "notary/value.errNumber" = some 22 ∧ (Tryz.prog.globals[22]?).map (·.type) = some 61 := ⟨by kernel_rfl, by kernel_rfl⟩
theorem gn_errGreat : Tryz.prog.globalNamed "notary/value.errGreat" = some 21 ∧ (Tryz.prog.globals[21]?).map (·.type) = some 61 := ⟨by kernel_rfl, by kernel_rfl⟩
theorem gn_errControl : Tryz.prog.globalNamed "notary/value.errControl" = some 20 ∧ (Tryz.prog.globals[20]?).map (·.type) = some 61 := ⟨by kernel_rfl, by kernel_rfl⟩
theorem gn_errEscape : Tryz.prog.globalNamed "notary/value.errEscape" = some 25 ∧ (Tryz.prog.globals[25]?).map (·.type) = some 61 := ⟨by kernel_rfl, by kernel_rfl⟩
theorem gn_errSurrogate : Tryz.prog.globalNamed "notary/value.errSurrogate" = some 27 ∧ (Tryz.prog.globals[27]?).map (·.type) = some 61 := ⟨by kernel_rfl, by kernel_rfl⟩
theorem gn_errTwice : Tryz.prog.globalNamed "notary/value.errTwice" = some 18 ∧ (Tryz.prog.globals[18]?).map (·.type) = some 61 := ⟨by kernel_rfl, by kernel_rfl⟩
theorem gn_errInside : Tryz.prog.globalNamed "notary/value.errInside" = some 12 ∧ (Tryz.prog.globals[12]?).map (·.type) = some 61 := ⟨by kernel_rfl, by kernel_rfl⟩
theorem gn_errLong : Tryz.prog.globalNamed "notary/notary.errLong" = some 0 ∧ (Tryz.prog.globals[0]?).map (·.type) = some 61 := ⟨by kernel_rfl, by kernel_rfl⟩
theorem gn_errObject : Tryz.prog.globalNamed "notary/notary.errObject" = some 1 ∧ (Tryz.prog.globals[1]?).map (·.type) = some 61 := ⟨by kernel_rfl, by kernel_rfl⟩
theorem gn_errConflict : Tryz.prog.globalNamed "notary/notary.errConflict" = some 2 ∧ (Tryz.prog.globals[2]?).map (·.type) = some 61 := ⟨by kernel_rfl, by kernel_rfl⟩
theorem gn_errUnknown : Tryz.prog.globalNamed "notary/notary.errUnknown" = some 3 ∧ (Tryz.prog.globals[3]?).map (·.type) = some 61 := ⟨by kernel_rfl, by kernel_rfl⟩

/-- What the listed variables give. -/
theorem ng_of {L : List (String × DataW Unit)} {W : World} (h : laidMetH Tryz.prog L W) (hm : ∀ x ∈ Rows.orderedRow.laid, x ∈ L) : NG W := by
  obtain ⟨h1, h2⟩ := laidMetH_iff.1 h
  have m : ∀ (i : Nat) (x : String × DataW Unit), Rows.orderedRow.laid[i]? = some x → x.2.handleName?.isNone = true → x ∈ L.filter fun x => x.2.handleName?.isNone :=
    fun i x hi hx => List.mem_filter.2 ⟨hm x (List.mem_of_getElem? hi), hx⟩
  have s_errUTF8 : Sen W 10 (txt Rows.laid_notary_value_errUTF8) := sen_of h1 (m 5 ("notary/value.errUTF8", Rows.laid_notary_value_errUTF8) rfl rfl) rfl gn_errUTF8.1 gn_errUTF8.2
  have s_errEnd : Sen W 24 (txt Rows.laid_notary_value_errEnd) := sen_of h1 (m 6 ("notary/value.errEnd", Rows.laid_notary_value_errEnd) rfl rfl) rfl gn_errEnd.1 gn_errEnd.2
  have s_errRest : Sen W 8 (txt Rows.laid_notary_value_errRest) := sen_of h1 (m 7 ("notary/value.errRest", Rows.laid_notary_value_errRest) rfl rfl) rfl gn_errRest.1 gn_errRest.2
  have s_errSign : Sen W 19 (txt Rows.laid_notary_value_errSign) := sen_of h1 (m 8 ("notary/value.errSign", Rows.laid_notary_value_errSign) rfl rfl) rfl gn_errSign.1 gn_errSign.2
  have s_errDeep : Sen W 23 (txt Rows.laid_notary_value_errDeep) := sen_of h1 (m 9 ("notary/value.errDeep", Rows.laid_notary_value_errDeep) rfl rfl) rfl gn_errDeep.1 gn_errDeep.2
  have s_errNumber : Sen W 22 (txt Rows.laid_notary_value_errNumber) := sen_of h1 (m 10 ("notary/value.errNumber", Rows.laid_notary_value_errNumber) rfl rfl) rfl gn_errNumber.1 gn_errNumber.2
  have s_errGreat : Sen W 21 (txt Rows.laid_notary_value_errGreat) := sen_of h1 (m 11 ("notary/value.errGreat", Rows.laid_notary_value_errGreat) rfl rfl) rfl gn_errGreat.1 gn_errGreat.2
  have s_errControl : Sen W 20 (txt Rows.laid_notary_value_errControl) := sen_of h1 (m 12 ("notary/value.errControl", Rows.laid_notary_value_errControl) rfl rfl) rfl gn_errControl.1 gn_errControl.2
  have s_errEscape : Sen W 25 (txt Rows.laid_notary_value_errEscape) := sen_of h1 (m 13 ("notary/value.errEscape", Rows.laid_notary_value_errEscape) rfl rfl) rfl gn_errEscape.1 gn_errEscape.2
  have s_errSurrogate : Sen W 27 (txt Rows.laid_notary_value_errSurrogate) := sen_of h1 (m 14 ("notary/value.errSurrogate", Rows.laid_notary_value_errSurrogate) rfl rfl) rfl gn_errSurrogate.1 gn_errSurrogate.2
  have s_errTwice : Sen W 18 (txt Rows.laid_notary_value_errTwice) := sen_of h1 (m 15 ("notary/value.errTwice", Rows.laid_notary_value_errTwice) rfl rfl) rfl gn_errTwice.1 gn_errTwice.2
  have s_errInside : Sen W 12 (txt Rows.laid_notary_value_errInside) := sen_of h1 (m 16 ("notary/value.errInside", Rows.laid_notary_value_errInside) rfl rfl) rfl gn_errInside.1 gn_errInside.2
  have s_errLong : Sen W 0 (txt Rows.laid_notary_notary_errLong) := sen_of h1 (m 17 ("notary/notary.errLong", Rows.laid_notary_notary_errLong) rfl rfl) rfl gn_errLong.1 gn_errLong.2
  have s_errObject : Sen W 1 (txt Rows.laid_notary_notary_errObject) := sen_of h1 (m 18 ("notary/notary.errObject", Rows.laid_notary_notary_errObject) rfl rfl) rfl gn_errObject.1 gn_errObject.2
  have s_errConflict : Sen W 2 (txt Rows.laid_notary_notary_errConflict) := sen_of h1 (m 19 ("notary/notary.errConflict", Rows.laid_notary_notary_errConflict) rfl rfl) rfl gn_errConflict.1 gn_errConflict.2
  have s_errUnknown : Sen W 3 (txt Rows.laid_notary_notary_errUnknown) := sen_of h1 (m 20 ("notary/notary.errUnknown", Rows.laid_notary_notary_errUnknown) rfl rfl) rfl gn_errUnknown.1 gn_errUnknown.2
  have hfirst := laidMet.reads h1 (m 21 ("unicode/utf8.first", Rows.laid_unicode_utf8_first) rfl (by kernel_rfl))
  have hacc := laidMet.reads h1 (m 3 ("unicode/utf8.acceptRanges", Rows.laid_unicode_utf8_acceptRanges) rfl rfl)
  have hpow := laidMet.reads h1 (m 2 ("internal/strconv.uint64pow10", Rows.laid_internal_strconv_uint64pow10) rfl rfl)
  have hlast := laidMet.reads h1 (m 1 ("math/bits.deBruijn64tab", Rows.laid_math_bits_deBruijn64tab) rfl rfl)
  rw [firstD] at hfirst
  rw [accD] at hacc
  rw [powD] at hpow
  have hsz : 31 ≤ W.heap.size := by
    obtain ⟨g, t, cs, fuel, p, k1, k2, k3, k4⟩ := hlast
    have hg := Option.some.inj (lastG.symm.trans k1)
    unfold World.var? at k3
    rw [k1] at k3
    subst hg
    simp only [Option.bind_some] at k3
    rcases Nat.lt_or_ge 30 W.heap.size with h | h
    · exact h
    · rw [Array.getElem?_eq_none h] at k3
      cases k3
  have hty : W.cell? ⟨9, 0, none⟩ = some (.iface 289 ((Value.agg #[Value.pointer (some (Addr.mk 31 61 none))]))) := by
    have hx := h2 ("errors.errorType", Rows.laid_errors_errorType) (List.mem_filter.2 ⟨hm _ (List.mem_of_getElem? (i := 4) rfl), rfl⟩)
    obtain ⟨name, u, ty, e1, e2, e3, e4, e5⟩ := hx
    have en : name = [101, 114, 114, 111, 114] := (Option.some.inj e1).symm
    subst en
    obtain rfl := Option.some.inj (rtT.symm.trans e2)
    have hmm : ty ∈ (List.range 446).filter fun t => Tryz.prog.rowNamed t [101, 114, 114, 111, 114] := List.mem_filter.2 ⟨List.mem_range.2 (by rw [← typesN]; exact e3), e4⟩
    rw [oneRow] at hmm
    obtain rfl := List.mem_singleton.1 hmm
    have hh : typeHandle Tryz.prog 61 = .pointer (some ⟨31, 61, none⟩) := by kernel_rfl
    rw [hh] at e5
    simpa using World.var?_cell etG e5 0
  refine ⟨⟨⟨hsz, ?_⟩, utf8Tabs_of_readsT u8T u8X hfirst hacc, ?_⟩, hty, s_errLong.three, s_errObject.three, fun a => s_errLong.ne s_errObject (by decide) a⟩
  · intro g hg
    simp only [List.mem_cons, List.not_mem_nil, or_false] at hg
    rcases hg with rfl | rfl | rfl | rfl | rfl | rfl | rfl | rfl | rfl | rfl | rfl | rfl
    · exact s_errControl.errs s_errLong s_errObject s_errConflict s_errUnknown (by decide) (by decide) (by decide) (by decide)
    · exact s_errDeep.errs s_errLong s_errObject s_errConflict s_errUnknown (by decide) (by decide) (by decide) (by decide)
    · exact s_errEnd.errs s_errLong s_errObject s_errConflict s_errUnknown (by decide) (by decide) (by decide) (by decide)
    · exact s_errEscape.errs s_errLong s_errObject s_errConflict s_errUnknown (by decide) (by decide) (by decide) (by decide)
    · exact s_errGreat.errs s_errLong s_errObject s_errConflict s_errUnknown (by decide) (by decide) (by decide) (by decide)
    · exact s_errInside.errs s_errLong s_errObject s_errConflict s_errUnknown (by decide) (by decide) (by decide) (by decide)
    · exact s_errNumber.errs s_errLong s_errObject s_errConflict s_errUnknown (by decide) (by decide) (by decide) (by decide)
    · exact s_errRest.errs s_errLong s_errObject s_errConflict s_errUnknown (by decide) (by decide) (by decide) (by decide)
    · exact s_errSign.errs s_errLong s_errObject s_errConflict s_errUnknown (by decide) (by decide) (by decide) (by decide)
    · exact s_errSurrogate.errs s_errLong s_errObject s_errConflict s_errUnknown (by decide) (by decide) (by decide) (by decide)
    · exact s_errTwice.errs s_errLong s_errObject s_errConflict s_errUnknown (by decide) (by decide) (by decide) (by decide)
    · exact s_errUTF8.errs s_errLong s_errObject s_errConflict s_errUnknown (by decide) (by decide) (by decide) (by decide)
  · refine tabBelow_of_tabIs ?_
    obtain ⟨g, t, cs, fuel, p, k1, k2, k3, k4⟩ := hpow
    obtain rfl := Option.some.inj (powG.symm.trans k1)
    obtain rfl := Option.some.inj (powY.symm.trans k2)
    unfold TabIs
    rw [k3, ← cells_of_tab Tryz.underlying393 Tryz.underlying241 c8 c20 k4]
end Go.Proofs.YtocligpfmfmihaaGreatDoor
namespace Go.Proofs.YtocligpfmfmihaaGreatDoor
open Go Go.RowKit Go.ChangeShapes Go.Lib Go.Shelf

theorem gn_errKind : Tryz.prog.globalNamed "notary/notary.errKind" = some 14 ∧ (Tryz.prog.globals[14]?).map (·.type) = some 61 := ⟨by kernel_rfl, by kernel_rfl⟩
theorem gn_errName : Tryz.prog.globalNamed "notary/notary.errName" = some 13 ∧ (Tryz.prog.globals[13]?).map (·.type) = some 61 := ⟨by kernel_rfl, by kernel_rfl⟩
theorem gn_errBelow : Tryz.prog.globalNamed "notary/notary.errBelow" = some 15 ∧ (Tryz.prog.globals[15]?).map (·.type) = some 61 := ⟨by kernel_rfl, by kernel_rfl⟩
theorem gn_errCount : Tryz.prog.globalNamed "notary/notary.errCount" = some 16 ∧ (Tryz.prog.globals[16]?).map (·.type) = some 61 := ⟨by kernel_rfl, by kernel_rfl⟩
theorem gn_errBoth : Tryz.prog.globalNamed "notary/notary.errBoth" = some 17 ∧ (Tryz.prog.globals[17]?).map (·.type) = some 61 := ⟨by kernel_rfl, by kernel_rfl⟩
theorem gn_errSignature : Tryz.prog.globalNamed "notary/notary.errSignature" = some 7 ∧ (Tryz.prog.globals[7]?).map (·.type) = some 61 := ⟨by kernel_rfl, by kernel_rfl⟩
theorem sub_reads : ∀ x ∈ Rows.orderedRow.laid, x ∈ Rows.readsRow.laid := by
  intro x hx
  rcases List.mem_iff_getElem?.1 hx with ⟨i, hi⟩
  match i, hi with
  | 0, hi => exact (Option.some.inj hi) ▸ List.mem_of_getElem? (i := 0) rfl
  | 1, hi => exact (Option.some.inj hi) ▸ List.mem_of_getElem? (i := 1) rfl
  | 2, hi => exact (Option.some.inj hi) ▸ List.mem_of_getElem? (i := 2) rfl
  | 3, hi => exact (Option.some.inj hi) ▸ List.mem_of_getElem? (i := 3) rfl
  | 4, hi => exact (Option.some.inj hi) ▸ List.mem_of_getElem? (i := 4) rfl
  | 5, hi => exact (Option.some.inj hi) ▸ List.mem_of_getElem? (i := 5) rfl
  | 6, hi => exact (Option.some.inj hi) ▸ List.mem_of_getElem? (i := 6) rfl
  | 7, hi => exact (Option.some.inj hi) ▸ List.mem_of_getElem? (i := 7) rfl
  | 8, hi => exact (Option.some.inj hi) ▸ List.mem_of_getElem? (i := 8) rfl
  | 9, hi => exact (Option.some.inj hi) ▸ List.mem_of_getElem? (i := 9) rfl
  | 10, hi => exact (Option.some.inj hi) ▸ List.mem_of_getElem? (i := 10) rfl
  | 11, hi => exact (Option.some.inj hi) ▸ List.mem_of_getElem? (i := 11) rfl
  | 12, hi => exact (Option.some.inj hi) ▸ List.mem_of_getElem? (i := 12) rfl
  | 13, hi => exact (Option.some.inj hi) ▸ List.mem_of_getElem? (i := 13) rfl
  | 14, hi => exact (Option.some.inj hi) ▸ List.mem_of_getElem? (i := 14) rfl
  | 15, hi => exact (Option.some.inj hi) ▸ List.mem_of_getElem? (i := 15) rfl
  | 16, hi => exact (Option.some.inj hi) ▸ List.mem_of_getElem? (i := 16) rfl
  | 17, hi => exact (Option.some.inj hi) ▸ List.mem_of_getElem? (i := 17) rfl
  | 18, hi => exact (Option.some.inj hi) ▸ List.mem_of_getElem? (i := 18) rfl
  | 19, hi => exact (Option.some.inj hi) ▸ List.mem_of_getElem? (i := 20) rfl
  | 20, hi => exact (Option.some.inj hi) ▸ List.mem_of_getElem? (i := 21) rfl
  | 21, hi => exact (Option.some.inj hi) ▸ List.mem_of_getElem? (i := 27) rfl
  | n + 22, hi => cases hi
theorem Sen.plain {W : World} {g : Nat} {x a b c d : List UInt8} (h : Sen W g x) (h1 : Sen W 0 a) (h2 : Sen W 1 b) (h3 : Sen W 2 c) (h4 : Sen W 3 d)
    (n1 : x ≠ a) (n2 : x ≠ b) (n3 : x ≠ c) (n4 : x ≠ d) : ∃ q, W.cell? ⟨g, 0, none⟩ = some (errV q) ∧ Plain W q := by
  have h' := h
  obtain ⟨ad, s, cc, t, e1, e2, e3, e4⟩ := h
  refine ⟨ad, e1, ⟨cc, t, e4⟩, ?_⟩
  intro k hk
  simp only [four, List.mem_cons, List.not_mem_nil, or_false] at hk
  rcases hk with rfl | rfl | rfl | rfl
  · exact h'.ne h1 n1 ad e1
  · exact h'.ne h2 n2 ad e1
  · exact h'.ne h3 n3 ad e1
  · exact h'.ne h4 n4 ad e1
/-- What the listed variables give, for documents. -/
theorem ng2_of {L : List (String × DataW Unit)} {W : World} (h : laidMetH Tryz.prog L W) (hm : ∀ x ∈ Rows.readsRow.laid, x ∈ L) : NG2 W := by
  obtain ⟨h1, h2⟩ := laidMetH_iff.1 h
  have m : ∀ (i : Nat) (x : String × DataW Unit), Rows.readsRow.laid[i]? = some x → x.2.handleName?.isNone = true → x ∈ L.filter fun x => x.2.handleName?.isNone :=
    fun i x hi hx => List.mem_filter.2 ⟨hm x (List.mem_of_getElem? hi), hx⟩
  have s_errLong : Sen W 0 (txt Rows.laid_notary_notary_errLong) := sen_of h1 (m 17 ("notary/notary.errLong", Rows.laid_notary_notary_errLong) rfl rfl) rfl gn_errLong.1 gn_errLong.2
  have s_errObject : Sen W 1 (txt Rows.laid_notary_notary_errObject) := sen_of h1 (m 18 ("notary/notary.errObject", Rows.laid_notary_notary_errObject) rfl rfl) rfl gn_errObject.1 gn_errObject.2
  have s_errConflict : Sen W 2 (txt Rows.laid_notary_notary_errConflict) := sen_of h1 (m 20 ("notary/notary.errConflict", Rows.laid_notary_notary_errConflict) rfl rfl) rfl gn_errConflict.1 gn_errConflict.2
  have s_errUnknown : Sen W 3 (txt Rows.laid_notary_notary_errUnknown) := sen_of h1 (m 21 ("notary/notary.errUnknown", Rows.laid_notary_notary_errUnknown) rfl rfl) rfl gn_errUnknown.1 gn_errUnknown.2
  have s_errKind : Sen W 14 (txt Rows.laid_notary_notary_errKind) := sen_of h1 (m 22 ("notary/notary.errKind", Rows.laid_notary_notary_errKind) rfl rfl) rfl gn_errKind.1 gn_errKind.2
  have s_errName : Sen W 13 (txt Rows.laid_notary_notary_errName) := sen_of h1 (m 23 ("notary/notary.errName", Rows.laid_notary_notary_errName) rfl rfl) rfl gn_errName.1 gn_errName.2
  have s_errBelow : Sen W 15 (txt Rows.laid_notary_notary_errBelow) := sen_of h1 (m 24 ("notary/notary.errBelow", Rows.laid_notary_notary_errBelow) rfl rfl) rfl gn_errBelow.1 gn_errBelow.2
  have s_errCount : Sen W 16 (txt Rows.laid_notary_notary_errCount) := sen_of h1 (m 25 ("notary/notary.errCount", Rows.laid_notary_notary_errCount) rfl rfl) rfl gn_errCount.1 gn_errCount.2
  have s_errBoth : Sen W 17 (txt Rows.laid_notary_notary_errBoth) := sen_of h1 (m 26 ("notary/notary.errBoth", Rows.laid_notary_notary_errBoth) rfl rfl) rfl gn_errBoth.1 gn_errBoth.2
  have s_errSignature : Sen W 7 (txt Rows.laid_notary_notary_errSignature) := sen_of h1 (m 19 ("notary/notary.errSignature", Rows.laid_notary_notary_errSignature) rfl rfl) rfl gn_errSignature.1 gn_errSignature.2
  refine ⟨ng_of h (fun x hx => hm x (sub_reads x hx)), ?_, ?_⟩
  · intro g hg
    simp only [four, List.mem_cons, List.not_mem_nil, or_false] at hg
    rcases hg with rfl | rfl | rfl | rfl
    · exact s_errLong.three
    · exact s_errObject.three
    · exact s_errConflict.three
    · exact s_errUnknown.three
  · intro g hg
    simp only [List.mem_cons, List.not_mem_nil, or_false] at hg
    rcases hg with rfl | rfl | rfl | rfl | rfl | rfl
    · exact s_errKind.plain s_errLong s_errObject s_errConflict s_errUnknown (by decide) (by decide) (by decide) (by decide)
    · exact s_errName.plain s_errLong s_errObject s_errConflict s_errUnknown (by decide) (by decide) (by decide) (by decide)
    · exact s_errBelow.plain s_errLong s_errObject s_errConflict s_errUnknown (by decide) (by decide) (by decide) (by decide)
    · exact s_errCount.plain s_errLong s_errObject s_errConflict s_errUnknown (by decide) (by decide) (by decide) (by decide)
    · exact s_errBoth.plain s_errLong s_errObject s_errConflict s_errUnknown (by decide) (by decide) (by decide) (by decide)
    · exact s_errSignature.plain s_errLong s_errObject s_errConflict s_errUnknown (by decide) (by decide) (by decide) (by decide)
end Go.Proofs.YtocligpfmfmihaaGreatDoor

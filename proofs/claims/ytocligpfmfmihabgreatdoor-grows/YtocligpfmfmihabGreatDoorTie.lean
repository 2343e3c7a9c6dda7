/-
  DERIVED. GIVEN WITH THE SEED: THE PROGRAM's TIES (one call each: nine closed facts by the kernel) AND EACH ROW's TIE, after the 31st guide's Derived/Test/Toyas{Tie, Card}.lean. No idea stands in it: it is a product of the set-up. Laid BY PROGRAM, IN A SANDBOX (cutbox-door.mjs). By AI agents, Wed Nov 11 2026. No macro, syntax, notation, axiom, sorry.
-/
import Derived.Test.YtocligpfmfmihabGreatDoorRows
import Derived.LaidByTextLater
import Derived.SevenTiedAt
import Derived.LaidSub
import Derived.LaidOnce
namespace Go.Proofs.YtocligpfmfmihabGreatDoor
open Go
set_option maxRecDepth 100000
theorem seatTie1 : Tryz.prog.laidByTextLater [("math/bits.deBruijn32tab", Rows.laid_math_bits_deBruijn32tab), ("math/bits.deBruijn64tab", Rows.laid_math_bits_deBruijn64tab), ("internal/strconv.uint64pow10", Rows.laid_internal_strconv_uint64pow10), ("unicode/utf8.acceptRanges", Rows.laid_unicode_utf8_acceptRanges), ("errors.errorType", Rows.laid_errors_errorType), ("notary/value.errUTF8", Rows.laid_notary_value_errUTF8), ("notary/value.errEnd", Rows.laid_notary_value_errEnd), ("notary/value.errRest", Rows.laid_notary_value_errRest), ("notary/value.errSign", Rows.laid_notary_value_errSign), ("notary/value.errDeep", Rows.laid_notary_value_errDeep), ("notary/value.errNumber", Rows.laid_notary_value_errNumber), ("notary/value.errGreat", Rows.laid_notary_value_errGreat), ("notary/value.errControl", Rows.laid_notary_value_errControl), ("notary/value.errEscape", Rows.laid_notary_value_errEscape), ("notary/value.errSurrogate", Rows.laid_notary_value_errSurrogate), ("notary/value.errTwice", Rows.laid_notary_value_errTwice), ("notary/value.errInside", Rows.laid_notary_value_errInside), ("notary/notary.errLong", Rows.laid_notary_notary_errLong), ("notary/notary.errObject", Rows.laid_notary_notary_errObject), ("notary/notary.errSignature", Rows.laid_notary_notary_errSignature), ("notary/notary.errConflict", Rows.laid_notary_notary_errConflict), ("notary/notary.errUnknown", Rows.laid_notary_notary_errUnknown), ("notary/notary.errKind", Rows.laid_notary_notary_errKind), ("notary/notary.errName", Rows.laid_notary_notary_errName), ("notary/notary.errBelow", Rows.laid_notary_notary_errBelow), ("notary/notary.errCount", Rows.laid_notary_notary_errCount), ("notary/notary.errBoth", Rows.laid_notary_notary_errBoth), ("notary/notary.errOther", Rows.laid_notary_notary_errOther), ("notary/notary.errFails", Rows.laid_notary_notary_errFails)] [.data, .data, .data, .data, .handle, .sentinel, .sentinel, .sentinel, .sentinel, .sentinel, .sentinel, .sentinel, .sentinel, .sentinel, .sentinel, .sentinel, .sentinel, .sentinel, .sentinel, .sentinel, .sentinel, .sentinel, .sentinel, .sentinel, .sentinel, .sentinel, .sentinel, .sentinel, .sentinel] true :=
  Program.laidByTextLater_by_one 497 8 65 (by kernel_rfl) (by kernel_rfl) (by kernel_rfl) (by kernel_rfl) (by kernel_rfl) (by kernel_rfl) (fun _ _ => by kernel_rfl)
theorem seatTie2 : Tryz.prog.laidByTextLater [("math/bits.deBruijn32tab", Rows.laid_math_bits_deBruijn32tab), ("math/bits.deBruijn64tab", Rows.laid_math_bits_deBruijn64tab), ("internal/strconv.uint64pow10", Rows.laid_internal_strconv_uint64pow10), ("unicode/utf8.acceptRanges", Rows.laid_unicode_utf8_acceptRanges), ("errors.errorType", Rows.laid_errors_errorType), ("notary/value.errUTF8", Rows.laid_notary_value_errUTF8), ("notary/value.errEnd", Rows.laid_notary_value_errEnd), ("notary/value.errRest", Rows.laid_notary_value_errRest), ("notary/value.errSign", Rows.laid_notary_value_errSign), ("notary/value.errDeep", Rows.laid_notary_value_errDeep), ("notary/value.errNumber", Rows.laid_notary_value_errNumber), ("notary/value.errGreat", Rows.laid_notary_value_errGreat), ("notary/value.errControl", Rows.laid_notary_value_errControl), ("notary/value.errEscape", Rows.laid_notary_value_errEscape), ("notary/value.errSurrogate", Rows.laid_notary_value_errSurrogate), ("notary/value.errTwice", Rows.laid_notary_value_errTwice), ("notary/value.errInside", Rows.laid_notary_value_errInside), ("notary/notary.errLong", Rows.laid_notary_notary_errLong), ("notary/notary.errObject", Rows.laid_notary_notary_errObject), ("notary/notary.errSignature", Rows.laid_notary_notary_errSignature), ("notary/notary.errConflict", Rows.laid_notary_notary_errConflict), ("notary/notary.errUnknown", Rows.laid_notary_notary_errUnknown), ("notary/notary.errKind", Rows.laid_notary_notary_errKind), ("notary/notary.errName", Rows.laid_notary_notary_errName), ("notary/notary.errBelow", Rows.laid_notary_notary_errBelow), ("notary/notary.errCount", Rows.laid_notary_notary_errCount), ("notary/notary.errBoth", Rows.laid_notary_notary_errBoth)] [.data, .data, .data, .data, .handle, .sentinel, .sentinel, .sentinel, .sentinel, .sentinel, .sentinel, .sentinel, .sentinel, .sentinel, .sentinel, .sentinel, .sentinel, .sentinel, .sentinel, .sentinel, .sentinel, .sentinel, .sentinel, .sentinel, .sentinel, .sentinel, .sentinel] true :=
  Program.laidByTextLater_by_one 497 8 65 (by kernel_rfl) (by kernel_rfl) (by kernel_rfl) (by kernel_rfl) (by kernel_rfl) (by kernel_rfl) (fun _ _ => by kernel_rfl)
theorem pin_laid_unicode_utf8_first : Tryz.pinned.checked.prog.pinnedFits "unicode/utf8.first" = true := by kernel_rfl
theorem noOwnUnsafe : Tryz.pinned.checked.prog.headLifts.contains "ownunsafe" = false := by kernel_rfl
theorem fits1 : Tryz.pinned.checked.prog.listedFits [("math/bits.deBruijn32tab", Rows.laid_math_bits_deBruijn32tab), ("math/bits.deBruijn64tab", Rows.laid_math_bits_deBruijn64tab), ("internal/strconv.uint64pow10", Rows.laid_internal_strconv_uint64pow10), ("unicode/utf8.acceptRanges", Rows.laid_unicode_utf8_acceptRanges), ("errors.errorType", Rows.laid_errors_errorType), ("notary/value.errUTF8", Rows.laid_notary_value_errUTF8), ("notary/value.errEnd", Rows.laid_notary_value_errEnd), ("notary/value.errRest", Rows.laid_notary_value_errRest), ("notary/value.errSign", Rows.laid_notary_value_errSign), ("notary/value.errDeep", Rows.laid_notary_value_errDeep), ("notary/value.errNumber", Rows.laid_notary_value_errNumber), ("notary/value.errGreat", Rows.laid_notary_value_errGreat), ("notary/value.errControl", Rows.laid_notary_value_errControl), ("notary/value.errEscape", Rows.laid_notary_value_errEscape), ("notary/value.errSurrogate", Rows.laid_notary_value_errSurrogate), ("notary/value.errTwice", Rows.laid_notary_value_errTwice), ("notary/value.errInside", Rows.laid_notary_value_errInside), ("notary/notary.errLong", Rows.laid_notary_notary_errLong), ("notary/notary.errObject", Rows.laid_notary_notary_errObject), ("notary/notary.errSignature", Rows.laid_notary_notary_errSignature), ("notary/notary.errConflict", Rows.laid_notary_notary_errConflict), ("notary/notary.errUnknown", Rows.laid_notary_notary_errUnknown), ("notary/notary.errKind", Rows.laid_notary_notary_errKind), ("notary/notary.errName", Rows.laid_notary_notary_errName), ("notary/notary.errBelow", Rows.laid_notary_notary_errBelow), ("notary/notary.errCount", Rows.laid_notary_notary_errCount), ("notary/notary.errBoth", Rows.laid_notary_notary_errBoth), ("notary/notary.errOther", Rows.laid_notary_notary_errOther), ("notary/notary.errFails", Rows.laid_notary_notary_errFails), ("unicode/utf8.first", Rows.laid_unicode_utf8_first)] = true := by
  unfold Program.listedFits
  rw [noOwnUnsafe]
  kernel_rfl
theorem tie : Tryz.prog.laidByTextLater [("math/bits.deBruijn32tab", Rows.laid_math_bits_deBruijn32tab), ("math/bits.deBruijn64tab", Rows.laid_math_bits_deBruijn64tab), ("internal/strconv.uint64pow10", Rows.laid_internal_strconv_uint64pow10), ("unicode/utf8.acceptRanges", Rows.laid_unicode_utf8_acceptRanges), ("errors.errorType", Rows.laid_errors_errorType), ("notary/value.errUTF8", Rows.laid_notary_value_errUTF8), ("notary/value.errEnd", Rows.laid_notary_value_errEnd), ("notary/value.errRest", Rows.laid_notary_value_errRest), ("notary/value.errSign", Rows.laid_notary_value_errSign), ("notary/value.errDeep", Rows.laid_notary_value_errDeep), ("notary/value.errNumber", Rows.laid_notary_value_errNumber), ("notary/value.errGreat", Rows.laid_notary_value_errGreat), ("notary/value.errControl", Rows.laid_notary_value_errControl), ("notary/value.errEscape", Rows.laid_notary_value_errEscape), ("notary/value.errSurrogate", Rows.laid_notary_value_errSurrogate), ("notary/value.errTwice", Rows.laid_notary_value_errTwice), ("notary/value.errInside", Rows.laid_notary_value_errInside), ("notary/notary.errLong", Rows.laid_notary_notary_errLong), ("notary/notary.errObject", Rows.laid_notary_notary_errObject), ("notary/notary.errSignature", Rows.laid_notary_notary_errSignature), ("notary/notary.errConflict", Rows.laid_notary_notary_errConflict), ("notary/notary.errUnknown", Rows.laid_notary_notary_errUnknown), ("notary/notary.errKind", Rows.laid_notary_notary_errKind), ("notary/notary.errName", Rows.laid_notary_notary_errName), ("notary/notary.errBelow", Rows.laid_notary_notary_errBelow), ("notary/notary.errCount", Rows.laid_notary_notary_errCount), ("notary/notary.errBoth", Rows.laid_notary_notary_errBoth), ("notary/notary.errOther", Rows.laid_notary_notary_errOther), ("notary/notary.errFails", Rows.laid_notary_notary_errFails)] [.data, .data, .data, .data, .handle, .sentinel, .sentinel, .sentinel, .sentinel, .sentinel, .sentinel, .sentinel, .sentinel, .sentinel, .sentinel, .sentinel, .sentinel, .sentinel, .sentinel, .sentinel, .sentinel, .sentinel, .sentinel, .sentinel, .sentinel, .sentinel, .sentinel, .sentinel, .sentinel] true :=
  Program.laidByTextLater.sub seatTie1 ["math/bits.deBruijn32tab", "math/bits.deBruijn64tab", "internal/strconv.uint64pow10", "unicode/utf8.acceptRanges", "errors.errorType", "notary/value.errUTF8", "notary/value.errEnd", "notary/value.errRest", "notary/value.errSign", "notary/value.errDeep", "notary/value.errNumber", "notary/value.errGreat", "notary/value.errControl", "notary/value.errEscape", "notary/value.errSurrogate", "notary/value.errTwice", "notary/value.errInside", "notary/notary.errLong", "notary/notary.errObject", "notary/notary.errSignature", "notary/notary.errConflict", "notary/notary.errUnknown", "notary/notary.errKind", "notary/notary.errName", "notary/notary.errBelow", "notary/notary.errCount", "notary/notary.errBoth", "notary/notary.errOther", "notary/notary.errFails"] (by kernel_rfl) (by kernel_rfl)
theorem fetched_row_tie : Rows.fetchedRow.laidByTextAt .later Tryz.pinned [.data, .data, .data, .data, .handle, .sentinel, .sentinel, .sentinel, .sentinel, .sentinel, .sentinel, .sentinel, .sentinel, .sentinel, .sentinel, .sentinel, .sentinel, .sentinel, .sentinel, .sentinel, .sentinel, .sentinel, .sentinel, .sentinel, .sentinel, .sentinel, .sentinel, .sentinel, .sentinel, .pinned] true :=
  OpenClaim.laidByTextAt_pinned rfl rfl tie rfl rfl rfl rfl (fun y hy _e => by
    simp only [Rows.fetchedRow, List.zip_cons_cons, List.zip_nil_right, List.mem_cons, List.mem_nil_iff, or_false] at hy
    rcases hy with rfl | rfl | rfl | rfl | rfl | rfl | rfl | rfl | rfl | rfl | rfl | rfl | rfl | rfl | rfl | rfl | rfl | rfl | rfl | rfl | rfl | rfl | rfl | rfl | rfl | rfl | rfl | rfl | rfl | rfl
    · cases _e
    · cases _e
    · cases _e
    · cases _e
    · cases _e
    · cases _e
    · cases _e
    · cases _e
    · cases _e
    · cases _e
    · cases _e
    · cases _e
    · cases _e
    · cases _e
    · cases _e
    · cases _e
    · cases _e
    · cases _e
    · cases _e
    · cases _e
    · cases _e
    · cases _e
    · cases _e
    · cases _e
    · cases _e
    · cases _e
    · cases _e
    · cases _e
    · cases _e
    · exact ⟨pin_laid_unicode_utf8_first, by kernel_rfl⟩) fits1
theorem each_row_tie : Rows.eachRow.laidByTextAt .later Tryz.pinned [.data, .data, .data, .data, .handle, .sentinel, .sentinel, .sentinel, .sentinel, .sentinel, .sentinel, .sentinel, .sentinel, .sentinel, .sentinel, .sentinel, .sentinel, .sentinel, .sentinel, .sentinel, .sentinel, .sentinel, .sentinel, .sentinel, .sentinel, .sentinel, .sentinel, .sentinel, .sentinel, .pinned] true :=
  OpenClaim.laidByTextAt_pinned rfl rfl tie rfl rfl rfl rfl (fun y hy _e => by
    simp only [Rows.eachRow, List.zip_cons_cons, List.zip_nil_right, List.mem_cons, List.mem_nil_iff, or_false] at hy
    rcases hy with rfl | rfl | rfl | rfl | rfl | rfl | rfl | rfl | rfl | rfl | rfl | rfl | rfl | rfl | rfl | rfl | rfl | rfl | rfl | rfl | rfl | rfl | rfl | rfl | rfl | rfl | rfl | rfl | rfl | rfl
    · cases _e
    · cases _e
    · cases _e
    · cases _e
    · cases _e
    · cases _e
    · cases _e
    · cases _e
    · cases _e
    · cases _e
    · cases _e
    · cases _e
    · cases _e
    · cases _e
    · cases _e
    · cases _e
    · cases _e
    · cases _e
    · cases _e
    · cases _e
    · cases _e
    · cases _e
    · cases _e
    · cases _e
    · cases _e
    · cases _e
    · cases _e
    · cases _e
    · cases _e
    · exact ⟨pin_laid_unicode_utf8_first, by kernel_rfl⟩) fits1
theorem fits2 : Tryz.pinned.checked.prog.listedFits [("math/bits.deBruijn32tab", Rows.laid_math_bits_deBruijn32tab), ("math/bits.deBruijn64tab", Rows.laid_math_bits_deBruijn64tab), ("internal/strconv.uint64pow10", Rows.laid_internal_strconv_uint64pow10), ("unicode/utf8.acceptRanges", Rows.laid_unicode_utf8_acceptRanges), ("errors.errorType", Rows.laid_errors_errorType), ("notary/value.errUTF8", Rows.laid_notary_value_errUTF8), ("notary/value.errEnd", Rows.laid_notary_value_errEnd), ("notary/value.errRest", Rows.laid_notary_value_errRest), ("notary/value.errSign", Rows.laid_notary_value_errSign), ("notary/value.errDeep", Rows.laid_notary_value_errDeep), ("notary/value.errNumber", Rows.laid_notary_value_errNumber), ("notary/value.errGreat", Rows.laid_notary_value_errGreat), ("notary/value.errControl", Rows.laid_notary_value_errControl), ("notary/value.errEscape", Rows.laid_notary_value_errEscape), ("notary/value.errSurrogate", Rows.laid_notary_value_errSurrogate), ("notary/value.errTwice", Rows.laid_notary_value_errTwice), ("notary/value.errInside", Rows.laid_notary_value_errInside), ("notary/notary.errLong", Rows.laid_notary_notary_errLong), ("notary/notary.errObject", Rows.laid_notary_notary_errObject), ("notary/notary.errSignature", Rows.laid_notary_notary_errSignature), ("notary/notary.errConflict", Rows.laid_notary_notary_errConflict), ("notary/notary.errUnknown", Rows.laid_notary_notary_errUnknown), ("notary/notary.errKind", Rows.laid_notary_notary_errKind), ("notary/notary.errName", Rows.laid_notary_notary_errName), ("notary/notary.errBelow", Rows.laid_notary_notary_errBelow), ("notary/notary.errCount", Rows.laid_notary_notary_errCount), ("notary/notary.errBoth", Rows.laid_notary_notary_errBoth), ("unicode/utf8.first", Rows.laid_unicode_utf8_first)] = true := by
  unfold Program.listedFits
  rw [noOwnUnsafe]
  kernel_rfl
theorem tie2 : Tryz.prog.laidByTextLater [("math/bits.deBruijn32tab", Rows.laid_math_bits_deBruijn32tab), ("math/bits.deBruijn64tab", Rows.laid_math_bits_deBruijn64tab), ("internal/strconv.uint64pow10", Rows.laid_internal_strconv_uint64pow10), ("unicode/utf8.acceptRanges", Rows.laid_unicode_utf8_acceptRanges), ("errors.errorType", Rows.laid_errors_errorType), ("notary/value.errUTF8", Rows.laid_notary_value_errUTF8), ("notary/value.errEnd", Rows.laid_notary_value_errEnd), ("notary/value.errRest", Rows.laid_notary_value_errRest), ("notary/value.errSign", Rows.laid_notary_value_errSign), ("notary/value.errDeep", Rows.laid_notary_value_errDeep), ("notary/value.errNumber", Rows.laid_notary_value_errNumber), ("notary/value.errGreat", Rows.laid_notary_value_errGreat), ("notary/value.errControl", Rows.laid_notary_value_errControl), ("notary/value.errEscape", Rows.laid_notary_value_errEscape), ("notary/value.errSurrogate", Rows.laid_notary_value_errSurrogate), ("notary/value.errTwice", Rows.laid_notary_value_errTwice), ("notary/value.errInside", Rows.laid_notary_value_errInside), ("notary/notary.errLong", Rows.laid_notary_notary_errLong), ("notary/notary.errObject", Rows.laid_notary_notary_errObject), ("notary/notary.errSignature", Rows.laid_notary_notary_errSignature), ("notary/notary.errConflict", Rows.laid_notary_notary_errConflict), ("notary/notary.errUnknown", Rows.laid_notary_notary_errUnknown), ("notary/notary.errKind", Rows.laid_notary_notary_errKind), ("notary/notary.errName", Rows.laid_notary_notary_errName), ("notary/notary.errBelow", Rows.laid_notary_notary_errBelow), ("notary/notary.errCount", Rows.laid_notary_notary_errCount), ("notary/notary.errBoth", Rows.laid_notary_notary_errBoth)] [.data, .data, .data, .data, .handle, .sentinel, .sentinel, .sentinel, .sentinel, .sentinel, .sentinel, .sentinel, .sentinel, .sentinel, .sentinel, .sentinel, .sentinel, .sentinel, .sentinel, .sentinel, .sentinel, .sentinel, .sentinel, .sentinel, .sentinel, .sentinel, .sentinel] true :=
  Program.laidByTextLater.sub seatTie2 ["math/bits.deBruijn32tab", "math/bits.deBruijn64tab", "internal/strconv.uint64pow10", "unicode/utf8.acceptRanges", "errors.errorType", "notary/value.errUTF8", "notary/value.errEnd", "notary/value.errRest", "notary/value.errSign", "notary/value.errDeep", "notary/value.errNumber", "notary/value.errGreat", "notary/value.errControl", "notary/value.errEscape", "notary/value.errSurrogate", "notary/value.errTwice", "notary/value.errInside", "notary/notary.errLong", "notary/notary.errObject", "notary/notary.errSignature", "notary/notary.errConflict", "notary/notary.errUnknown", "notary/notary.errKind", "notary/notary.errName", "notary/notary.errBelow", "notary/notary.errCount", "notary/notary.errBoth"] (by kernel_rfl) (by kernel_rfl)
theorem grows_row_tie : Rows.growsRow.laidByTextAt .later Tryz.pinned [.data, .data, .data, .data, .handle, .sentinel, .sentinel, .sentinel, .sentinel, .sentinel, .sentinel, .sentinel, .sentinel, .sentinel, .sentinel, .sentinel, .sentinel, .sentinel, .sentinel, .sentinel, .sentinel, .sentinel, .sentinel, .sentinel, .sentinel, .sentinel, .sentinel, .pinned] true :=
  OpenClaim.laidByTextAt_pinned rfl rfl tie2 rfl rfl rfl rfl (fun y hy _e => by
    simp only [Rows.growsRow, List.zip_cons_cons, List.zip_nil_right, List.mem_cons, List.mem_nil_iff, or_false] at hy
    rcases hy with rfl | rfl | rfl | rfl | rfl | rfl | rfl | rfl | rfl | rfl | rfl | rfl | rfl | rfl | rfl | rfl | rfl | rfl | rfl | rfl | rfl | rfl | rfl | rfl | rfl | rfl | rfl | rfl
    · cases _e
    · cases _e
    · cases _e
    · cases _e
    · cases _e
    · cases _e
    · cases _e
    · cases _e
    · cases _e
    · cases _e
    · cases _e
    · cases _e
    · cases _e
    · cases _e
    · cases _e
    · cases _e
    · cases _e
    · cases _e
    · cases _e
    · cases _e
    · cases _e
    · cases _e
    · cases _e
    · cases _e
    · cases _e
    · cases _e
    · cases _e
    · exact ⟨pin_laid_unicode_utf8_first, by kernel_rfl⟩) fits2
theorem fetchedUpto_row_tie : Rows.fetchedUptoRow.laidByTextAt .later Tryz.pinned [.data, .data, .data, .data, .handle, .sentinel, .sentinel, .sentinel, .sentinel, .sentinel, .sentinel, .sentinel, .sentinel, .sentinel, .sentinel, .sentinel, .sentinel, .sentinel, .sentinel, .sentinel, .sentinel, .sentinel, .sentinel, .sentinel, .sentinel, .sentinel, .sentinel, .sentinel, .sentinel, .pinned] true :=
  OpenClaim.laidByTextAt_pinned rfl rfl tie rfl rfl rfl rfl (fun y hy _e => by
    simp only [Rows.fetchedUptoRow, List.zip_cons_cons, List.zip_nil_right, List.mem_cons, List.mem_nil_iff, or_false] at hy
    rcases hy with rfl | rfl | rfl | rfl | rfl | rfl | rfl | rfl | rfl | rfl | rfl | rfl | rfl | rfl | rfl | rfl | rfl | rfl | rfl | rfl | rfl | rfl | rfl | rfl | rfl | rfl | rfl | rfl | rfl | rfl
    · cases _e
    · cases _e
    · cases _e
    · cases _e
    · cases _e
    · cases _e
    · cases _e
    · cases _e
    · cases _e
    · cases _e
    · cases _e
    · cases _e
    · cases _e
    · cases _e
    · cases _e
    · cases _e
    · cases _e
    · cases _e
    · cases _e
    · cases _e
    · cases _e
    · cases _e
    · cases _e
    · cases _e
    · cases _e
    · cases _e
    · cases _e
    · cases _e
    · cases _e
    · exact ⟨pin_laid_unicode_utf8_first, by kernel_rfl⟩) fits1
theorem growsUpto_row_tie : Rows.growsUptoRow.laidByTextAt .later Tryz.pinned [.data, .data, .data, .data, .handle, .sentinel, .sentinel, .sentinel, .sentinel, .sentinel, .sentinel, .sentinel, .sentinel, .sentinel, .sentinel, .sentinel, .sentinel, .sentinel, .sentinel, .sentinel, .sentinel, .sentinel, .sentinel, .sentinel, .sentinel, .sentinel, .sentinel, .pinned] true :=
  OpenClaim.laidByTextAt_pinned rfl rfl tie2 rfl rfl rfl rfl (fun y hy _e => by
    simp only [Rows.growsUptoRow, List.zip_cons_cons, List.zip_nil_right, List.mem_cons, List.mem_nil_iff, or_false] at hy
    rcases hy with rfl | rfl | rfl | rfl | rfl | rfl | rfl | rfl | rfl | rfl | rfl | rfl | rfl | rfl | rfl | rfl | rfl | rfl | rfl | rfl | rfl | rfl | rfl | rfl | rfl | rfl | rfl | rfl
    · cases _e
    · cases _e
    · cases _e
    · cases _e
    · cases _e
    · cases _e
    · cases _e
    · cases _e
    · cases _e
    · cases _e
    · cases _e
    · cases _e
    · cases _e
    · cases _e
    · cases _e
    · cases _e
    · cases _e
    · cases _e
    · cases _e
    · cases _e
    · cases _e
    · cases _e
    · cases _e
    · cases _e
    · cases _e
    · cases _e
    · cases _e
    · exact ⟨pin_laid_unicode_utf8_first, by kernel_rfl⟩) fits2
theorem eachUpto_row_tie : Rows.eachUptoRow.laidByTextAt .later Tryz.pinned [.data, .data, .data, .data, .handle, .sentinel, .sentinel, .sentinel, .sentinel, .sentinel, .sentinel, .sentinel, .sentinel, .sentinel, .sentinel, .sentinel, .sentinel, .sentinel, .sentinel, .sentinel, .sentinel, .sentinel, .sentinel, .sentinel, .sentinel, .sentinel, .sentinel, .sentinel, .sentinel, .pinned] true :=
  OpenClaim.laidByTextAt_pinned rfl rfl tie rfl rfl rfl rfl (fun y hy _e => by
    simp only [Rows.eachUptoRow, List.zip_cons_cons, List.zip_nil_right, List.mem_cons, List.mem_nil_iff, or_false] at hy
    rcases hy with rfl | rfl | rfl | rfl | rfl | rfl | rfl | rfl | rfl | rfl | rfl | rfl | rfl | rfl | rfl | rfl | rfl | rfl | rfl | rfl | rfl | rfl | rfl | rfl | rfl | rfl | rfl | rfl | rfl | rfl
    · cases _e
    · cases _e
    · cases _e
    · cases _e
    · cases _e
    · cases _e
    · cases _e
    · cases _e
    · cases _e
    · cases _e
    · cases _e
    · cases _e
    · cases _e
    · cases _e
    · cases _e
    · cases _e
    · cases _e
    · cases _e
    · cases _e
    · cases _e
    · cases _e
    · cases _e
    · cases _e
    · cases _e
    · cases _e
    · cases _e
    · cases _e
    · cases _e
    · cases _e
    · exact ⟨pin_laid_unicode_utf8_first, by kernel_rfl⟩) fits1
end Go.Proofs.YtocligpfmfmihabGreatDoor

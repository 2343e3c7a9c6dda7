import Derived.Test.YtocligpfmfmihabGreatDoorSgn2G
import Derived.Test.YtocligpfmfmihabGreatDoorCanG
import Derived.LaidSub
import Derived.LaidLaws
import Derived.Lib.LaidU8T
import Derived.Test.YtocligpfmfmihabGreatDoorChn5wG
import Derived.Test.YtocligpfmfmihabGreatDoorPr11G
import Derived.Lay
import Derived.LaidHandle
import Derived.Stop.Joined
namespace Go.Proofs.YtocligpfmfmihabGreatDoor
open Go Go.RowKit Go.ChangeShapes

theorem lv_at {P : Program} {w : World} : ∀ {l : List (String × DataW Unit)} {ps : List MemPlace}, DataW.LaidVars P w l ps → ∀ n d, (n, d) ∈ l →
    ∃ g t cs fuel p, P.globalNamed n = some g ∧ (P.globals[g]?).map (·.type) = some t ∧ w.var? P n = some cs ∧ DataW.trod (fun _ => ()) P w 0 (fun _ => true) false fuel t cs.toList = some (d, p) ∧ ∀ x ∈ MemPlace.row ⟨g, 0, none⟩ cs.size ++ p, x ∈ ps
  | [], _, _, _, _, hm => by cases hm
  | (n', d') :: r, ps, h, n, d, hm => by
    obtain ⟨g, t, cs, fuel, p, q, h1, h2, h3, h4, h5, rfl⟩ := h
    rcases List.mem_cons.1 hm with e | e
    · cases e
      exact ⟨g, t, cs, fuel, p, h1, h2, h3, h4, fun x hx => List.mem_append_left _ hx⟩
    · obtain ⟨g', t', cs', fuel', p', k1, k2, k3, k4, k5⟩ := lv_at h5 n d e
      exact ⟨g', t', cs', fuel', p', k1, k2, k3, k4, fun x hx => List.mem_append_right _ (k5 x hx)⟩

/-- The variable g holds an error of errors.New's with this text. -/
def Sen (W : World) (g : Nat) (text : List UInt8) : Prop := ∃ (a : Addr) (s : ByteArray) (c : Array Value) (t : TypeId), W.cell? ⟨g, 0, none⟩ = some (errV a) ∧ W.cell? a = some (.string s) ∧ s.data.toList = text ∧ W.heap[a.block]? = some (.cells c t)
def txt : DataW Unit → List UInt8
  | .iface _ (.ptr (.agg [.lit (.string t)])) => t
  | _ => []
theorem star : "*" ++ "errors.errorString" = "*errors.errorString" := by decide
theorem rowE (u : TypeId) (h : Tryz.prog.typeName? 3 u = some "*errors.errorString") : u = 350 :=
  typeName_ptr_named (nm := "errors.errorString") (by rw [star]; kernel_rfl) (by kernel_rfl) (by decide) u (by rw [star]; exact h)
theorem cellsE : Tryz.prog.cellsOf 370 = 1 := by kernel_rfl
theorem cellsS : Tryz.prog.cellsOf 9 = 1 := by kernel_rfl

set_option maxRecDepth 20000 in
theorem sen_of {L : List (String × DataW Unit)} {W : World} {n : String} {d : DataW Unit} {g : Nat} (h : laidMet Tryz.prog L W) (hm : (n, d) ∈ L) (hd : d = .iface "*errors.errorString" (.ptr (.agg [.lit (.string (txt d))])))
    (hg : Tryz.prog.globalNamed n = some g) (ht : (Tryz.prog.globals[g]?).map (·.type) = some 58) : Sen W g (txt d) := by
  obtain ⟨ps, hv, hnd, hrows⟩ := h
  obtain ⟨g', t', cs, fuel, p, k1, k2, k3, k4, k5⟩ := lv_at hv n d hm
  obtain rfl := Option.some.inj (hg.symm.trans k1)
  obtain rfl := Option.some.inj (ht.symm.trans k2)
  obtain ⟨l0⟩ := cs
  have ok0 : ∀ u v, l0 = [.iface u v] → Value.okWide Tryz.prog W .any 0 u v := fun u v e => by
    subst e
    exact (hrows g 0 (k5 _ (by simp [MemPlace.row]))).2 u v ((World.var?_cell hg k3 0).trans rfl)
  rw [hd] at k4
  obtain ⟨a0, s0, rfl, hc0, hs0, hz0, rfl⟩ := errorString_of_trod Tryz.underlying58 rowE Tryz.underlying350 Tryz.underlying370 rfl rfl Tryz.underlying9 cellsE cellsS k4 ok0
  obtain ⟨c0, t0, hb0⟩ := (hrows a0.block a0.off (k5 _ (by simp [MemPlace.row]))).1
  exact ⟨a0, s0, c0, t0, (World.var?_cell hg k3 0).trans rfl, hc0, hs0, hb0⟩
theorem Sen.ne {W : World} {g g' : Nat} {x y : List UInt8} (h1 : Sen W g x) (h2 : Sen W g' y) (hxy : x ≠ y) (a : Addr) (h : W.cell? ⟨g, 0, none⟩ = some (errV a)) : W.cell? ⟨g', 0, none⟩ ≠ some (errV a) := by
  intro h'
  obtain ⟨a1, s1, _, _, e1, e2, e3, _⟩ := h1
  obtain ⟨a2, s2, _, _, f1, f2, f3, _⟩ := h2
  rw [h] at e1
  rw [h'] at f1
  simp only [errV, Option.some.injEq, Value.iface.injEq, Value.pointer.injEq, true_and] at e1 f1
  subst e1
  subst f1
  rw [e2] at f2
  injection f2 with f2
  injection f2 with f2
  subst f2
  exact hxy (e3.symm.trans f3)
theorem Sen.errs {W : World} {g : Nat} {x a b c d : List UInt8} (h : Sen W g x) (h1 : Sen W 3 a) (h2 : Sen W 4 b) (h3 : Sen W 5 c) (h4 : Sen W 1 d)
    (n1 : x ≠ a) (n2 : x ≠ b) (n3 : x ≠ c) (n4 : x ≠ d) : ∃ cb, Errs W g cb := by
  have h' := h
  obtain ⟨ad, s, cc, t, e1, e2, e3, e4⟩ := h
  refine ⟨ad, e1, lt_heap e4, ?_⟩
  intro k hk
  refine ⟨?_, cc, t, e4⟩
  simp only [List.mem_cons, List.not_mem_nil, or_false] at hk
  rcases hk with rfl | rfl | rfl | rfl
  · exact h'.ne h1 n1 ad e1
  · exact h'.ne h2 n2 ad e1
  · exact h'.ne h3 n3 ad e1
  · exact h'.ne h4 n4 ad e1
theorem Sen.three {W : World} {g : Nat} {x : List UInt8} (h : Sen W g x) : ∃ a c t, W.cell? ⟨g, 0, none⟩ = some (errV a) ∧ W.heap[a.block]? = some (.cells c t) := by
  obtain ⟨ad, s, cc, t, e1, e2, e3, e4⟩ := h
  exact ⟨ad, cc, t, e1, e4⟩
end Go.Proofs.YtocligpfmfmihabGreatDoor
namespace Go.Proofs.YtocligpfmfmihabGreatDoor
open Go Go.RowKit Go.ChangeShapes Go.Lib Go.Shelf

def u8R : Ren := ⟨fun x => x, fun | 5 => 5 | 119 => 299 | 138 => 301 | 139 => 302 | _ => 0, fun | 3 => 16 | 4 => 17 | _ => 0⟩
theorem u8T : U8Types Tryz.prog u8R := ⟨Tryz.underlying5, Tryz.underlying299, Tryz.underlying301, Tryz.underlying302⟩
theorem u8X : U8Extra Tryz.prog u8R := ⟨by kernel_rfl, by kernel_rfl, by kernel_rfl, by kernel_rfl, by kernel_rfl, by kernel_rfl, by kernel_rfl⟩
theorem firstD : Rows.laid_unicode_utf8_first = firstData := by kernel_rfl
theorem accD : (Rows.laid_unicode_utf8_acceptRanges : DataW Unit) = acceptData := by kernel_rfl
theorem powD : (Rows.laid_internal_strconv_uint64pow10 : DataW Unit) = tabData .u64 pow10Tab := by kernel_rfl
theorem rtT : (Tryz.prog.cutTypes.find? (·.1 == "internal/reflectlite.rtype")).map (·.2) = some 237 := by kernel_rfl
theorem oneRow : ((List.range 381).filter fun t => Tryz.prog.rowNamed t [101, 114, 114, 111, 114]) = [58] := by kernel_rfl
theorem typesN : Tryz.prog.types.size = 381 := by kernel_rfl
theorem etG : Tryz.prog.globalNamed "errors.errorType" = some 6 := by kernel_rfl
theorem powG : Tryz.prog.globalNamed "internal/strconv.uint64pow10" = some 24 := by kernel_rfl
theorem powY : (Tryz.prog.globals[24]?).map (·.type) = some 328 := by kernel_rfl
theorem c8 : Tryz.prog.cellsOf 157 = 1 := by kernel_rfl
theorem c20 : Tryz.prog.cellsOf 328 = 20 := by kernel_rfl
theorem lastG : Tryz.prog.globalNamed "math/bits.deBruijn64tab" = some 30 := by kernel_rfl
theorem gn_errUTF8 : Tryz.prog.globalNamed "notary/value.errUTF8" = some 8 ∧ (Tryz.prog.globals[8]?).map (·.type) = some 58 := ⟨by kernel_rfl, by kernel_rfl⟩
theorem gn_errEnd : Tryz.prog.globalNamed "notary/value.errEnd" = some 26 ∧ (Tryz.prog.globals[26]?).map (·.type) = some 58 := ⟨by kernel_rfl, by kernel_rfl⟩
theorem gn_errRest : Tryz.prog.globalNamed "notary/value.errRest" = some 11 ∧ (Tryz.prog.globals[11]?).map (·.type) = some 58 := ⟨by kernel_rfl, by kernel_rfl⟩
theorem gn_errSign : Tryz.prog.globalNamed "notary/value.errSign" = some 19 ∧ (Tryz.prog.globals[19]?).map (·.type) = some 58 := ⟨by kernel_rfl, by kernel_rfl⟩
theorem gn_errDeep : Tryz.prog.globalNamed "notary/value.errDeep" = some 25 ∧ (Tryz.prog.globals[25]?).map (·.type) = some 58 := ⟨by kernel_rfl, by kernel_rfl⟩
theorem gn_errNumber : Tryz.prog.globalNamed "notary/value.errNumber" = some 22 ∧ (Tryz.prog.globals[22]?).map (·.type) = some 58 := ⟨by kernel_rfl, by kernel_rfl⟩
theorem gn_errGreat : Tryz.prog.globalNamed "notary/value.errGreat" = some 21 ∧ (Tryz.prog.globals[21]?).map (·.type) = some 58 := ⟨by kernel_rfl, by kernel_rfl⟩
theorem gn_errControl : Tryz.prog.globalNamed "notary/value.errControl" = some 20 ∧ (Tryz.prog.globals[20]?).map (·.type) = some 58 := ⟨by kernel_rfl, by kernel_rfl⟩
theorem gn_errEscape : Tryz.prog.globalNamed "notary/value.errEscape" = some 27 ∧ (Tryz.prog.globals[27]?).map (·.type) = some 58 := ⟨by kernel_rfl, by kernel_rfl⟩
theorem gn_errSurrogate : Tryz.prog.globalNamed "notary/value.errSurrogate" = some 28 ∧ (Tryz.prog.globals[28]?).map (·.type) = some 58 := ⟨by kernel_rfl, by kernel_rfl⟩
theorem gn_errTwice : Tryz.prog.globalNamed "notary/value.errTwice" = some 18 ∧ (Tryz.prog.globals[18]?).map (·.type) = some 58 := ⟨by kernel_rfl, by kernel_rfl⟩
theorem gn_errInside : Tryz.prog.globalNamed "notary/value.errInside" = some 15 ∧ (Tryz.prog.globals[15]?).map (·.type) = some 58 := ⟨by kernel_rfl, by kernel_rfl⟩
theorem gn_errLong : Tryz.prog.globalNamed "notary/notary.errLong" = some 3 ∧ (Tryz.prog.globals[3]?).map (·.type) = some 58 := ⟨by kernel_rfl, by kernel_rfl⟩
theorem gn_errObject : Tryz.prog.globalNamed "notary/notary.errObject" = some 4 ∧ (Tryz.prog.globals[4]?).map (·.type) = some 58 := ⟨by kernel_rfl, by kernel_rfl⟩
theorem gn_errConflict : Tryz.prog.globalNamed "notary/notary.errConflict" = some 5 ∧ (Tryz.prog.globals[5]?).map (·.type) = some 58 := ⟨by kernel_rfl, by kernel_rfl⟩
theorem gn_errUnknown : Tryz.prog.globalNamed "notary/notary.errUnknown" = some 1 ∧ (Tryz.prog.globals[1]?).map (·.type) = some 58 := ⟨by kernel_rfl, by kernel_rfl⟩

/-- What the listed variables give. -/
theorem ng_of {L : List (String × DataW Unit)} {W : World} (h : laidMetH Tryz.prog L W) (hm : ∀ x ∈ ordL, x ∈ L) : NG W := by
  obtain ⟨h1, h2⟩ := laidMetH_iff.1 h
  have m : ∀ (i : Nat) (x : String × DataW Unit), ordL[i]? = some x → x.2.handleName?.isNone = true → x ∈ L.filter fun x => x.2.handleName?.isNone :=
    fun i x hi hx => List.mem_filter.2 ⟨hm x (List.mem_of_getElem? hi), hx⟩
  have s_errUTF8 : Sen W 8 (txt Rows.laid_notary_value_errUTF8) := sen_of h1 (m 5 ("notary/value.errUTF8", Rows.laid_notary_value_errUTF8) rfl rfl) rfl gn_errUTF8.1 gn_errUTF8.2
  have s_errEnd : Sen W 26 (txt Rows.laid_notary_value_errEnd) := sen_of h1 (m 6 ("notary/value.errEnd", Rows.laid_notary_value_errEnd) rfl rfl) rfl gn_errEnd.1 gn_errEnd.2
  have s_errRest : Sen W 11 (txt Rows.laid_notary_value_errRest) := sen_of h1 (m 7 ("notary/value.errRest", Rows.laid_notary_value_errRest) rfl rfl) rfl gn_errRest.1 gn_errRest.2
  have s_errSign : Sen W 19 (txt Rows.laid_notary_value_errSign) := sen_of h1 (m 8 ("notary/value.errSign", Rows.laid_notary_value_errSign) rfl rfl) rfl gn_errSign.1 gn_errSign.2
  have s_errDeep : Sen W 25 (txt Rows.laid_notary_value_errDeep) := sen_of h1 (m 9 ("notary/value.errDeep", Rows.laid_notary_value_errDeep) rfl rfl) rfl gn_errDeep.1 gn_errDeep.2
  have s_errNumber : Sen W 22 (txt Rows.laid_notary_value_errNumber) := sen_of h1 (m 10 ("notary/value.errNumber", Rows.laid_notary_value_errNumber) rfl rfl) rfl gn_errNumber.1 gn_errNumber.2
  have s_errGreat : Sen W 21 (txt Rows.laid_notary_value_errGreat) := sen_of h1 (m 11 ("notary/value.errGreat", Rows.laid_notary_value_errGreat) rfl rfl) rfl gn_errGreat.1 gn_errGreat.2
  have s_errControl : Sen W 20 (txt Rows.laid_notary_value_errControl) := sen_of h1 (m 12 ("notary/value.errControl", Rows.laid_notary_value_errControl) rfl rfl) rfl gn_errControl.1 gn_errControl.2
  have s_errEscape : Sen W 27 (txt Rows.laid_notary_value_errEscape) := sen_of h1 (m 13 ("notary/value.errEscape", Rows.laid_notary_value_errEscape) rfl rfl) rfl gn_errEscape.1 gn_errEscape.2
  have s_errSurrogate : Sen W 28 (txt Rows.laid_notary_value_errSurrogate) := sen_of h1 (m 14 ("notary/value.errSurrogate", Rows.laid_notary_value_errSurrogate) rfl rfl) rfl gn_errSurrogate.1 gn_errSurrogate.2
  have s_errTwice : Sen W 18 (txt Rows.laid_notary_value_errTwice) := sen_of h1 (m 15 ("notary/value.errTwice", Rows.laid_notary_value_errTwice) rfl rfl) rfl gn_errTwice.1 gn_errTwice.2
  have s_errInside : Sen W 15 (txt Rows.laid_notary_value_errInside) := sen_of h1 (m 16 ("notary/value.errInside", Rows.laid_notary_value_errInside) rfl rfl) rfl gn_errInside.1 gn_errInside.2
  have s_errLong : Sen W 3 (txt Rows.laid_notary_notary_errLong) := sen_of h1 (m 17 ("notary/notary.errLong", Rows.laid_notary_notary_errLong) rfl rfl) rfl gn_errLong.1 gn_errLong.2
  have s_errObject : Sen W 4 (txt Rows.laid_notary_notary_errObject) := sen_of h1 (m 18 ("notary/notary.errObject", Rows.laid_notary_notary_errObject) rfl rfl) rfl gn_errObject.1 gn_errObject.2
  have s_errConflict : Sen W 5 (txt Rows.laid_notary_notary_errConflict) := sen_of h1 (m 19 ("notary/notary.errConflict", Rows.laid_notary_notary_errConflict) rfl rfl) rfl gn_errConflict.1 gn_errConflict.2
  have s_errUnknown : Sen W 1 (txt Rows.laid_notary_notary_errUnknown) := sen_of h1 (m 20 ("notary/notary.errUnknown", Rows.laid_notary_notary_errUnknown) rfl rfl) rfl gn_errUnknown.1 gn_errUnknown.2
  have hfirst := laidMet.reads h1 (m 21 ("unicode/utf8.first", Rows.laid_unicode_utf8_first) rfl (by kernel_rfl))
  have hacc := laidMet.reads h1 (m 3 ("unicode/utf8.acceptRanges", Rows.laid_unicode_utf8_acceptRanges) rfl rfl)
  have hpow := laidMet.reads h1 (m 2 ("internal/strconv.uint64pow10", Rows.laid_internal_strconv_uint64pow10) rfl rfl)
  have hlast := laidMet.reads h1 (m 1 ("math/bits.deBruijn64tab", Rows.laid_math_bits_deBruijn64tab) rfl rfl)
  rw [firstD] at hfirst
  rw [accD] at hacc
  rw [powD] at hpow
  have hsz : 31 ≤ W.heap.size := by
    obtain ⟨g, t, cs, fuel, p, k1, k2, k3, k4⟩ := hlast
    have hg := Option.some.inj (lastG.symm.trans k1)
    unfold World.var? at k3
    rw [k1] at k3
    subst hg
    simp only [Option.bind_some] at k3
    rcases Nat.lt_or_ge 30 W.heap.size with h | h
    · exact h
    · rw [Array.getElem?_eq_none h] at k3
      cases k3
  have hty : W.cell? ⟨6, 0, none⟩ = some (.iface 237 ((Value.agg #[Value.pointer (some (Addr.mk 31 58 none))]))) := by
    have hx := h2 ("errors.errorType", Rows.laid_errors_errorType) (List.mem_filter.2 ⟨hm _ (List.mem_of_getElem? (i := 4) rfl), rfl⟩)
    obtain ⟨name, u, ty, e1, e2, e3, e4, e5⟩ := hx
    have en : name = [101, 114, 114, 111, 114] := (Option.some.inj e1).symm
    subst en
    obtain rfl := Option.some.inj (rtT.symm.trans e2)
    have hmm : ty ∈ (List.range 381).filter fun t => Tryz.prog.rowNamed t [101, 114, 114, 111, 114] := List.mem_filter.2 ⟨List.mem_range.2 (by rw [← typesN]; exact e3), e4⟩
    rw [oneRow] at hmm
    obtain rfl := List.mem_singleton.1 hmm
    have hh : typeHandle Tryz.prog 58 = .pointer (some ⟨31, 58, none⟩) := by kernel_rfl
    rw [hh] at e5
    simpa using World.var?_cell etG e5 0
  refine ⟨⟨⟨hsz, ?_⟩, utf8Tabs_of_readsT u8T u8X hfirst hacc, ?_⟩, hty, s_errLong.three, s_errObject.three, fun a => s_errLong.ne s_errObject (by decide) a⟩
  · intro g hg
    simp only [List.mem_cons, List.not_mem_nil, or_false] at hg
    rcases hg with rfl | rfl | rfl | rfl | rfl | rfl | rfl | rfl | rfl | rfl | rfl | rfl
    · exact s_errControl.errs s_errLong s_errObject s_errConflict s_errUnknown (by decide) (by decide) (by decide) (by decide)
    · exact s_errDeep.errs s_errLong s_errObject s_errConflict s_errUnknown (by decide) (by decide) (by decide) (by decide)
    · exact s_errEnd.errs s_errLong s_errObject s_errConflict s_errUnknown (by decide) (by decide) (by decide) (by decide)
    · exact s_errEscape.errs s_errLong s_errObject s_errConflict s_errUnknown (by decide) (by decide) (by decide) (by decide)
    · exact s_errGreat.errs s_errLong s_errObject s_errConflict s_errUnknown (by decide) (by decide) (by decide) (by decide)
    · exact s_errInside.errs s_errLong s_errObject s_errConflict s_errUnknown (by decide) (by decide) (by decide) (by decide)
    · exact s_errNumber.errs s_errLong s_errObject s_errConflict s_errUnknown (by decide) (by decide) (by decide) (by decide)
    · exact s_errRest.errs s_errLong s_errObject s_errConflict s_errUnknown (by decide) (by decide) (by decide) (by decide)
    · exact s_errSign.errs s_errLong s_errObject s_errConflict s_errUnknown (by decide) (by decide) (by decide) (by decide)
    · exact s_errSurrogate.errs s_errLong s_errObject s_errConflict s_errUnknown (by decide) (by decide) (by decide) (by decide)
    · exact s_errTwice.errs s_errLong s_errObject s_errConflict s_errUnknown (by decide) (by decide) (by decide) (by decide)
    · exact s_errUTF8.errs s_errLong s_errObject s_errConflict s_errUnknown (by decide) (by decide) (by decide) (by decide)
  · refine tabBelow_of_tabIs ?_
    obtain ⟨g, t, cs, fuel, p, k1, k2, k3, k4⟩ := hpow
    obtain rfl := Option.some.inj (powG.symm.trans k1)
    obtain rfl := Option.some.inj (powY.symm.trans k2)
    unfold TabIs
    rw [k3, ← cells_of_tab Tryz.underlying328 Tryz.underlying157 c8 c20 k4]
end Go.Proofs.YtocligpfmfmihabGreatDoor
namespace Go.Proofs.YtocligpfmfmihabGreatDoor
open Go Go.RowKit Go.ChangeShapes Go.Lib Go.Shelf

theorem gn_errKind : Tryz.prog.globalNamed "notary/notary.errKind" = some 9 ∧ (Tryz.prog.globals[9]?).map (·.type) = some 58 := ⟨by kernel_rfl, by kernel_rfl⟩
theorem gn_errName : Tryz.prog.globalNamed "notary/notary.errName" = some 12 ∧ (Tryz.prog.globals[12]?).map (·.type) = some 58 := ⟨by kernel_rfl, by kernel_rfl⟩
theorem gn_errBelow : Tryz.prog.globalNamed "notary/notary.errBelow" = some 10 ∧ (Tryz.prog.globals[10]?).map (·.type) = some 58 := ⟨by kernel_rfl, by kernel_rfl⟩
theorem gn_errCount : Tryz.prog.globalNamed "notary/notary.errCount" = some 13 ∧ (Tryz.prog.globals[13]?).map (·.type) = some 58 := ⟨by kernel_rfl, by kernel_rfl⟩
theorem gn_errBoth : Tryz.prog.globalNamed "notary/notary.errBoth" = some 14 ∧ (Tryz.prog.globals[14]?).map (·.type) = some 58 := ⟨by kernel_rfl, by kernel_rfl⟩
theorem gn_errSignature : Tryz.prog.globalNamed "notary/notary.errSignature" = some 2 ∧ (Tryz.prog.globals[2]?).map (·.type) = some 58 := ⟨by kernel_rfl, by kernel_rfl⟩
theorem sub_reads : ∀ x ∈ ordL, x ∈ readL := by
  intro x hx
  rcases List.mem_iff_getElem?.1 hx with ⟨i, hi⟩
  match i, hi with
  | 0, hi => exact (Option.some.inj hi) ▸ List.mem_of_getElem? (i := 0) rfl
  | 1, hi => exact (Option.some.inj hi) ▸ List.mem_of_getElem? (i := 1) rfl
  | 2, hi => exact (Option.some.inj hi) ▸ List.mem_of_getElem? (i := 2) rfl
  | 3, hi => exact (Option.some.inj hi) ▸ List.mem_of_getElem? (i := 3) rfl
  | 4, hi => exact (Option.some.inj hi) ▸ List.mem_of_getElem? (i := 4) rfl
  | 5, hi => exact (Option.some.inj hi) ▸ List.mem_of_getElem? (i := 5) rfl
  | 6, hi => exact (Option.some.inj hi) ▸ List.mem_of_getElem? (i := 6) rfl
  | 7, hi => exact (Option.some.inj hi) ▸ List.mem_of_getElem? (i := 7) rfl
  | 8, hi => exact (Option.some.inj hi) ▸ List.mem_of_getElem? (i := 8) rfl
  | 9, hi => exact (Option.some.inj hi) ▸ List.mem_of_getElem? (i := 9) rfl
  | 10, hi => exact (Option.some.inj hi) ▸ List.mem_of_getElem? (i := 10) rfl
  | 11, hi => exact (Option.some.inj hi) ▸ List.mem_of_getElem? (i := 11) rfl
  | 12, hi => exact (Option.some.inj hi) ▸ List.mem_of_getElem? (i := 12) rfl
  | 13, hi => exact (Option.some.inj hi) ▸ List.mem_of_getElem? (i := 13) rfl
  | 14, hi => exact (Option.some.inj hi) ▸ List.mem_of_getElem? (i := 14) rfl
  | 15, hi => exact (Option.some.inj hi) ▸ List.mem_of_getElem? (i := 15) rfl
  | 16, hi => exact (Option.some.inj hi) ▸ List.mem_of_getElem? (i := 16) rfl
  | 17, hi => exact (Option.some.inj hi) ▸ List.mem_of_getElem? (i := 17) rfl
  | 18, hi => exact (Option.some.inj hi) ▸ List.mem_of_getElem? (i := 18) rfl
  | 19, hi => exact (Option.some.inj hi) ▸ List.mem_of_getElem? (i := 20) rfl
  | 20, hi => exact (Option.some.inj hi) ▸ List.mem_of_getElem? (i := 21) rfl
  | 21, hi => exact (Option.some.inj hi) ▸ List.mem_of_getElem? (i := 27) rfl
  | n + 22, hi => cases hi
theorem Sen.plain {W : World} {g : Nat} {x a b c d : List UInt8} (h : Sen W g x) (h1 : Sen W 3 a) (h2 : Sen W 4 b) (h3 : Sen W 5 c) (h4 : Sen W 1 d)
    (n1 : x ≠ a) (n2 : x ≠ b) (n3 : x ≠ c) (n4 : x ≠ d) : ∃ q, W.cell? ⟨g, 0, none⟩ = some (errV q) ∧ Plain W q := by
  have h' := h
  obtain ⟨ad, s, cc, t, e1, e2, e3, e4⟩ := h
  refine ⟨ad, e1, ⟨cc, t, e4⟩, ?_⟩
  intro k hk
  simp only [four, List.mem_cons, List.not_mem_nil, or_false] at hk
  rcases hk with rfl | rfl | rfl | rfl
  · exact h'.ne h1 n1 ad e1
  · exact h'.ne h2 n2 ad e1
  · exact h'.ne h3 n3 ad e1
  · exact h'.ne h4 n4 ad e1
/-- What the listed variables give, for documents. -/
theorem ng2_of {L : List (String × DataW Unit)} {W : World} (h : laidMetH Tryz.prog L W) (hm : ∀ x ∈ readL, x ∈ L) : NG2 W := by
  obtain ⟨h1, h2⟩ := laidMetH_iff.1 h
  have m : ∀ (i : Nat) (x : String × DataW Unit), readL[i]? = some x → x.2.handleName?.isNone = true → x ∈ L.filter fun x => x.2.handleName?.isNone :=
    fun i x hi hx => List.mem_filter.2 ⟨hm x (List.mem_of_getElem? hi), hx⟩
  have s_errLong : Sen W 3 (txt Rows.laid_notary_notary_errLong) := sen_of h1 (m 17 ("notary/notary.errLong", Rows.laid_notary_notary_errLong) rfl rfl) rfl gn_errLong.1 gn_errLong.2
  have s_errObject : Sen W 4 (txt Rows.laid_notary_notary_errObject) := sen_of h1 (m 18 ("notary/notary.errObject", Rows.laid_notary_notary_errObject) rfl rfl) rfl gn_errObject.1 gn_errObject.2
  have s_errConflict : Sen W 5 (txt Rows.laid_notary_notary_errConflict) := sen_of h1 (m 20 ("notary/notary.errConflict", Rows.laid_notary_notary_errConflict) rfl rfl) rfl gn_errConflict.1 gn_errConflict.2
  have s_errUnknown : Sen W 1 (txt Rows.laid_notary_notary_errUnknown) := sen_of h1 (m 21 ("notary/notary.errUnknown", Rows.laid_notary_notary_errUnknown) rfl rfl) rfl gn_errUnknown.1 gn_errUnknown.2
  have s_errKind : Sen W 9 (txt Rows.laid_notary_notary_errKind) := sen_of h1 (m 22 ("notary/notary.errKind", Rows.laid_notary_notary_errKind) rfl rfl) rfl gn_errKind.1 gn_errKind.2
  have s_errName : Sen W 12 (txt Rows.laid_notary_notary_errName) := sen_of h1 (m 23 ("notary/notary.errName", Rows.laid_notary_notary_errName) rfl rfl) rfl gn_errName.1 gn_errName.2
  have s_errBelow : Sen W 10 (txt Rows.laid_notary_notary_errBelow) := sen_of h1 (m 24 ("notary/notary.errBelow", Rows.laid_notary_notary_errBelow) rfl rfl) rfl gn_errBelow.1 gn_errBelow.2
  have s_errCount : Sen W 13 (txt Rows.laid_notary_notary_errCount) := sen_of h1 (m 25 ("notary/notary.errCount", Rows.laid_notary_notary_errCount) rfl rfl) rfl gn_errCount.1 gn_errCount.2
  have s_errBoth : Sen W 14 (txt Rows.laid_notary_notary_errBoth) := sen_of h1 (m 26 ("notary/notary.errBoth", Rows.laid_notary_notary_errBoth) rfl rfl) rfl gn_errBoth.1 gn_errBoth.2
  have s_errSignature : Sen W 2 (txt Rows.laid_notary_notary_errSignature) := sen_of h1 (m 19 ("notary/notary.errSignature", Rows.laid_notary_notary_errSignature) rfl rfl) rfl gn_errSignature.1 gn_errSignature.2
  refine ⟨ng_of h (fun x hx => hm x (sub_reads x hx)), ?_, ?_⟩
  · intro g hg
    simp only [four, List.mem_cons, List.not_mem_nil, or_false] at hg
    rcases hg with rfl | rfl | rfl | rfl
    · exact s_errLong.three
    · exact s_errObject.three
    · exact s_errConflict.three
    · exact s_errUnknown.three
  · intro g hg
    simp only [List.mem_cons, List.not_mem_nil, or_false] at hg
    rcases hg with rfl | rfl | rfl | rfl | rfl | rfl
    · exact s_errKind.plain s_errLong s_errObject s_errConflict s_errUnknown (by decide) (by decide) (by decide) (by decide)
    · exact s_errName.plain s_errLong s_errObject s_errConflict s_errUnknown (by decide) (by decide) (by decide) (by decide)
    · exact s_errBelow.plain s_errLong s_errObject s_errConflict s_errUnknown (by decide) (by decide) (by decide) (by decide)
    · exact s_errCount.plain s_errLong s_errObject s_errConflict s_errUnknown (by decide) (by decide) (by decide) (by decide)
    · exact s_errBoth.plain s_errLong s_errObject s_errConflict s_errUnknown (by decide) (by decide) (by decide) (by decide)
    · exact s_errSignature.plain s_errLong s_errObject s_errConflict s_errUnknown (by decide) (by decide) (by decide) (by decide)
end Go.Proofs.YtocligpfmfmihabGreatDoor
namespace Go.Proofs.YtocligpfmfmihabGreatDoor
open Go Go.RowKit Go.ChangeShapes Go.Lib Go.Shelf

theorem gn_errOther : Tryz.prog.globalNamed "notary/notary.errOther" = some 7 ∧ (Tryz.prog.globals[7]?).map (·.type) = some 58 := ⟨by kernel_rfl, by kernel_rfl⟩
theorem gn_errFails : Tryz.prog.globalNamed "notary/notary.errFails" = some 0 ∧ (Tryz.prog.globals[0]?).map (·.type) = some 58 := ⟨by kernel_rfl, by kernel_rfl⟩
theorem sub_learns : ∀ x ∈ readL, x ∈ Rows.fetchedRow.laid := by
  intro x hx
  rcases List.mem_iff_getElem?.1 hx with ⟨i, hi⟩
  match i, hi with
  | 0, hi => exact (Option.some.inj hi) ▸ List.mem_of_getElem? (i := 0) rfl
  | 1, hi => exact (Option.some.inj hi) ▸ List.mem_of_getElem? (i := 1) rfl
  | 2, hi => exact (Option.some.inj hi) ▸ List.mem_of_getElem? (i := 2) rfl
  | 3, hi => exact (Option.some.inj hi) ▸ List.mem_of_getElem? (i := 3) rfl
  | 4, hi => exact (Option.some.inj hi) ▸ List.mem_of_getElem? (i := 4) rfl
  | 5, hi => exact (Option.some.inj hi) ▸ List.mem_of_getElem? (i := 5) rfl
  | 6, hi => exact (Option.some.inj hi) ▸ List.mem_of_getElem? (i := 6) rfl
  | 7, hi => exact (Option.some.inj hi) ▸ List.mem_of_getElem? (i := 7) rfl
  | 8, hi => exact (Option.some.inj hi) ▸ List.mem_of_getElem? (i := 8) rfl
  | 9, hi => exact (Option.some.inj hi) ▸ List.mem_of_getElem? (i := 9) rfl
  | 10, hi => exact (Option.some.inj hi) ▸ List.mem_of_getElem? (i := 10) rfl
  | 11, hi => exact (Option.some.inj hi) ▸ List.mem_of_getElem? (i := 11) rfl
  | 12, hi => exact (Option.some.inj hi) ▸ List.mem_of_getElem? (i := 12) rfl
  | 13, hi => exact (Option.some.inj hi) ▸ List.mem_of_getElem? (i := 13) rfl
  | 14, hi => exact (Option.some.inj hi) ▸ List.mem_of_getElem? (i := 14) rfl
  | 15, hi => exact (Option.some.inj hi) ▸ List.mem_of_getElem? (i := 15) rfl
  | 16, hi => exact (Option.some.inj hi) ▸ List.mem_of_getElem? (i := 16) rfl
  | 17, hi => exact (Option.some.inj hi) ▸ List.mem_of_getElem? (i := 17) rfl
  | 18, hi => exact (Option.some.inj hi) ▸ List.mem_of_getElem? (i := 18) rfl
  | 19, hi => exact (Option.some.inj hi) ▸ List.mem_of_getElem? (i := 19) rfl
  | 20, hi => exact (Option.some.inj hi) ▸ List.mem_of_getElem? (i := 20) rfl
  | 21, hi => exact (Option.some.inj hi) ▸ List.mem_of_getElem? (i := 21) rfl
  | 22, hi => exact (Option.some.inj hi) ▸ List.mem_of_getElem? (i := 22) rfl
  | 23, hi => exact (Option.some.inj hi) ▸ List.mem_of_getElem? (i := 23) rfl
  | 24, hi => exact (Option.some.inj hi) ▸ List.mem_of_getElem? (i := 24) rfl
  | 25, hi => exact (Option.some.inj hi) ▸ List.mem_of_getElem? (i := 25) rfl
  | 26, hi => exact (Option.some.inj hi) ▸ List.mem_of_getElem? (i := 26) rfl
  | 27, hi => exact (Option.some.inj hi) ▸ List.mem_of_getElem? (i := 29) rfl
  | n + 28, hi => cases hi
/-- What the listed variables give, for notaries. -/
theorem ng3_of {L : List (String × DataW Unit)} {W : World} (h : laidMetH Tryz.prog L W) (hm : ∀ x ∈ Rows.fetchedRow.laid, x ∈ L) : NG3 W := by
  obtain ⟨h1, h2⟩ := laidMetH_iff.1 h
  have m : ∀ (i : Nat) (x : String × DataW Unit), Rows.fetchedRow.laid[i]? = some x → x.2.handleName?.isNone = true → x ∈ L.filter fun x => x.2.handleName?.isNone :=
    fun i x hi hx => List.mem_filter.2 ⟨hm x (List.mem_of_getElem? hi), hx⟩
  have s_errLong : Sen W 3 (txt Rows.laid_notary_notary_errLong) := sen_of h1 (m 17 ("notary/notary.errLong", Rows.laid_notary_notary_errLong) rfl rfl) rfl gn_errLong.1 gn_errLong.2
  have s_errObject : Sen W 4 (txt Rows.laid_notary_notary_errObject) := sen_of h1 (m 18 ("notary/notary.errObject", Rows.laid_notary_notary_errObject) rfl rfl) rfl gn_errObject.1 gn_errObject.2
  have s_errConflict : Sen W 5 (txt Rows.laid_notary_notary_errConflict) := sen_of h1 (m 20 ("notary/notary.errConflict", Rows.laid_notary_notary_errConflict) rfl rfl) rfl gn_errConflict.1 gn_errConflict.2
  have s_errUnknown : Sen W 1 (txt Rows.laid_notary_notary_errUnknown) := sen_of h1 (m 21 ("notary/notary.errUnknown", Rows.laid_notary_notary_errUnknown) rfl rfl) rfl gn_errUnknown.1 gn_errUnknown.2
  have s_errOther : Sen W 7 (txt Rows.laid_notary_notary_errOther) := sen_of h1 (m 27 ("notary/notary.errOther", Rows.laid_notary_notary_errOther) rfl rfl) rfl gn_errOther.1 gn_errOther.2
  have s_errFails : Sen W 0 (txt Rows.laid_notary_notary_errFails) := sen_of h1 (m 28 ("notary/notary.errFails", Rows.laid_notary_notary_errFails) rfl rfl) rfl gn_errFails.1 gn_errFails.2
  refine ⟨ng2_of h (fun x hx => hm x (sub_learns x hx)), ?_, ?_⟩
  · intro g hg g' hg' hne a ha
    simp only [four, List.mem_cons, List.not_mem_nil, or_false] at hg hg'
    rcases hg with rfl | rfl | rfl | rfl <;> rcases hg' with rfl | rfl | rfl | rfl
    · exact absurd rfl hne
    · exact s_errLong.ne s_errObject (by decide) a ha
    · exact s_errLong.ne s_errConflict (by decide) a ha
    · exact s_errLong.ne s_errUnknown (by decide) a ha
    · exact s_errObject.ne s_errLong (by decide) a ha
    · exact absurd rfl hne
    · exact s_errObject.ne s_errConflict (by decide) a ha
    · exact s_errObject.ne s_errUnknown (by decide) a ha
    · exact s_errConflict.ne s_errLong (by decide) a ha
    · exact s_errConflict.ne s_errObject (by decide) a ha
    · exact absurd rfl hne
    · exact s_errConflict.ne s_errUnknown (by decide) a ha
    · exact s_errUnknown.ne s_errLong (by decide) a ha
    · exact s_errUnknown.ne s_errObject (by decide) a ha
    · exact s_errUnknown.ne s_errConflict (by decide) a ha
    · exact absurd rfl hne
  · intro g hg
    simp only [List.mem_cons, List.not_mem_nil, or_false] at hg
    rcases hg with rfl | rfl
    · exact s_errOther.plain s_errLong s_errObject s_errConflict s_errUnknown (by decide) (by decide) (by decide) (by decide)
    · exact s_errFails.plain s_errLong s_errObject s_errConflict s_errUnknown (by decide) (by decide) (by decide) (by decide)
end Go.Proofs.YtocligpfmfmihabGreatDoor
namespace Go.Proofs.YtocligpfmfmihabGreatDoor.wl
open Go

/-- The listed variables but the type's handle. -/
noncomputable def plainL : List (String × DataW Unit) := Rows.fetchedRow.laid.filter fun x => x.2.handleName?.isNone
/-- A world in which the handle is laid. -/
noncomputable def hWorld (os : Os) : World :=
  let w0 := World.holding Tryz.prog os ⟨#[], #[], []⟩
  { w0 with heap := w0.heap.modify 6 fun
      | .cells _ t frozen => .cells #[.iface 237 ((Value.agg #[Value.pointer (some (Addr.mk 31 58 none))]))] t frozen
      | o => o }
/-- .. and all the rest. -/
noncomputable def lWorld (os : Os) : World := (hWorld os).layVars Tryz.prog plainL
theorem lWorld_os (os : Os) : (lWorld os).os = os := World.layVars_os _ _ _
theorem wit_fits (os : Os) : (hWorld os).layFits Tryz.prog plainL [] = true := by kernel_rfl
theorem wit_ifaces (os : Os) : (hWorld os).layIfaces Tryz.prog plainL (lWorld os) = true := by kernel_rfl
theorem wit_handle (os : Os) : ((Rows.fetchedRow.laid.filter fun x => x.2.handleName?.isSome).all (handleAtB Tryz.prog (lWorld os))) = true := by kernel_rfl
theorem wit_laid (os : Os) : laidMetH Tryz.prog Rows.fetchedRow.laid (lWorld os) := by
  refine laidMetH_of_parts ?_ (wit_handle os)
  show laidMet Tryz.prog plainL (lWorld os)
  have e1 : (plainL.filter fun x => (plainL.map (·.1)).contains x.1) = plainL := List.filter_eq_self.2 fun x hx => List.contains_iff_mem.2 (List.mem_map.2 ⟨x, hx, rfl⟩)
  have e2 : (plainL.filter fun x => !(plainL.map (·.1)).contains x.1) = [] := List.filter_eq_nil_iff.2 fun x hx => by rw [List.contains_iff_mem.2 (List.mem_map.2 ⟨x, hx, rfl⟩)]; simp
  exact laidMet_layVars (w0 := hWorld os) (plainL.map (·.1)) [] (by rw [e1]; rfl) (by rw [e1]; exact wit_fits os) (by rw [e1]; exact wit_ifaces os) (by rw [e2]; exact LaidIn.none)
theorem wit_met (os : Os) (args : Array Value) : laidMetH Tryz.prog Rows.fetchedRow.laid ((lWorld os).forCall (fun _ _ => 0) ⟨#[], args, []⟩).memory :=
  laidMetH.of_heap (w := lWorld os) (by simp [World.memory, World.forCall, Input.heap]) (wit_laid os)
end Go.Proofs.YtocligpfmfmihabGreatDoor.wl

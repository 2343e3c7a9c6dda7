import Derived.Test.YtocligpfmfmihabGreatDoorVp3G
import Derived.Test.YtocligpfmfmihabGreatDoorSgn2G
import Derived.Deep.Slices
import Derived.SliceStrings
import Derived.Test.YtocligpfmfmihabGreatDoorCanG
import Derived.LaidSub
import Derived.LaidLaws
import Derived.Lib.LaidU8T
namespace Go.Proofs.YtocligpfmfmihabGreatDoor
open Go Go.RowKit Go.ChangeShapes Go.WideShapes

theorem gcell_spot {w : World} {a : Addr} {v : Value} (h : w.cell? a = some v) : a.spot = none := by
  unfold World.cell? at h
  split at h
  · split at h
    · cases h
    · rename_i hn
      simpa using hn
  · cases h
def neB (t : Bs) : Bool := !t.isEmpty
theorem neB_of {t : Bs} (h : t ≠ []) : neB t = true := by
  cases t with
  | nil => exact absurd rfl h
  | cons a b => rfl
theorem gbulk_one {H : Type} (d : DataW H) : 1 ≤ Rows.uptoBulk d := by
  cases d with
  | lit l => cases l <;> simp [Rows.uptoBulk]
  | _ => simp [Rows.uptoBulk]
theorem gbulk_len {H : Type} : ∀ l : List (DataW H), l.length ≤ Rows.uptoBulkAll l
  | [] => by simp [Rows.uptoBulkAll]
  | d :: r => by
    have := gbulk_one d
    have := gbulk_len r
    simp only [Rows.uptoBulkAll, List.length_cons]
    omega
theorem gbulk_two {H : Type} : ∀ l : List ByteArray, 2 * ((l.map fun s => s.data.toList).filter neB).length ≤ Rows.uptoBulkAll (strs (H := H) l)
  | [] => by simp
  | s :: l => by
    have h := gbulk_two (H := H) l
    have e : Rows.uptoBulkAll (strs (H := H) (s :: l)) = s.data.toList.length + 1 + Rows.uptoBulkAll (strs (H := H) l) := by simp [strs, Rows.uptoBulkAll, Rows.uptoBulk]
    rw [e, List.map_cons]
    by_cases hs : s.data.toList = []
    · rw [List.filter_cons_of_neg (by rw [hs]; decide)]
      omega
    · rw [List.filter_cons_of_pos (neB_of hs), List.length_cons]
      have : 1 ≤ s.data.toList.length := by
        cases hl : s.data.toList with
        | nil => exact absurd hl hs
        | cons a b => simp
      omega
section
variable {H : Type} {enc : TypeId × Value → H} {W : World} {fuel : Nat} {cs : List Value} {x : DataW H × List MemPlace}
theorem open_docs (h : DataW.trod enc Tryz.prog W 0 (fun _ => true) true fuel 26 cs = some x) :
    ∃ (xs : List Bs) (va : Option Addr) (vc : Nat), cs = [.slice va xs.length vc] ∧ SrI W xs va ∧ xs.length ≤ Rows.uptoBulk x.1 ∧ 2 * (xs.filter neB).length ≤ Rows.uptoBulk x.1 := by
  rcases open_strings Tryz.underlying26 Tryz.underlying9 (by kernel_rfl) h with ⟨rfl, rfl⟩ | ⟨a, len, cap, ss, rfl, _, hl, _, hz, rfl, hcell, _⟩
  · exact ⟨[], none, 0, rfl, fun j x h => (by simp at h), by simp, by simp⟩
  rw [if_pos rfl] at hz
  have hlen : ((ss.take len).map fun s => s.data.toList).length = len := by simp; omega
  refine ⟨(ss.take len).map fun s => s.data.toList, some a, cap, by rw [hlen], ?_, ?_, ?_⟩
  · intro j u hu
    have hj : j < len := by
      have := (List.getElem?_eq_some_iff.1 hu).1
      rwa [hlen] at this
    have hc := hcell j (by omega)
    rw [List.getElem?_map, List.getElem?_take_of_lt hj, List.getElem?_eq_getElem (by omega)] at hu
    simp only [Option.map_some, Option.some.injEq] at hu
    subst hu
    obtain ⟨g, o, sp⟩ := a
    have h0 := hcell 0 (by omega)
    have hsp : sp = none := gcell_spot (a := ⟨g, o, sp⟩) (by unfold Addr.add at h0; simpa using h0)
    subst hsp
    refine ⟨g, o, rfl, ?_⟩
    rw [Addr.add_lit] at hc
    rw [hc]
    simp [List.getD, List.getElem?_eq_getElem (show j < ss.length by omega)]
  · rw [hlen]
    have h1 := gbulk_len (strs (H := H) (ss.take len))
    have h2 : (strs (H := H) (ss.take len)).length = len := by
      simp only [strs, List.length_map, List.length_take]
      omega
    simp only [Rows.uptoBulk]
    omega
  · have h1 := gbulk_two (H := H) (ss.take len)
    simp only [Rows.uptoBulk]
    omega
theorem open_docs1 (h : DataW.trod enc Tryz.prog W 0 (fun _ => true) true fuel 26 cs = some x) :
    ∃ (xs : List Bs) (va : Option Addr) (vc : Nat), cs = [.slice va xs.length vc] ∧ SrI W xs va ∧ ((∃ el sp, x.1 = .slice el sp ∧ xs.length ≤ el.length) ∨ xs.length = 0) := by
  obtain ⟨xs, va, vc, e, hS, _⟩ := open_docs h
  refine ⟨xs, va, vc, e, hS, ?_⟩
  rcases open_strings Tryz.underlying26 Tryz.underlying9 (by kernel_rfl) h with ⟨h0, _⟩ | ⟨a, len, cap, ss, h0, _, hl, _, hz, h1, _⟩
  · rw [e] at h0
    injection h0 with h0
    injection h0 with _ h0
    exact Or.inr h0
  · rw [e] at h0
    injection h0 with h0
    injection h0 with _ h0
    rw [if_pos rfl] at hz
    refine Or.inl ⟨_, _, by rw [h1], ?_⟩
    simp only [strs, List.length_map, List.length_take]
    omega
end
end Go.Proofs.YtocligpfmfmihabGreatDoor
namespace Go.Proofs.YtocligpfmfmihabGreatDoor
open Go Go.RowKit Go.ChangeShapes

theorem lv_at {P : Program} {w : World} : ∀ {l : List (String × DataW Unit)} {ps : List MemPlace}, DataW.LaidVars P w l ps → ∀ n d, (n, d) ∈ l →
    ∃ g t cs fuel p, P.globalNamed n = some g ∧ (P.globals[g]?).map (·.type) = some t ∧ w.var? P n = some cs ∧ DataW.trod (fun _ => ()) P w 0 (fun _ => true) false fuel t cs.toList = some (d, p) ∧ ∀ x ∈ MemPlace.row ⟨g, 0, none⟩ cs.size ++ p, x ∈ ps
  | [], _, _, _, _, hm => by cases hm
  | (n', d') :: r, ps, h, n, d, hm => by
    obtain ⟨g, t, cs, fuel, p, q, h1, h2, h3, h4, h5, rfl⟩ := h
    rcases List.mem_cons.1 hm with e | e
    · cases e
      exact ⟨g, t, cs, fuel, p, h1, h2, h3, h4, fun x hx => List.mem_append_left _ hx⟩
    · obtain ⟨g', t', cs', fuel', p', k1, k2, k3, k4, k5⟩ := lv_at h5 n d e
      exact ⟨g', t', cs', fuel', p', k1, k2, k3, k4, fun x hx => List.mem_append_right _ (k5 x hx)⟩

/-- The variable g holds an error of errors.New's with this text. -/
def Sen (W : World) (g : Nat) (text : List UInt8) : Prop := ∃ (a : Addr) (s : ByteArray) (c : Array Value) (t : TypeId), W.cell? ⟨g, 0, none⟩ = some (errV a) ∧ W.cell? a = some (.string s) ∧ s.data.toList = text ∧ W.heap[a.block]? = some (.cells c t)
def txt : DataW Unit → List UInt8
  | .iface _ (.ptr (.agg [.lit (.string t)])) => t
  | _ => []
theorem star : "*" ++ "errors.errorString" = "*errors.errorString" := by decide
theorem rowE (u : TypeId) (h : Tryz.prog.typeName? 3 u = some "*errors.errorString") : u = 350 :=
  typeName_ptr_named (nm := "errors.errorString") (by rw [star]; kernel_rfl) (by kernel_rfl) (by decide) u (by rw [star]; exact h)
theorem cellsE : Tryz.prog.cellsOf 370 = 1 := by kernel_rfl
theorem cellsS : Tryz.prog.cellsOf 9 = 1 := by kernel_rfl

set_option maxRecDepth 20000 in
theorem sen_of {L : List (String × DataW Unit)} {W : World} {n : String} {d : DataW Unit} {g : Nat} (h : laidMet Tryz.prog L W) (hm : (n, d) ∈ L) (hd : d = .iface "*errors.errorString" (.ptr (.agg [.lit (.string (txt d))])))
    (hg : Tryz.prog.globalNamed n = some g) (ht : (Tryz.prog.globals[g]?).map (·.type) = some 58) : Sen W g (txt d) := by
  obtain ⟨ps, hv, hnd, hrows⟩ := h
  obtain ⟨g', t', cs, fuel, p, k1, k2, k3, k4, k5⟩ := lv_at hv n d hm
  obtain rfl := Option.some.inj (hg.symm.trans k1)
  obtain rfl := Option.some.inj (ht.symm.trans k2)
  obtain ⟨l0⟩ := cs
  have ok0 : ∀ u v, l0 = [.iface u v] → Value.okWide Tryz.prog W .any 0 u v := fun u v e => by
    subst e
    exact (hrows g 0 (k5 _ (by simp [MemPlace.row]))).2 u v ((World.var?_cell hg k3 0).trans rfl)
  rw [hd] at k4
  obtain ⟨a0, s0, rfl, hc0, hs0, hz0, rfl⟩ := errorString_of_trod Tryz.underlying58 rowE Tryz.underlying350 Tryz.underlying370 rfl rfl Tryz.underlying9 cellsE cellsS k4 ok0
  obtain ⟨c0, t0, hb0⟩ := (hrows a0.block a0.off (k5 _ (by simp [MemPlace.row]))).1
  exact ⟨a0, s0, c0, t0, (World.var?_cell hg k3 0).trans rfl, hc0, hs0, hb0⟩
theorem Sen.ne {W : World} {g g' : Nat} {x y : List UInt8} (h1 : Sen W g x) (h2 : Sen W g' y) (hxy : x ≠ y) (a : Addr) (h : W.cell? ⟨g, 0, none⟩ = some (errV a)) : W.cell? ⟨g', 0, none⟩ ≠ some (errV a) := by
  intro h'
  obtain ⟨a1, s1, _, _, e1, e2, e3, _⟩ := h1
  obtain ⟨a2, s2, _, _, f1, f2, f3, _⟩ := h2
  rw [h] at e1
  rw [h'] at f1
  simp only [errV, Option.some.injEq, Value.iface.injEq, Value.pointer.injEq, true_and] at e1 f1
  subst e1
  subst f1
  rw [e2] at f2
  injection f2 with f2
  injection f2 with f2
  subst f2
  exact hxy (e3.symm.trans f3)
theorem Sen.errs {W : World} {g : Nat} {x a b c d : List UInt8} (h : Sen W g x) (h1 : Sen W 3 a) (h2 : Sen W 4 b) (h3 : Sen W 5 c) (h4 : Sen W 1 d)
    (n1 : x ≠ a) (n2 : x ≠ b) (n3 : x ≠ c) (n4 : x ≠ d) : ∃ cb, Errs W g cb := by
  have h' := h
  obtain ⟨ad, s, cc, t, e1, e2, e3, e4⟩ := h
  refine ⟨ad, e1, lt_heap e4, ?_⟩
  intro k hk
  refine ⟨?_, cc, t, e4⟩
  simp only [List.mem_cons, List.not_mem_nil, or_false] at hk
  rcases hk with rfl | rfl | rfl | rfl
  · exact h'.ne h1 n1 ad e1
  · exact h'.ne h2 n2 ad e1
  · exact h'.ne h3 n3 ad e1
  · exact h'.ne h4 n4 ad e1
theorem Sen.three {W : World} {g : Nat} {x : List UInt8} (h : Sen W g x) : ∃ a c t, W.cell? ⟨g, 0, none⟩ = some (errV a) ∧ W.heap[a.block]? = some (.cells c t) := by
  obtain ⟨ad, s, cc, t, e1, e2, e3, e4⟩ := h
  exact ⟨ad, cc, t, e1, e4⟩
end Go.Proofs.YtocligpfmfmihabGreatDoor
namespace Go.Proofs.YtocligpfmfmihabGreatDoor
open Go Go.RowKit Go.ChangeShapes Go.Lib Go.Shelf

def u8R : Ren := ⟨fun x => x, fun | 5 => 5 | 119 => 299 | 138 => 301 | 139 => 302 | _ => 0, fun | 3 => 16 | 4 => 17 | _ => 0⟩
theorem u8T : U8Types Tryz.prog u8R := ⟨Tryz.underlying5, Tryz.underlying299, Tryz.underlying301, Tryz.underlying302⟩
theorem u8X : U8Extra Tryz.prog u8R := ⟨by kernel_rfl, by kernel_rfl, by kernel_rfl, by kernel_rfl, by kernel_rfl, by kernel_rfl, by kernel_rfl⟩
theorem firstD : Rows.laid_unicode_utf8_first = firstData := by kernel_rfl
theorem accD : (Rows.laid_unicode_utf8_acceptRanges : DataW Unit) = acceptData := by kernel_rfl
theorem powD : (Rows.laid_internal_strconv_uint64pow10 : DataW Unit) = tabData .u64 pow10Tab := by kernel_rfl
theorem rtT : (Tryz.prog.cutTypes.find? (·.1 == "internal/reflectlite.rtype")).map (·.2) = some 237 := by kernel_rfl
theorem oneRow : ((List.range 381).filter fun t => Tryz.prog.rowNamed t [101, 114, 114, 111, 114]) = [58] := by kernel_rfl
theorem typesN : Tryz.prog.types.size = 381 := by kernel_rfl
theorem etG : Tryz.prog.globalNamed "errors.errorType" = some 6 := by kernel_rfl
theorem powG : Tryz.prog.globalNamed "internal/strconv.uint64pow10" = some 24 := by kernel_rfl
theorem powY : (Tryz.prog.globals[24]?).map (·.type) = some 328 := by kernel_rfl
theorem c8 : Tryz.prog.cellsOf 157 = 1 := by kernel_rfl
theorem c20 : Tryz.prog.cellsOf 328 = 20 := by kernel_rfl
theorem lastG : Tryz.prog.globalNamed "math/bits.deBruijn64tab" = some 30 := by kernel_rfl
theorem gn_errUTF8 : Tryz.prog.globalNamed "notary/value.errUTF8" = some 8 ∧ (Tryz.prog.globals[8]?).map (·.type) = some 58 := ⟨by kernel_rfl, by kernel_rfl⟩
theorem gn_errEnd : Tryz.prog.globalNamed "notary/value.errEnd" = some 26 ∧ (Tryz.prog.globals[26]?).map (·.type) = some 58 := ⟨by kernel_rfl, by kernel_rfl⟩
theorem gn_errRest : Tryz.prog.globalNamed "notary/value.errRest" = some 11 ∧ (Tryz.prog.globals[11]?).map (·.type) = some 58 := ⟨by kernel_rfl, by kernel_rfl⟩
theorem gn_errSign : Tryz.prog.globalNamed "notary/value.errSign" = some 19 ∧ (Tryz.prog.globals[19]?).map (·.type) = some 58 := ⟨by kernel_rfl, by kernel_rfl⟩
theorem gn_errDeep : Tryz.prog.globalNamed "notary/value.errDeep" = some 25 ∧ (Tryz.prog.globals[25]?).map (·.type) = some 58 := ⟨by kernel_rfl, by kernel_rfl⟩
theorem gn_errNumber : Tryz.prog.globalNamed "notary/value.errNumber" = some 22 ∧ (Tryz.prog.globals[22]?).map (·.type) = some 58 := ⟨by kernel_rfl, by kernel_rfl⟩
theorem gn_errGreat : Tryz.prog.globalNamed "notary/value.errGreat" = some 21 ∧ (Tryz.prog.globals[21]?).map (·.type) = some 58 := ⟨by kernel_rfl, by kernel_rfl⟩
theorem gn_errControl : Tryz.prog.globalNamed "notary/value.errControl" = some 20 ∧ (Tryz.prog.globals[20]?).map (·.type) = some 58 := ⟨by kernel_rfl, by kernel_rfl⟩
theorem gn_errEscape : Tryz.prog.globalNamed "notary/value.errEscape" = some 27 ∧ (Tryz.prog.globals[27]?).map (·.type) = some 58 := ⟨by kernel_rfl, by kernel_rfl⟩
theorem gn_errSurrogate : Tryz.prog.globalNamed "notary/value.errSurrogate" = some 28 ∧ (Tryz.prog.globals[28]?).map (·.type) = some 58 := ⟨by kernel_rfl, by kernel_rfl⟩
theorem gn_errTwice : Tryz.prog.globalNamed "notary/value.errTwice" = some 18 ∧ (Tryz.prog.globals[18]?).map (·.type) = some 58 := ⟨by kernel_rfl, by kernel_rfl⟩
theorem gn_errInside : Tryz.prog.globalNamed "notary/value.errInside" = some 15 ∧ (Tryz.prog.globals[15]?).map (·.type) = some 58 := ⟨by kernel_rfl, by kernel_rfl⟩
theorem gn_errLong : Tryz.prog.globalNamed "notary/notary.errLong" = some 3 ∧ (Tryz.prog.globals[3]?).map (·.type) = some 58 := ⟨by kernel_rfl, by kernel_rfl⟩
theorem gn_errObject : Tryz.prog.globalNamed "notary/notary.errObject" = some 4 ∧ (Tryz.prog.globals[4]?).map (·.type) = some 58 := ⟨by kernel_rfl, by kernel_rfl⟩
theorem gn_errConflict : Tryz.prog.globalNamed "notary/notary.errConflict" = some 5 ∧ (Tryz.prog.globals[5]?).map (·.type) = some 58 := ⟨by kernel_rfl, by kernel_rfl⟩
theorem gn_errUnknown : Tryz.prog.globalNamed "notary/notary.errUnknown" = some 1 ∧ (Tryz.prog.globals[1]?).map (·.type) = some 58 := ⟨by kernel_rfl, by kernel_rfl⟩

/-- What the listed variables give. -/
theorem ng_of {L : List (String × DataW Unit)} {W : World} (h : laidMetH Tryz.prog L W) (hm : ∀ x ∈ ordL, x ∈ L) : NG W := by
  obtain ⟨h1, h2⟩ := laidMetH_iff.1 h
  have m : ∀ (i : Nat) (x : String × DataW Unit), ordL[i]? = some x → x.2.handleName?.isNone = true → x ∈ L.filter fun x => x.2.handleName?.isNone :=
    fun i x hi hx => List.mem_filter.2 ⟨hm x (List.mem_of_getElem? hi), hx⟩
  have s_errUTF8 : Sen W 8 (txt Rows.laid_notary_value_errUTF8) := sen_of h1 (m 5 ("notary/value.errUTF8", Rows.laid_notary_value_errUTF8) rfl rfl) rfl gn_errUTF8.1 gn_errUTF8.2
  have s_errEnd : Sen W 26 (txt Rows.laid_notary_value_errEnd) := sen_of h1 (m 6 ("notary/value.errEnd", Rows.laid_notary_value_errEnd) rfl rfl) rfl gn_errEnd.1 gn_errEnd.2
  have s_errRest : Sen W 11 (txt Rows.laid_notary_value_errRest) := sen_of h1 (m 7 ("notary/value.errRest", Rows.laid_notary_value_errRest) rfl rfl) rfl gn_errRest.1 gn_errRest.2
  have s_errSign : Sen W 19 (txt Rows.laid_notary_value_errSign) := sen_of h1 (m 8 ("notary/value.errSign", Rows.laid_notary_value_errSign) rfl rfl) rfl gn_errSign.1 gn_errSign.2
  have s_errDeep : Sen W 25 (txt Rows.laid_notary_value_errDeep) := sen_of h1 (m 9 ("notary/value.errDeep", Rows.laid_notary_value_errDeep) rfl rfl) rfl gn_errDeep.1 gn_errDeep.2
  have s_errNumber : Sen W 22 (txt Rows.laid_notary_value_errNumber) := sen_of h1 (m 10 ("notary/value.errNumber", Rows.laid_notary_value_errNumber) rfl rfl) rfl gn_errNumber.1 gn_errNumber.2
  have s_errGreat : Sen W 21 (txt Rows.laid_notary_value_errGreat) := sen_of h1 (m 11 ("notary/value.errGreat", Rows.laid_notary_value_errGreat) rfl rfl) rfl gn_errGreat.1 gn_errGreat.2
  have s_errControl : Sen W 20 (txt Rows.laid_notary_value_errControl) := sen_of h1 (m 12 ("notary/value.errControl", Rows.laid_notary_value_errControl) rfl rfl) rfl gn_errControl.1 gn_errControl.2
  have s_errEscape : Sen W 27 (txt Rows.laid_notary_value_errEscape) := sen_of h1 (m 13 ("notary/value.errEscape", Rows.laid_notary_value_errEscape) rfl rfl) rfl gn_errEscape.1 gn_errEscape.2
  have s_errSurrogate : Sen W 28 (txt Rows.laid_notary_value_errSurrogate) := sen_of h1 (m 14 ("notary/value.errSurrogate", Rows.laid_notary_value_errSurrogate) rfl rfl) rfl gn_errSurrogate.1 gn_errSurrogate.2
  have s_errTwice : Sen W 18 (txt Rows.laid_notary_value_errTwice) := sen_of h1 (m 15 ("notary/value.errTwice", Rows.laid_notary_value_errTwice) rfl rfl) rfl gn_errTwice.1 gn_errTwice.2
  have s_errInside : Sen W 15 (txt Rows.laid_notary_value_errInside) := sen_of h1 (m 16 ("notary/value.errInside", Rows.laid_notary_value_errInside) rfl rfl) rfl gn_errInside.1 gn_errInside.2
  have s_errLong : Sen W 3 (txt Rows.laid_notary_notary_errLong) := sen_of h1 (m 17 ("notary/notary.errLong", Rows.laid_notary_notary_errLong) rfl rfl) rfl gn_errLong.1 gn_errLong.2
  have s_errObject : Sen W 4 (txt Rows.laid_notary_notary_errObject) := sen_of h1 (m 18 ("notary/notary.errObject", Rows.laid_notary_notary_errObject) rfl rfl) rfl gn_errObject.1 gn_errObject.2
  have s_errConflict : Sen W 5 (txt Rows.laid_notary_notary_errConflict) := sen_of h1 (m 19 ("notary/notary.errConflict", Rows.laid_notary_notary_errConflict) rfl rfl) rfl gn_errConflict.1 gn_errConflict.2
  have s_errUnknown : Sen W 1 (txt Rows.laid_notary_notary_errUnknown) := sen_of h1 (m 20 ("notary/notary.errUnknown", Rows.laid_notary_notary_errUnknown) rfl rfl) rfl gn_errUnknown.1 gn_errUnknown.2
  have hfirst := laidMet.reads h1 (m 21 ("unicode/utf8.first", Rows.laid_unicode_utf8_first) rfl (by kernel_rfl))
  have hacc := laidMet.reads h1 (m 3 ("unicode/utf8.acceptRanges", Rows.laid_unicode_utf8_acceptRanges) rfl rfl)
  have hpow := laidMet.reads h1 (m 2 ("internal/strconv.uint64pow10", Rows.laid_internal_strconv_uint64pow10) rfl rfl)
  have hlast := laidMet.reads h1 (m 1 ("math/bits.deBruijn64tab", Rows.laid_math_bits_deBruijn64tab) rfl rfl)
  rw [firstD] at hfirst
  rw [accD] at hacc
  rw [powD] at hpow
  have hsz : 31 ≤ W.heap.size := by
    obtain ⟨g, t, cs, fuel, p, k1, k2, k3, k4⟩ := hlast
    have hg := Option.some.inj (lastG.symm.trans k1)
    unfold World.var? at k3
    rw [k1] at k3
    subst hg
    simp only [Option.bind_some] at k3
    rcases Nat.lt_or_ge 30 W.heap.size with h | h
    · exact h
    · rw [Array.getElem?_eq_none h] at k3
      cases k3
  have hty : W.cell? ⟨6, 0, none⟩ = some (.iface 237 ((Value.agg #[Value.pointer (some (Addr.mk 31 58 none))]))) := by
    have hx := h2 ("errors.errorType", Rows.laid_errors_errorType) (List.mem_filter.2 ⟨hm _ (List.mem_of_getElem? (i := 4) rfl), rfl⟩)
    obtain ⟨name, u, ty, e1, e2, e3, e4, e5⟩ := hx
    have en : name = [101, 114, 114, 111, 114] := (Option.some.inj e1).symm
    subst en
    obtain rfl := Option.some.inj (rtT.symm.trans e2)
    have hmm : ty ∈ (List.range 381).filter fun t => Tryz.prog.rowNamed t [101, 114, 114, 111, 114] := List.mem_filter.2 ⟨List.mem_range.2 (by rw [← typesN]; exact e3), e4⟩
    rw [oneRow] at hmm
    obtain rfl := List.mem_singleton.1 hmm
    have hh : typeHandle Tryz.prog 58 = .pointer (some ⟨31, 58, none⟩) := by kernel_rfl
    rw [hh] at e5
    simpa using World.var?_cell etG e5 0
  refine ⟨⟨⟨hsz, ?_⟩, utf8Tabs_of_readsT u8T u8X hfirst hacc, ?_⟩, hty, s_errLong.three, s_errObject.three, fun a => s_errLong.ne s_errObject (by decide) a⟩
  · intro g hg
    simp only [List.mem_cons, List.not_mem_nil, or_false] at hg
    rcases hg with rfl | rfl | rfl | rfl | rfl | rfl | rfl | rfl | rfl | rfl | rfl | rfl
    · exact s_errControl.errs s_errLong s_errObject s_errConflict s_errUnknown (by decide) (by decide) (by decide) (by decide)
    · exact s_errDeep.errs s_errLong s_errObject s_errConflict s_errUnknown (by decide) (by decide) (by decide) (by decide)
    · exact s_errEnd.errs s_errLong s_errObject s_errConflict s_errUnknown (by decide) (by decide) (by decide) (by decide)
    · exact s_errEscape.errs s_errLong s_errObject s_errConflict s_errUnknown (by decide) (by decide) (by decide) (by decide)
    · exact s_errGreat.errs s_errLong s_errObject s_errConflict s_errUnknown (by decide) (by decide) (by decide) (by decide)
    · exact s_errInside.errs s_errLong s_errObject s_errConflict s_errUnknown (by decide) (by decide) (by decide) (by decide)
    · exact s_errNumber.errs s_errLong s_errObject s_errConflict s_errUnknown (by decide) (by decide) (by decide) (by decide)
    · exact s_errRest.errs s_errLong s_errObject s_errConflict s_errUnknown (by decide) (by decide) (by decide) (by decide)
    · exact s_errSign.errs s_errLong s_errObject s_errConflict s_errUnknown (by decide) (by decide) (by decide) (by decide)
    · exact s_errSurrogate.errs s_errLong s_errObject s_errConflict s_errUnknown (by decide) (by decide) (by decide) (by decide)
    · exact s_errTwice.errs s_errLong s_errObject s_errConflict s_errUnknown (by decide) (by decide) (by decide) (by decide)
    · exact s_errUTF8.errs s_errLong s_errObject s_errConflict s_errUnknown (by decide) (by decide) (by decide) (by decide)
  · refine tabBelow_of_tabIs ?_
    obtain ⟨g, t, cs, fuel, p, k1, k2, k3, k4⟩ := hpow
    obtain rfl := Option.some.inj (powG.symm.trans k1)
    obtain rfl := Option.some.inj (powY.symm.trans k2)
    unfold TabIs
    rw [k3, ← cells_of_tab Tryz.underlying328 Tryz.underlying157 c8 c20 k4]
end Go.Proofs.YtocligpfmfmihabGreatDoor

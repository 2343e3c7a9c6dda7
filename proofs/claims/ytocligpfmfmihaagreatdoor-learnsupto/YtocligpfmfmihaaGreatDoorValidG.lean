import Derived.Shelf.Unicode.ValidAny
import Derived.Test.YtocligpfmfmihaaGreatDoorProg
import Derived.Test.YtocligpfmfmihaaGreatDoorRef27G
import Derived.Test.YtocligpfmfmihaaGreatDoorSgn4G
import Derived.Test.YtocligpfmfmihaaGreatDoorRows
import Derived.Test.YtocligpfmfmihaaGreatDoorCanG
import Derived.LaidSub
import Derived.LaidLaws
import Derived.Lib.LaidU8T
import Derived.Test.YtocligpfmfmihaaGreatDoorChn5G
import Derived.Test.YtocligpfmfmihaaGreatDoorPr11G
import Derived.Lay
import Derived.LaidHandle
import Derived.Stop.Joined
/-
 DERIVED: THE SHELF's CONTRACTS AT THIS DUMP, IN PLAIN WORDS (tools/lay-plain.mjs out of 'TryzValLay.lean', which tools/lay-shelf.mjs wrote): THE SAME DECLARATIONS UNDER THE SAME NAMES: 'import', 'namespace', 'open', 'def', 'theorem' AND NOTHING ELSE: no command of the shelf's: FOR A HAND-IN. Each laying: the table of numbers ('.._ren') and one theorem, a field a fact of the dump's own or the kernel's comparison; each contract: ONE APPLICATION.
-/
namespace Go.Proofs
open Go.Shelf
def Tryz.lays196_ren : Go.Shelf.Ren := ⟨fun | 196 => 44 | 259 => 77 | n => n, fun | 9 => 9 | 4 => 4 | 3 => 3 | 5 => 5 | 12 => 12 | 119 => 139 | 0 => 0 | 46 => 143 | 139 => 142 | 138 => 141 | 53 => 241 | n => n, fun | 3 => 4 | 4 => 5 | n => n⟩
theorem Tryz.lays196 : Go.Proofs.Lays.n196 Tryz.prog Tryz.lays196_ren := {
 mixed := by kernel_rfl
 f196 := Tryz.func44.trans (congrArg some (by kernel_rfl))
 f259 := Tryz.func77.trans (congrArg some (by kernel_rfl))
 t0 := Tryz.underlying0
 a0 := Tryz.isAgg0
 z0 := Tryz.sizeOf0
 v0 := Tryz.zeroValue0
 t3 := Tryz.underlying3
 a3 := Tryz.isAgg3
 z3 := Tryz.sizeOf3
 v3 := Tryz.zeroValue3
 t4 := Tryz.underlying4
 a4 := Tryz.isAgg4
 z4 := Tryz.sizeOf4
 v4 := Tryz.zeroValue4
 t5 := Tryz.underlying5
 a5 := Tryz.isAgg5
 z5 := Tryz.sizeOf5
 v5 := Tryz.zeroValue5
 t9 := Tryz.underlying9
 a9 := Tryz.isAgg9
 z9 := Tryz.sizeOf9
 v9 := Tryz.zeroValue9
 t12 := Tryz.underlying12
 a12 := Tryz.isAgg12
 z12 := Tryz.sizeOf12
 v12 := Tryz.zeroValue12
 t46 := Tryz.underlying143
 a46 := Tryz.isAgg143
 z46 := Tryz.sizeOf143
 v46 := Tryz.zeroValue143
 t53 := Tryz.underlying241
 a53 := Tryz.isAgg241
 z53 := Tryz.sizeOf241
 v53 := Tryz.zeroValue241
 t119 := Tryz.underlying139
 a119 := Tryz.isAgg139
 z119 := Tryz.sizeOf139
 t138 := Tryz.underlying141
 a138 := Tryz.isAgg141
 z138 := Tryz.sizeOf141
 v138 := Tryz.zeroValue141
 t139 := Tryz.underlying142
 a139 := Tryz.isAgg142
 z139 := Tryz.sizeOf142
 v139 := Tryz.zeroValue142
 g3 := by kernel_rfl
 g4 := by kernel_rfl }
open Go.RowKit Go.Lib in
theorem Tryz.utf8_ValidString (s : ByteArray) (w : World) (hs : s.size ≤ 9223372036854775807) (hT : Lib.Utf8Tabs 4 5 w) :
  Calls Tryz.prog 44 #[.string s] w fun e w' => e = .returned (.bool (Lib.validD s.data.toList)) ∧ Below w.heap.size w w' := Any.utf8_ValidString Tryz.lays196 s w hs hT
end Go.Proofs
namespace Go.Proofs.YtocligpfmfmihaaGreatDoor
open Go Go.RowKit Go.Maps
theorem kp_of_below {w w' : World} (h : Below w.heap.size w w') : Kp (fun _ => False) w w' := ⟨h.os, h.tape, h.output, h.size, fun k hk _ => h.block k hk⟩
set_option maxRecDepth 20000 in
theorem valid_c (W : World) (hG : GL W) (l : Bs) (hl : l.length ≤ 2000000) (w : World) (ho : Below W.heap.size W w) :
  Calls Tryz.prog 44 #[.string ⟨l.toArray⟩] w fun e w' => e = .returned (.bool (Lib.validD l)) ∧ Kp (fun _ => False) w w' := by
 refine (Tryz.utf8_ValidString ⟨l.toArray⟩ w (by rw [mk_size2]; omega) (hG.tabs' ho)).mono ?_
 rintro e w1 ⟨rfl, hb⟩
 exact ⟨rfl, kp_of_below hb⟩
set_option maxRecDepth 20000 in
set_option maxHeartbeats 2000000 in
theorem rsigned_c (W : World) (hG : GL W) (s : ByteArray) (sv id sig : Bs) (h1 : sv.length ≤ 2000000) (h2 : id.length ≤ 2000000) (h3 : sig.length ≤ 2000000) (w : World) (ho : Below W.heap.size W w) :
  Calls Tryz.prog 19 #[.string s, .string ⟨sv.toArray⟩, .string ⟨id.toArray⟩, .string ⟨sig.toArray⟩] w fun e w' => e = .returned (.tuple #[.string ⟨(signedF s.data.toList sv id sig).1.toArray⟩, .int .i64 ((signedF s.data.toList sv id sig).2 : Int)]) ∧ Kp (fun _ => False) w w' := by
 go_enter Tryz.func19, Tryz.ntmps19
 go_wp2_with fail
 refine (robject_c W hG s w ho).mono ?_
 rintro e w1 ⟨K1, ⟨n, hn, hof, rfl⟩ | ⟨o, b, hof, hle, rfl, hr⟩⟩
 ·have HC : Hid (signedF s.data.toList sv id sig = ([], n)) := by show _ = _; unfold signedF signedE; rw [hof]; rfl
  have hn' : ((n : Int) != 0) = true := by simp; omega
  clear hof
  go_wp2
  go_ret2
  exact ⟨by rw [HC.out]; rfl, K1⟩
 ·have hb1 := below_kp ho K1
  have P1 : PoL w1 (some ⟨b, 0, none⟩) o := Or.inr ⟨hle, b, rfl, hr.frame (fun _ _ => rfl) (fun c hc => hc.2)⟩
  have hsz : (cJ (.obj (signL o sv id sig))).length ≤ 1000000000 := by
   unfold objectF valueF at hof
   split at hof
   ·cases hof
   ·rename_i l hv
    cases hof
    split at hv
    ·cases hv
    ·rename_i hl
     cases hp : parse s.data.toList with
     | none => rw [hp] at hv; cases hv
     | some j =>
      rw [hp] at hv
      cases hv
      have := (sign_size hp (by omega) sv id sig h1 h2 h3).2
      omega
   ·cases hof
  have HOF := hide (And.intro hof hsz)
  clear hof hr hsz
  go_wp2_with fail
  refine (valid_c W hG sv h1 w1 hb1).mono ?_
  rintro e w2 ⟨rfl, K2⟩
  have hb2 := below_kp hb1 K2
  go_wp2_with fail
  refine (valid_c W hG id h2 w2 hb2).mono ?_
  rintro e w3 ⟨rfl, K3⟩
  have hb3 := below_kp hb2 K3
  go_wp2_with fail
  refine (valid_c W hG sig h3 w3 hb3).mono ?_
  rintro e w4 ⟨rfl, K4⟩
  have P4 := P1.kp ((K2.trans K3).trans K4)
  have K14 := ((K1.trans K2).trans K3).trans K4
  clear P1 hb1 hb2 hb3 K1 K2 K3 K4
  cases va : Lib.validD sv with
  | false =>
   have HC : Hid (signedF s.data.toList sv id sig = ([], 2)) := by show _ = _; unfold signedF signedE; rw [HOF.out.1]; simp [va, ansF]
   go_wp2
   go_ret2
   exact ⟨by rw [HC.out]; rfl, K14⟩
  | true =>
   cases vb : Lib.validD id with
   | false =>
    have HC : Hid (signedF s.data.toList sv id sig = ([], 2)) := by show _ = _; unfold signedF signedE; rw [HOF.out.1]; simp [va, vb, ansF]
    go_wp2
    go_ret2
    exact ⟨by rw [HC.out]; rfl, K14⟩
   | true =>
    cases vc : Lib.validD sig with
    | false =>
     have HC : Hid (signedF s.data.toList sv id sig = ([], 2)) := by show _ = _; unfold signedF signedE; rw [HOF.out.1]; simp [va, vb, vc, ansF]
     go_wp2
     go_ret2
     exact ⟨by rw [HC.out]; rfl, K14⟩
    | true =>
     have HC : Hid (signedF s.data.toList sv id sig = (cJ (.obj (signL o sv id sig)), 0)) := by show _ = _; unfold signedF signedE; rw [HOF.out.1]; simp [va, vb, vc, ansF]
     clear va vb vc
     go_wp2_with fail
     refine (getAny w4 _ o P4 kSig).mono ?_
     rintro e w5 ⟨pa, rfl, rfl, PA⟩
     go_wp2_with fail
     refine (getAny w5 _ _ PA sv).mono ?_
     rintro e w6 ⟨pm, rfl, rfl, PM⟩
     have K7 : Kp (fun _ => False) w6 (w6.alloc (.cells #[.int .u8 34, .int .i64 0, .string ⟨sig.toArray⟩, .slice none 0 0, .slice none 0 0] 80)) := (Kp.refl _ _).alloc _
     have T7 : RR (w6.alloc (.cells #[.int .u8 34, .int .i64 0, .string ⟨sig.toArray⟩, .slice none 0 0, .slice none 0 0] 80)) (fun c => c < (w6.alloc (.cells #[.int .u8 34, .int .i64 0, .string ⟨sig.toArray⟩, .slice none 0 0, .slice none 0 0] 80)).heap.size) (.str sig) w6.heap.size := .str sig (by simp) (heap_alloc_new w6 _)
     have PM7 := PM.kp K7
     have PA7 := PA.kp K7
     have P7 := P4.kp K7
     have hp := putAny _ pm _ PM7 id w6.heap.size (.str sig) T7
     have hs7 : (w6.alloc (.cells #[.int .u8 34, .int .i64 0, .string ⟨sig.toArray⟩, .slice none 0 0, .slice none 0 0] 80)).heap.size = w6.heap.size + 1 := by simp
     rw [hs7] at hp
     have HP := hide hp
     clear hp hs7
     clear PM PA P4 T7 PM7
     go_wp2_with fail
     refine HP.out.mono ?_
     rintro e w8 ⟨rfl, K8, T8⟩
     have PA8 := PA7.kp K8
     have P8 := P7.kp K8
     have HP2 := hide (putAny w8 pa _ PA8 sv _ _ T8)
     clear PA8 PA7 T8 HP
     go_wp2_with fail
     refine HP2.out.mono ?_
     rintro e w9 ⟨rfl, K9, T9⟩
     have P9 := P8.kp K9
     have HP3 := hide (putAny w9 _ _ P9 kSig _ _ T9)
     clear P9 P8 P7 T9 HP2
     go_wp2_with fail
     refine HP3.out.mono ?_
     rintro e wA ⟨rfl, KA, TA⟩
     have HT := hide (rtextJ TA HOF.out.2 wA (Kp.refl _ _))
     go_wp2_with fail
     refine HT.out.mono ?_
     rintro e wB ⟨rfl, KB⟩
     go_wp2
     go_ret2
     refine ⟨by rw [HC.out]; rfl, (((((K14.trans K7).trans K8).trans K9).trans KA).trans KB)⟩
end Go.Proofs.YtocligpfmfmihaaGreatDoor
namespace Go.Proofs.YtocligpfmfmihaaGreatDoor
open Go Go.RowKit Go.ChangeShapes
theorem lv_at {P : Program} {w : World} : ∀ {l : List (String × DataW Unit)} {ps : List MemPlace}, DataW.LaidVars P w l ps → ∀ n d, (n, d) ∈ l →
  ∃ g t cs fuel p, P.globalNamed n = some g ∧ (P.globals[g]?).map (·.type) = some t ∧ w.var? P n = some cs ∧ DataW.trod (fun _ => ()) P w 0 (fun _ => true) false fuel t cs.toList = some (d, p) ∧ ∀ x ∈ MemPlace.row ⟨g, 0, none⟩ cs.size ++ p, x ∈ ps
 | [], _, _, _, _, hm => by cases hm
 | (n', d') :: r, ps, h, n, d, hm => by
  obtain ⟨g, t, cs, fuel, p, q, h1, h2, h3, h4, h5, rfl⟩ := h
  rcases List.mem_cons.1 hm with e | e
  ·cases e
   exact ⟨g, t, cs, fuel, p, h1, h2, h3, h4, fun x hx => List.mem_append_left _ hx⟩
  ·obtain ⟨g', t', cs', fuel', p', k1, k2, k3, k4, k5⟩ := lv_at h5 n d e
   exact ⟨g', t', cs', fuel', p', k1, k2, k3, k4, fun x hx => List.mem_append_right _ (k5 x hx)⟩
def Sen (W : World) (g : Nat) (text : List UInt8) : Prop := ∃ (a : Addr) (s : ByteArray) (c : Array Value) (t : TypeId), W.cell? ⟨g, 0, none⟩ = some (errV a) ∧ W.cell? a = some (.string s) ∧ s.data.toList = text ∧ W.heap[a.block]? = some (.cells c t)
def txt : DataW Unit → List UInt8
 | .iface _ (.ptr (.agg [.lit (.string t)])) => t
 | _ => []
theorem star : "*" ++ "errors.errorString" = "*errors.errorString" := by decide
theorem rowE (u : TypeId) (h : Tryz.prog.typeName? 3 u = some "*errors.errorString") : u = 415 :=
 typeName_ptr_named (nm := "errors.errorString") (by rw [star]; kernel_rfl) (by kernel_rfl) (by decide) u (by rw [star]; exact h)
theorem cellsE : Tryz.prog.cellsOf 435 = 1 := by kernel_rfl
theorem cellsS : Tryz.prog.cellsOf 9 = 1 := by kernel_rfl
set_option maxRecDepth 20000 in
theorem sen_of {L : List (String × DataW Unit)} {W : World} {n : String} {d : DataW Unit} {g : Nat} (h : laidMet Tryz.prog L W) (hm : (n, d) ∈ L) (hd : d = .iface "*errors.errorString" (.ptr (.agg [.lit (.string (txt d))])))
  (hg : Tryz.prog.globalNamed n = some g) (ht : (Tryz.prog.globals[g]?).map (·.type) = some 61) : Sen W g (txt d) := by
 obtain ⟨ps, hv, hnd, hrows⟩ := h
 obtain ⟨g', t', cs, fuel, p, k1, k2, k3, k4, k5⟩ := lv_at hv n d hm
 obtain rfl := Option.some.inj (hg.symm.trans k1)
 obtain rfl := Option.some.inj (ht.symm.trans k2)
 obtain ⟨l0⟩ := cs
 have ok0 : ∀ u v, l0 = [.iface u v] → Value.okWide Tryz.prog W .any 0 u v := fun u v e => by
  subst e
  exact (hrows g 0 (k5 _ (by simp [MemPlace.row]))).2 u v ((World.var?_cell hg k3 0).trans rfl)
 rw [hd] at k4
 obtain ⟨a0, s0, rfl, hc0, hs0, hz0, rfl⟩ := errorString_of_trod Tryz.underlying61 rowE Tryz.underlying415 Tryz.underlying435 rfl rfl Tryz.underlying9 cellsE cellsS k4 ok0
 obtain ⟨c0, t0, hb0⟩ := (hrows a0.block a0.off (k5 _ (by simp [MemPlace.row]))).1
 exact ⟨a0, s0, c0, t0, (World.var?_cell hg k3 0).trans rfl, hc0, hs0, hb0⟩
theorem Sen.ne {W : World} {g g' : Nat} {x y : List UInt8} (h1 : Sen W g x) (h2 : Sen W g' y) (hxy : x ≠ y) (a : Addr) (h : W.cell? ⟨g, 0, none⟩ = some (errV a)) : W.cell? ⟨g', 0, none⟩ ≠ some (errV a) := by
 intro h'
 obtain ⟨a1, s1, _, _, e1, e2, e3, _⟩ := h1
 obtain ⟨a2, s2, _, _, f1, f2, f3, _⟩ := h2
 rw [h] at e1
 rw [h'] at f1
 simp only [errV, Option.some.injEq, Value.iface.injEq, Value.pointer.injEq, true_and] at e1 f1
 subst e1
 subst f1
 rw [e2] at f2
 injection f2 with f2
 injection f2 with f2
 subst f2
 exact hxy (e3.symm.trans f3)
theorem Sen.errs {W : World} {g : Nat} {x a b c d : List UInt8} (h : Sen W g x) (h1 : Sen W 0 a) (h2 : Sen W 1 b) (h3 : Sen W 2 c) (h4 : Sen W 3 d)
  (n1 : x ≠ a) (n2 : x ≠ b) (n3 : x ≠ c) (n4 : x ≠ d) : ∃ cb, Errs W g cb := by
 have h' := h
 obtain ⟨ad, s, cc, t, e1, e2, e3, e4⟩ := h
 refine ⟨ad, e1, lt_heap e4, ?_⟩
 intro k hk
 refine ⟨?_, cc, t, e4⟩
 simp only [List.mem_cons, List.not_mem_nil, or_false] at hk
 rcases hk with rfl | rfl | rfl | rfl
 ·exact h'.ne h1 n1 ad e1
 ·exact h'.ne h2 n2 ad e1
 ·exact h'.ne h3 n3 ad e1
 ·exact h'.ne h4 n4 ad e1
theorem Sen.three {W : World} {g : Nat} {x : List UInt8} (h : Sen W g x) : ∃ a c t, W.cell? ⟨g, 0, none⟩ = some (errV a) ∧ W.heap[a.block]? = some (.cells c t) := by
 obtain ⟨ad, s, cc, t, e1, e2, e3, e4⟩ := h
 exact ⟨ad, cc, t, e1, e4⟩
end Go.Proofs.YtocligpfmfmihaaGreatDoor
namespace Go.Proofs.YtocligpfmfmihaaGreatDoor
open Go Go.RowKit Go.ChangeShapes Go.Lib Go.Shelf
def u8R : Ren := ⟨fun x => x, fun | 5 => 5 | 119 => 139 | 138 => 141 | 139 => 142 | _ => 0, fun | 3 => 4 | 4 => 5 | _ => 0⟩
theorem u8T : U8Types Tryz.prog u8R := ⟨Tryz.underlying5, Tryz.underlying139, Tryz.underlying141, Tryz.underlying142⟩
theorem u8X : U8Extra Tryz.prog u8R := ⟨by kernel_rfl, by kernel_rfl, by kernel_rfl, by kernel_rfl, by kernel_rfl, by kernel_rfl, by kernel_rfl⟩
theorem firstD : Rows.laid_unicode_utf8_first = firstData := by kernel_rfl
theorem accD : (Rows.laid_unicode_utf8_acceptRanges : DataW Unit) = acceptData := by kernel_rfl
theorem powD : (Rows.laid_internal_strconv_uint64pow10 : DataW Unit) = tabData .u64 pow10Tab := by kernel_rfl
theorem rtT : (Tryz.prog.cutTypes.find? (·.1 == "internal/reflectlite.rtype")).map (·.2) = some 289 := by kernel_rfl
theorem oneRow : ((List.range 446).filter fun t => Tryz.prog.rowNamed t [101, 114, 114, 111, 114]) = [61] := by kernel_rfl
theorem typesN : Tryz.prog.types.size = 446 := by kernel_rfl
theorem etG : Tryz.prog.globalNamed "errors.errorType" = some 9 := by kernel_rfl
theorem powG : Tryz.prog.globalNamed "internal/strconv.uint64pow10" = some 28 := by kernel_rfl
theorem powY : (Tryz.prog.globals[28]?).map (·.type) = some 393 := by kernel_rfl
theorem c8 : Tryz.prog.cellsOf 241 = 1 := by kernel_rfl
theorem c20 : Tryz.prog.cellsOf 393 = 20 := by kernel_rfl
theorem lastG : Tryz.prog.globalNamed "math/bits.deBruijn64tab" = some 30 := by kernel_rfl
theorem gn_errUTF8 : Tryz.prog.globalNamed "notary/value.errUTF8" = some 10 ∧ (Tryz.prog.globals[10]?).map (·.type) = some 61 := ⟨by kernel_rfl, by kernel_rfl⟩
theorem gn_errEnd : Tryz.prog.globalNamed "notary/value.errEnd" = some 24 ∧ (Tryz.prog.globals[24]?).map (·.type) = some 61 := ⟨by kernel_rfl, by kernel_rfl⟩
theorem gn_errRest : Tryz.prog.globalNamed "notary/value.errRest" = some 8 ∧ (Tryz.prog.globals[8]?).map (·.type) = some 61 := ⟨by kernel_rfl, by kernel_rfl⟩
theorem gn_errSign : Tryz.prog.globalNamed "notary/value.errSign" = some 19 ∧ (Tryz.prog.globals[19]?).map (·.type) = some 61 := ⟨by kernel_rfl, by kernel_rfl⟩
theorem gn_errDeep : Tryz.prog.globalNamed "notary/value.errDeep" = some 23 ∧ (Tryz.prog.globals[23]?).map (·.type) = some 61 := ⟨by kernel_rfl, by kernel_rfl⟩
theorem gn_errNumber : Tryz.prog.globalNamed "notary/value.errNumber" = some 22 ∧ (Tryz.prog.globals[22]?).map (·.type) = some 61 := ⟨by kernel_rfl, by kernel_rfl⟩
theorem gn_errGreat : Tryz.prog.globalNamed "notary/value.errGreat" = some 21 ∧ (Tryz.prog.globals[21]?).map (·.type) = some 61 := ⟨by kernel_rfl, by kernel_rfl⟩
theorem gn_errControl : Tryz.prog.globalNamed "notary/value.errControl" = some 20 ∧ (Tryz.prog.globals[20]?).map (·.type) = some 61 := ⟨by kernel_rfl, by kernel_rfl⟩
theorem gn_errEscape : Tryz.prog.globalNamed "notary/value.errEscape" = some 25 ∧ (Tryz.prog.globals[25]?).map (·.type) = some 61 := ⟨by kernel_rfl, by kernel_rfl⟩
theorem gn_errSurrogate : Tryz.prog.globalNamed "notary/value.errSurrogate" = some 27 ∧ (Tryz.prog.globals[27]?).map (·.type) = some 61 := ⟨by kernel_rfl, by kernel_rfl⟩
theorem gn_errTwice : Tryz.prog.globalNamed "notary/value.errTwice" = some 18 ∧ (Tryz.prog.globals[18]?).map (·.type) = some 61 := ⟨by kernel_rfl, by kernel_rfl⟩
theorem gn_errInside : Tryz.prog.globalNamed "notary/value.errInside" = some 12 ∧ (Tryz.prog.globals[12]?).map (·.type) = some 61 := ⟨by kernel_rfl, by kernel_rfl⟩
theorem gn_errLong : Tryz.prog.globalNamed "notary/notary.errLong" = some 0 ∧ (Tryz.prog.globals[0]?).map (·.type) = some 61 := ⟨by kernel_rfl, by kernel_rfl⟩
theorem gn_errObject : Tryz.prog.globalNamed "notary/notary.errObject" = some 1 ∧ (Tryz.prog.globals[1]?).map (·.type) = some 61 := ⟨by kernel_rfl, by kernel_rfl⟩
theorem gn_errConflict : Tryz.prog.globalNamed "notary/notary.errConflict" = some 2 ∧ (Tryz.prog.globals[2]?).map (·.type) = some 61 := ⟨by kernel_rfl, by kernel_rfl⟩
theorem gn_errUnknown : Tryz.prog.globalNamed "notary/notary.errUnknown" = some 3 ∧ (Tryz.prog.globals[3]?).map (·.type) = some 61 := ⟨by kernel_rfl, by kernel_rfl⟩
theorem ng_of {L : List (String × DataW Unit)} {W : World} (h : laidMetH Tryz.prog L W) (hm : ∀ x ∈ Rows.orderedRow.laid, x ∈ L) : NG W := by
 obtain ⟨h1, h2⟩ := laidMetH_iff.1 h
 have m : ∀ (i : Nat) (x : String × DataW Unit), Rows.orderedRow.laid[i]? = some x → x.2.handleName?.isNone = true → x ∈ L.filter fun x => x.2.handleName?.isNone :=
  fun i x hi hx => List.mem_filter.2 ⟨hm x (List.mem_of_getElem? hi), hx⟩
 have s_errUTF8 : Sen W 10 (txt Rows.laid_notary_value_errUTF8) := sen_of h1 (m 5 ("notary/value.errUTF8", Rows.laid_notary_value_errUTF8) rfl rfl) rfl gn_errUTF8.1 gn_errUTF8.2
 have s_errEnd : Sen W 24 (txt Rows.laid_notary_value_errEnd) := sen_of h1 (m 6 ("notary/value.errEnd", Rows.laid_notary_value_errEnd) rfl rfl) rfl gn_errEnd.1 gn_errEnd.2
 have s_errRest : Sen W 8 (txt Rows.laid_notary_value_errRest) := sen_of h1 (m 7 ("notary/value.errRest", Rows.laid_notary_value_errRest) rfl rfl) rfl gn_errRest.1 gn_errRest.2
 have s_errSign : Sen W 19 (txt Rows.laid_notary_value_errSign) := sen_of h1 (m 8 ("notary/value.errSign", Rows.laid_notary_value_errSign) rfl rfl) rfl gn_errSign.1 gn_errSign.2
 have s_errDeep : Sen W 23 (txt Rows.laid_notary_value_errDeep) := sen_of h1 (m 9 ("notary/value.errDeep", Rows.laid_notary_value_errDeep) rfl rfl) rfl gn_errDeep.1 gn_errDeep.2
 have s_errNumber : Sen W 22 (txt Rows.laid_notary_value_errNumber) := sen_of h1 (m 10 ("notary/value.errNumber", Rows.laid_notary_value_errNumber) rfl rfl) rfl gn_errNumber.1 gn_errNumber.2
 have s_errGreat : Sen W 21 (txt Rows.laid_notary_value_errGreat) := sen_of h1 (m 11 ("notary/value.errGreat", Rows.laid_notary_value_errGreat) rfl rfl) rfl gn_errGreat.1 gn_errGreat.2
 have s_errControl : Sen W 20 (txt Rows.laid_notary_value_errControl) := sen_of h1 (m 12 ("notary/value.errControl", Rows.laid_notary_value_errControl) rfl rfl) rfl gn_errControl.1 gn_errControl.2
 have s_errEscape : Sen W 25 (txt Rows.laid_notary_value_errEscape) := sen_of h1 (m 13 ("notary/value.errEscape", Rows.laid_notary_value_errEscape) rfl rfl) rfl gn_errEscape.1 gn_errEscape.2
 have s_errSurrogate : Sen W 27 (txt Rows.laid_notary_value_errSurrogate) := sen_of h1 (m 14 ("notary/value.errSurrogate", Rows.laid_notary_value_errSurrogate) rfl rfl) rfl gn_errSurrogate.1 gn_errSurrogate.2
 have s_errTwice : Sen W 18 (txt Rows.laid_notary_value_errTwice) := sen_of h1 (m 15 ("notary/value.errTwice", Rows.laid_notary_value_errTwice) rfl rfl) rfl gn_errTwice.1 gn_errTwice.2
 have s_errInside : Sen W 12 (txt Rows.laid_notary_value_errInside) := sen_of h1 (m 16 ("notary/value.errInside", Rows.laid_notary_value_errInside) rfl rfl) rfl gn_errInside.1 gn_errInside.2
 have s_errLong : Sen W 0 (txt Rows.laid_notary_notary_errLong) := sen_of h1 (m 17 ("notary/notary.errLong", Rows.laid_notary_notary_errLong) rfl rfl) rfl gn_errLong.1 gn_errLong.2
 have s_errObject : Sen W 1 (txt Rows.laid_notary_notary_errObject) := sen_of h1 (m 18 ("notary/notary.errObject", Rows.laid_notary_notary_errObject) rfl rfl) rfl gn_errObject.1 gn_errObject.2
 have s_errConflict : Sen W 2 (txt Rows.laid_notary_notary_errConflict) := sen_of h1 (m 19 ("notary/notary.errConflict", Rows.laid_notary_notary_errConflict) rfl rfl) rfl gn_errConflict.1 gn_errConflict.2
 have s_errUnknown : Sen W 3 (txt Rows.laid_notary_notary_errUnknown) := sen_of h1 (m 20 ("notary/notary.errUnknown", Rows.laid_notary_notary_errUnknown) rfl rfl) rfl gn_errUnknown.1 gn_errUnknown.2
 have hfirst := laidMet.reads h1 (m 21 ("unicode/utf8.first", Rows.laid_unicode_utf8_first) rfl (by kernel_rfl))
 have hacc := laidMet.reads h1 (m 3 ("unicode/utf8.acceptRanges", Rows.laid_unicode_utf8_acceptRanges) rfl rfl)
 have hpow := laidMet.reads h1 (m 2 ("internal/strconv.uint64pow10", Rows.laid_internal_strconv_uint64pow10) rfl rfl)
 have hlast := laidMet.reads h1 (m 1 ("math/bits.deBruijn64tab", Rows.laid_math_bits_deBruijn64tab) rfl rfl)
 rw [firstD] at hfirst
 rw [accD] at hacc
 rw [powD] at hpow
 have hsz : 31 ≤ W.heap.size := by
  obtain ⟨g, t, cs, fuel, p, k1, k2, k3, k4⟩ := hlast
  have hg := Option.some.inj (lastG.symm.trans k1)
  unfold World.var? at k3
  rw [k1] at k3
  subst hg
  simp only [Option.bind_some] at k3
  rcases Nat.lt_or_ge 30 W.heap.size with h | h
  ·exact h
  ·rw [Array.getElem?_eq_none h] at k3
   cases k3
 have hty : W.cell? ⟨9, 0, none⟩ = some (.iface 289 ((Value.agg #[Value.pointer (some (Addr.mk 31 61 none))]))) := by
  have hx := h2 ("errors.errorType", Rows.laid_errors_errorType) (List.mem_filter.2 ⟨hm _ (List.mem_of_getElem? (i := 4) rfl), rfl⟩)
  obtain ⟨name, u, ty, e1, e2, e3, e4, e5⟩ := hx
  have en : name = [101, 114, 114, 111, 114] := (Option.some.inj e1).symm
  subst en
  obtain rfl := Option.some.inj (rtT.symm.trans e2)
  have hmm : ty ∈ (List.range 446).filter fun t => Tryz.prog.rowNamed t [101, 114, 114, 111, 114] := List.mem_filter.2 ⟨List.mem_range.2 (by rw [← typesN]; exact e3), e4⟩
  rw [oneRow] at hmm
  obtain rfl := List.mem_singleton.1 hmm
  have hh : typeHandle Tryz.prog 61 = .pointer (some ⟨31, 61, none⟩) := by kernel_rfl
  rw [hh] at e5
  simpa using World.var?_cell etG e5 0
 refine ⟨⟨⟨hsz, ?_⟩, utf8Tabs_of_readsT u8T u8X hfirst hacc, ?_⟩, hty, s_errLong.three, s_errObject.three, fun a => s_errLong.ne s_errObject (by decide) a⟩
 ·intro g hg
  simp only [List.mem_cons, List.not_mem_nil, or_false] at hg
  rcases hg with rfl | rfl | rfl | rfl | rfl | rfl | rfl | rfl | rfl | rfl | rfl | rfl
  ·exact s_errControl.errs s_errLong s_errObject s_errConflict s_errUnknown (by decide) (by decide) (by decide) (by decide)
  ·exact s_errDeep.errs s_errLong s_errObject s_errConflict s_errUnknown (by decide) (by decide) (by decide) (by decide)
  ·exact s_errEnd.errs s_errLong s_errObject s_errConflict s_errUnknown (by decide) (by decide) (by decide) (by decide)
  ·exact s_errEscape.errs s_errLong s_errObject s_errConflict s_errUnknown (by decide) (by decide) (by decide) (by decide)
  ·exact s_errGreat.errs s_errLong s_errObject s_errConflict s_errUnknown (by decide) (by decide) (by decide) (by decide)
  ·exact s_errInside.errs s_errLong s_errObject s_errConflict s_errUnknown (by decide) (by decide) (by decide) (by decide)
  ·exact s_errNumber.errs s_errLong s_errObject s_errConflict s_errUnknown (by decide) (by decide) (by decide) (by decide)
  ·exact s_errRest.errs s_errLong s_errObject s_errConflict s_errUnknown (by decide) (by decide) (by decide) (by decide)
  ·exact s_errSign.errs s_errLong s_errObject s_errConflict s_errUnknown (by decide) (by decide) (by decide) (by decide)
  ·exact s_errSurrogate.errs s_errLong s_errObject s_errConflict s_errUnknown (by decide) (by decide) (by decide) (by decide)
  ·exact s_errTwice.errs s_errLong s_errObject s_errConflict s_errUnknown (by decide) (by decide) (by decide) (by decide)
  ·exact s_errUTF8.errs s_errLong s_errObject s_errConflict s_errUnknown (by decide) (by decide) (by decide) (by decide)
 ·refine tabBelow_of_tabIs ?_
  obtain ⟨g, t, cs, fuel, p, k1, k2, k3, k4⟩ := hpow
  obtain rfl := Option.some.inj (powG.symm.trans k1)
  obtain rfl := Option.some.inj (powY.symm.trans k2)
  unfold TabIs
  rw [k3, ← cells_of_tab Tryz.underlying393 Tryz.underlying241 c8 c20 k4]
end Go.Proofs.YtocligpfmfmihaaGreatDoor
namespace Go.Proofs.YtocligpfmfmihaaGreatDoor
open Go Go.RowKit Go.ChangeShapes Go.Lib Go.Shelf
theorem gn_errKind : Tryz.prog.globalNamed "notary/notary.errKind" = some 14 ∧ (Tryz.prog.globals[14]?).map (·.type) = some 61 := ⟨by kernel_rfl, by kernel_rfl⟩
theorem gn_errName : Tryz.prog.globalNamed "notary/notary.errName" = some 13 ∧ (Tryz.prog.globals[13]?).map (·.type) = some 61 := ⟨by kernel_rfl, by kernel_rfl⟩
theorem gn_errBelow : Tryz.prog.globalNamed "notary/notary.errBelow" = some 15 ∧ (Tryz.prog.globals[15]?).map (·.type) = some 61 := ⟨by kernel_rfl, by kernel_rfl⟩
theorem gn_errCount : Tryz.prog.globalNamed "notary/notary.errCount" = some 16 ∧ (Tryz.prog.globals[16]?).map (·.type) = some 61 := ⟨by kernel_rfl, by kernel_rfl⟩
theorem gn_errBoth : Tryz.prog.globalNamed "notary/notary.errBoth" = some 17 ∧ (Tryz.prog.globals[17]?).map (·.type) = some 61 := ⟨by kernel_rfl, by kernel_rfl⟩
theorem gn_errSignature : Tryz.prog.globalNamed "notary/notary.errSignature" = some 7 ∧ (Tryz.prog.globals[7]?).map (·.type) = some 61 := ⟨by kernel_rfl, by kernel_rfl⟩
theorem sub_reads : ∀ x ∈ Rows.orderedRow.laid, x ∈ Rows.readsRow.laid := by
 intro x hx
 rcases List.mem_iff_getElem?.1 hx with ⟨i, hi⟩
 match i, hi with
 | 0, hi => exact (Option.some.inj hi) ▸ List.mem_of_getElem? (i := 0) rfl
 | 1, hi => exact (Option.some.inj hi) ▸ List.mem_of_getElem? (i := 1) rfl
 | 2, hi => exact (Option.some.inj hi) ▸ List.mem_of_getElem? (i := 2) rfl
 | 3, hi => exact (Option.some.inj hi) ▸ List.mem_of_getElem? (i := 3) rfl
 | 4, hi => exact (Option.some.inj hi) ▸ List.mem_of_getElem? (i := 4) rfl
 | 5, hi => exact (Option.some.inj hi) ▸ List.mem_of_getElem? (i := 5) rfl
 | 6, hi => exact (Option.some.inj hi) ▸ List.mem_of_getElem? (i := 6) rfl
 | 7, hi => exact (Option.some.inj hi) ▸ List.mem_of_getElem? (i := 7) rfl
 | 8, hi => exact (Option.some.inj hi) ▸ List.mem_of_getElem? (i := 8) rfl
 | 9, hi => exact (Option.some.inj hi) ▸ List.mem_of_getElem? (i := 9) rfl
 | 10, hi => exact (Option.some.inj hi) ▸ List.mem_of_getElem? (i := 10) rfl
 | 11, hi => exact (Option.some.inj hi) ▸ List.mem_of_getElem? (i := 11) rfl
 | 12, hi => exact (Option.some.inj hi) ▸ List.mem_of_getElem? (i := 12) rfl
 | 13, hi => exact (Option.some.inj hi) ▸ List.mem_of_getElem? (i := 13) rfl
 | 14, hi => exact (Option.some.inj hi) ▸ List.mem_of_getElem? (i := 14) rfl
 | 15, hi => exact (Option.some.inj hi) ▸ List.mem_of_getElem? (i := 15) rfl
 | 16, hi => exact (Option.some.inj hi) ▸ List.mem_of_getElem? (i := 16) rfl
 | 17, hi => exact (Option.some.inj hi) ▸ List.mem_of_getElem? (i := 17) rfl
 | 18, hi => exact (Option.some.inj hi) ▸ List.mem_of_getElem? (i := 18) rfl
 | 19, hi => exact (Option.some.inj hi) ▸ List.mem_of_getElem? (i := 20) rfl
 | 20, hi => exact (Option.some.inj hi) ▸ List.mem_of_getElem? (i := 21) rfl
 | 21, hi => exact (Option.some.inj hi) ▸ List.mem_of_getElem? (i := 27) rfl
 | n + 22, hi => cases hi
theorem Sen.plain {W : World} {g : Nat} {x a b c d : List UInt8} (h : Sen W g x) (h1 : Sen W 0 a) (h2 : Sen W 1 b) (h3 : Sen W 2 c) (h4 : Sen W 3 d)
  (n1 : x ≠ a) (n2 : x ≠ b) (n3 : x ≠ c) (n4 : x ≠ d) : ∃ q, W.cell? ⟨g, 0, none⟩ = some (errV q) ∧ Plain W q := by
 have h' := h
 obtain ⟨ad, s, cc, t, e1, e2, e3, e4⟩ := h
 refine ⟨ad, e1, ⟨cc, t, e4⟩, ?_⟩
 intro k hk
 simp only [four, List.mem_cons, List.not_mem_nil, or_false] at hk
 rcases hk with rfl | rfl | rfl | rfl
 ·exact h'.ne h1 n1 ad e1
 ·exact h'.ne h2 n2 ad e1
 ·exact h'.ne h3 n3 ad e1
 ·exact h'.ne h4 n4 ad e1
theorem ng2_of {L : List (String × DataW Unit)} {W : World} (h : laidMetH Tryz.prog L W) (hm : ∀ x ∈ Rows.readsRow.laid, x ∈ L) : NG2 W := by
 obtain ⟨h1, h2⟩ := laidMetH_iff.1 h
 have m : ∀ (i : Nat) (x : String × DataW Unit), Rows.readsRow.laid[i]? = some x → x.2.handleName?.isNone = true → x ∈ L.filter fun x => x.2.handleName?.isNone :=
  fun i x hi hx => List.mem_filter.2 ⟨hm x (List.mem_of_getElem? hi), hx⟩
 have s_errLong : Sen W 0 (txt Rows.laid_notary_notary_errLong) := sen_of h1 (m 17 ("notary/notary.errLong", Rows.laid_notary_notary_errLong) rfl rfl) rfl gn_errLong.1 gn_errLong.2
 have s_errObject : Sen W 1 (txt Rows.laid_notary_notary_errObject) := sen_of h1 (m 18 ("notary/notary.errObject", Rows.laid_notary_notary_errObject) rfl rfl) rfl gn_errObject.1 gn_errObject.2
 have s_errConflict : Sen W 2 (txt Rows.laid_notary_notary_errConflict) := sen_of h1 (m 20 ("notary/notary.errConflict", Rows.laid_notary_notary_errConflict) rfl rfl) rfl gn_errConflict.1 gn_errConflict.2
 have s_errUnknown : Sen W 3 (txt Rows.laid_notary_notary_errUnknown) := sen_of h1 (m 21 ("notary/notary.errUnknown", Rows.laid_notary_notary_errUnknown) rfl rfl) rfl gn_errUnknown.1 gn_errUnknown.2
 have s_errKind : Sen W 14 (txt Rows.laid_notary_notary_errKind) := sen_of h1 (m 22 ("notary/notary.errKind", Rows.laid_notary_notary_errKind) rfl rfl) rfl gn_errKind.1 gn_errKind.2
 have s_errName : Sen W 13 (txt Rows.laid_notary_notary_errName) := sen_of h1 (m 23 ("notary/notary.errName", Rows.laid_notary_notary_errName) rfl rfl) rfl gn_errName.1 gn_errName.2
 have s_errBelow : Sen W 15 (txt Rows.laid_notary_notary_errBelow) := sen_of h1 (m 24 ("notary/notary.errBelow", Rows.laid_notary_notary_errBelow) rfl rfl) rfl gn_errBelow.1 gn_errBelow.2
 have s_errCount : Sen W 16 (txt Rows.laid_notary_notary_errCount) := sen_of h1 (m 25 ("notary/notary.errCount", Rows.laid_notary_notary_errCount) rfl rfl) rfl gn_errCount.1 gn_errCount.2
 have s_errBoth : Sen W 17 (txt Rows.laid_notary_notary_errBoth) := sen_of h1 (m 26 ("notary/notary.errBoth", Rows.laid_notary_notary_errBoth) rfl rfl) rfl gn_errBoth.1 gn_errBoth.2
 have s_errSignature : Sen W 7 (txt Rows.laid_notary_notary_errSignature) := sen_of h1 (m 19 ("notary/notary.errSignature", Rows.laid_notary_notary_errSignature) rfl rfl) rfl gn_errSignature.1 gn_errSignature.2
 refine ⟨ng_of h (fun x hx => hm x (sub_reads x hx)), ?_, ?_⟩
 ·intro g hg
  simp only [four, List.mem_cons, List.not_mem_nil, or_false] at hg
  rcases hg with rfl | rfl | rfl | rfl
  ·exact s_errLong.three
  ·exact s_errObject.three
  ·exact s_errConflict.three
  ·exact s_errUnknown.three
 ·intro g hg
  simp only [List.mem_cons, List.not_mem_nil, or_false] at hg
  rcases hg with rfl | rfl | rfl | rfl | rfl | rfl
  ·exact s_errKind.plain s_errLong s_errObject s_errConflict s_errUnknown (by decide) (by decide) (by decide) (by decide)
  ·exact s_errName.plain s_errLong s_errObject s_errConflict s_errUnknown (by decide) (by decide) (by decide) (by decide)
  ·exact s_errBelow.plain s_errLong s_errObject s_errConflict s_errUnknown (by decide) (by decide) (by decide) (by decide)
  ·exact s_errCount.plain s_errLong s_errObject s_errConflict s_errUnknown (by decide) (by decide) (by decide) (by decide)
  ·exact s_errBoth.plain s_errLong s_errObject s_errConflict s_errUnknown (by decide) (by decide) (by decide) (by decide)
  ·exact s_errSignature.plain s_errLong s_errObject s_errConflict s_errUnknown (by decide) (by decide) (by decide) (by decide)
end Go.Proofs.YtocligpfmfmihaaGreatDoor
namespace Go.Proofs.YtocligpfmfmihaaGreatDoor
open Go Go.RowKit Go.ChangeShapes Go.Lib Go.Shelf
theorem gn_errOther : Tryz.prog.globalNamed "notary/notary.errOther" = some 11 ∧ (Tryz.prog.globals[11]?).map (·.type) = some 61 := ⟨by kernel_rfl, by kernel_rfl⟩
theorem gn_errFails : Tryz.prog.globalNamed "notary/notary.errFails" = some 6 ∧ (Tryz.prog.globals[6]?).map (·.type) = some 61 := ⟨by kernel_rfl, by kernel_rfl⟩
theorem sub_learns : ∀ x ∈ Rows.readsRow.laid, x ∈ Rows.learnsUptoRow.laid := by
 intro x hx
 rcases List.mem_iff_getElem?.1 hx with ⟨i, hi⟩
 match i, hi with
 | 0, hi => exact (Option.some.inj hi) ▸ List.mem_of_getElem? (i := 0) rfl
 | 1, hi => exact (Option.some.inj hi) ▸ List.mem_of_getElem? (i := 1) rfl
 | 2, hi => exact (Option.some.inj hi) ▸ List.mem_of_getElem? (i := 2) rfl
 | 3, hi => exact (Option.some.inj hi) ▸ List.mem_of_getElem? (i := 3) rfl
 | 4, hi => exact (Option.some.inj hi) ▸ List.mem_of_getElem? (i := 4) rfl
 | 5, hi => exact (Option.some.inj hi) ▸ List.mem_of_getElem? (i := 5) rfl
 | 6, hi => exact (Option.some.inj hi) ▸ List.mem_of_getElem? (i := 6) rfl
 | 7, hi => exact (Option.some.inj hi) ▸ List.mem_of_getElem? (i := 7) rfl
 | 8, hi => exact (Option.some.inj hi) ▸ List.mem_of_getElem? (i := 8) rfl
 | 9, hi => exact (Option.some.inj hi) ▸ List.mem_of_getElem? (i := 9) rfl
 | 10, hi => exact (Option.some.inj hi) ▸ List.mem_of_getElem? (i := 10) rfl
 | 11, hi => exact (Option.some.inj hi) ▸ List.mem_of_getElem? (i := 11) rfl
 | 12, hi => exact (Option.some.inj hi) ▸ List.mem_of_getElem? (i := 12) rfl
 | 13, hi => exact (Option.some.inj hi) ▸ List.mem_of_getElem? (i := 13) rfl
 | 14, hi => exact (Option.some.inj hi) ▸ List.mem_of_getElem? (i := 14) rfl
 | 15, hi => exact (Option.some.inj hi) ▸ List.mem_of_getElem? (i := 15) rfl
 | 16, hi => exact (Option.some.inj hi) ▸ List.mem_of_getElem? (i := 16) rfl
 | 17, hi => exact (Option.some.inj hi) ▸ List.mem_of_getElem? (i := 17) rfl
 | 18, hi => exact (Option.some.inj hi) ▸ List.mem_of_getElem? (i := 18) rfl
 | 19, hi => exact (Option.some.inj hi) ▸ List.mem_of_getElem? (i := 19) rfl
 | 20, hi => exact (Option.some.inj hi) ▸ List.mem_of_getElem? (i := 20) rfl
 | 21, hi => exact (Option.some.inj hi) ▸ List.mem_of_getElem? (i := 21) rfl
 | 22, hi => exact (Option.some.inj hi) ▸ List.mem_of_getElem? (i := 22) rfl
 | 23, hi => exact (Option.some.inj hi) ▸ List.mem_of_getElem? (i := 23) rfl
 | 24, hi => exact (Option.some.inj hi) ▸ List.mem_of_getElem? (i := 24) rfl
 | 25, hi => exact (Option.some.inj hi) ▸ List.mem_of_getElem? (i := 25) rfl
 | 26, hi => exact (Option.some.inj hi) ▸ List.mem_of_getElem? (i := 26) rfl
 | 27, hi => exact (Option.some.inj hi) ▸ List.mem_of_getElem? (i := 29) rfl
 | n + 28, hi => cases hi
theorem ng3_of {L : List (String × DataW Unit)} {W : World} (h : laidMetH Tryz.prog L W) (hm : ∀ x ∈ Rows.learnsUptoRow.laid, x ∈ L) : NG3 W := by
 obtain ⟨h1, h2⟩ := laidMetH_iff.1 h
 have m : ∀ (i : Nat) (x : String × DataW Unit), Rows.learnsUptoRow.laid[i]? = some x → x.2.handleName?.isNone = true → x ∈ L.filter fun x => x.2.handleName?.isNone :=
  fun i x hi hx => List.mem_filter.2 ⟨hm x (List.mem_of_getElem? hi), hx⟩
 have s_errLong : Sen W 0 (txt Rows.laid_notary_notary_errLong) := sen_of h1 (m 17 ("notary/notary.errLong", Rows.laid_notary_notary_errLong) rfl rfl) rfl gn_errLong.1 gn_errLong.2
 have s_errObject : Sen W 1 (txt Rows.laid_notary_notary_errObject) := sen_of h1 (m 18 ("notary/notary.errObject", Rows.laid_notary_notary_errObject) rfl rfl) rfl gn_errObject.1 gn_errObject.2
 have s_errConflict : Sen W 2 (txt Rows.laid_notary_notary_errConflict) := sen_of h1 (m 20 ("notary/notary.errConflict", Rows.laid_notary_notary_errConflict) rfl rfl) rfl gn_errConflict.1 gn_errConflict.2
 have s_errUnknown : Sen W 3 (txt Rows.laid_notary_notary_errUnknown) := sen_of h1 (m 21 ("notary/notary.errUnknown", Rows.laid_notary_notary_errUnknown) rfl rfl) rfl gn_errUnknown.1 gn_errUnknown.2
 have s_errOther : Sen W 11 (txt Rows.laid_notary_notary_errOther) := sen_of h1 (m 27 ("notary/notary.errOther", Rows.laid_notary_notary_errOther) rfl rfl) rfl gn_errOther.1 gn_errOther.2
 have s_errFails : Sen W 6 (txt Rows.laid_notary_notary_errFails) := sen_of h1 (m 28 ("notary/notary.errFails", Rows.laid_notary_notary_errFails) rfl rfl) rfl gn_errFails.1 gn_errFails.2
 refine ⟨ng2_of h (fun x hx => hm x (sub_learns x hx)), ?_, ?_⟩
 ·intro g hg g' hg' hne a ha
  simp only [four, List.mem_cons, List.not_mem_nil, or_false] at hg hg'
  rcases hg with rfl | rfl | rfl | rfl <;> rcases hg' with rfl | rfl | rfl | rfl
  ·exact absurd rfl hne
  ·exact s_errLong.ne s_errObject (by decide) a ha
  ·exact s_errLong.ne s_errConflict (by decide) a ha
  ·exact s_errLong.ne s_errUnknown (by decide) a ha
  ·exact s_errObject.ne s_errLong (by decide) a ha
  ·exact absurd rfl hne
  ·exact s_errObject.ne s_errConflict (by decide) a ha
  ·exact s_errObject.ne s_errUnknown (by decide) a ha
  ·exact s_errConflict.ne s_errLong (by decide) a ha
  ·exact s_errConflict.ne s_errObject (by decide) a ha
  ·exact absurd rfl hne
  ·exact s_errConflict.ne s_errUnknown (by decide) a ha
  ·exact s_errUnknown.ne s_errLong (by decide) a ha
  ·exact s_errUnknown.ne s_errObject (by decide) a ha
  ·exact s_errUnknown.ne s_errConflict (by decide) a ha
  ·exact absurd rfl hne
 ·intro g hg
  simp only [List.mem_cons, List.not_mem_nil, or_false] at hg
  rcases hg with rfl | rfl
  ·exact s_errOther.plain s_errLong s_errObject s_errConflict s_errUnknown (by decide) (by decide) (by decide) (by decide)
  ·exact s_errFails.plain s_errLong s_errObject s_errConflict s_errUnknown (by decide) (by decide) (by decide) (by decide)
end Go.Proofs.YtocligpfmfmihaaGreatDoor
namespace Go.Proofs.YtocligpfmfmihaaGreatDoor.wl
open Go
noncomputable def plainL : List (String × DataW Unit) := Rows.learnsUptoRow.laid.filter fun x => x.2.handleName?.isNone
noncomputable def hWorld (os : Os) : World :=
 let w0 := World.holding Tryz.prog os ⟨#[], #[], []⟩
 { w0 with heap := w0.heap.modify 9 fun
   | .cells _ t frozen => .cells #[.iface 289 ((Value.agg #[Value.pointer (some (Addr.mk 31 61 none))]))] t frozen
   | o => o }
noncomputable def lWorld (os : Os) : World := (hWorld os).layVars Tryz.prog plainL
theorem lWorld_os (os : Os) : (lWorld os).os = os := World.layVars_os _ _ _
theorem wit_fits (os : Os) : (hWorld os).layFits Tryz.prog plainL [] = true := by kernel_rfl
theorem wit_ifaces (os : Os) : (hWorld os).layIfaces Tryz.prog plainL (lWorld os) = true := by kernel_rfl
theorem wit_handle (os : Os) : ((Rows.learnsUptoRow.laid.filter fun x => x.2.handleName?.isSome).all (handleAtB Tryz.prog (lWorld os))) = true := by kernel_rfl
theorem wit_laid (os : Os) : laidMetH Tryz.prog Rows.learnsUptoRow.laid (lWorld os) := by
 refine laidMetH_of_parts ?_ (wit_handle os)
 show laidMet Tryz.prog plainL (lWorld os)
 have e1 : (plainL.filter fun x => (plainL.map (·.1)).contains x.1) = plainL := List.filter_eq_self.2 fun x hx => List.contains_iff_mem.2 (List.mem_map.2 ⟨x, hx, rfl⟩)
 have e2 : (plainL.filter fun x => !(plainL.map (·.1)).contains x.1) = [] := List.filter_eq_nil_iff.2 fun x hx => by rw [List.contains_iff_mem.2 (List.mem_map.2 ⟨x, hx, rfl⟩)]; simp
 exact laidMet_layVars (w0 := hWorld os) (plainL.map (·.1)) [] (by rw [e1]; rfl) (by rw [e1]; exact wit_fits os) (by rw [e1]; exact wit_ifaces os) (by rw [e2]; exact LaidIn.none)
theorem wit_met (os : Os) (args : Array Value) : laidMetH Tryz.prog Rows.learnsUptoRow.laid ((lWorld os).forCall (fun _ _ => 0) ⟨#[], args, []⟩).memory :=
 laidMetH.of_heap (w := lWorld os) (by simp [World.memory, World.forCall, Input.heap]) (wit_laid os)
end Go.Proofs.YtocligpfmfmihaaGreatDoor.wl

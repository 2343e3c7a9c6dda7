import Derived.Test.YtocligpfmfmihaaGreatDoorRows
import Derived.Test.YtocligpfmfmihaaGreatDoorCn
import Derived.LaidSub
import Derived.LaidLaws
import Derived.Lib.LaidU8T
namespace Go.Proofs.YtocligpfmfmihaaGreatDoor
open Go Go.RowKit Go.ChangeShapes

theorem lv_at {P : Program} {w : World} : ∀ {l : List (String × DataW Unit)} {ps : List MemPlace}, DataW.LaidVars P w l ps → ∀ n d, (n, d) ∈ l →
    ∃ g t cs fuel p, P.globalNamed n = some g ∧ (P.globals[g]?).map (·.type) = some t ∧ w.var? P n = some cs ∧ DataW.trod (fun _ => ()) P w 0 (fun _ => true) false fuel t cs.toList = some (d, p) ∧ ∀ x ∈ MemPlace.row ⟨g, 0, none⟩ cs.size ++ p, x ∈ ps
  | [], _, _, _, _, hm => by cases hm
  | (n', d') :: r, ps, h, n, d, hm => by
    obtain ⟨g, t, cs, fuel, p, q, h1, h2, h3, h4, h5, rfl⟩ := h
    rcases List.mem_cons.1 hm with e | e
    · cases e
      exact ⟨g, t, cs, fuel, p, h1, h2, h3, h4, fun x hx => List.mem_append_left _ hx⟩
    · obtain ⟨g', t', cs', fuel', p', k1, k2, k3, k4, k5⟩ := lv_at h5 n d e
      exact ⟨g', t', cs', fuel', p', k1, k2, k3, k4, fun x hx => List.mem_append_right _ (k5 x hx)⟩

/-- The variable g holds an error of errors.New's with this text. -/
def Sen (W : World) (g : Nat) (text : List UInt8) : Prop := ∃ (a : Addr) (s : ByteArray) (c : Array Value) (t : TypeId), W.cell? ⟨g, 0, none⟩ = some (errV a) ∧ W.cell? a = some (.string s) ∧ s.data.toList = text ∧ W.heap[a.block]? = some (.cells c t)
def txt : DataW Unit → List UInt8
  | .iface _ (.ptr (.agg [.lit (.string t)])) => t
  | _ => []
theorem star : "*" ++ "errors.errorString" = "*errors.errorString" := by decide
theorem rowE (u : TypeId) (h : Tryz.prog.typeName? 3 u = some "*errors.errorString") : u = 415 :=
  typeName_ptr_named (nm := "errors.errorString") (by rw [star]; kernel_rfl) (by kernel_rfl) (by decide) u (by rw [star]; exact h)
theorem cellsE : Tryz.prog.cellsOf 435 = 1 := by kernel_rfl
theorem cellsS : Tryz.prog.cellsOf 9 = 1 := by kernel_rfl

set_option maxRecDepth 20000 in
theorem sen_of {L : List (String × DataW Unit)} {W : World} {n : String} {d : DataW Unit} {g : Nat} (h : laidMet Tryz.prog L W) (hm : (n, d) ∈ L) (hd : d = .iface "*errors.errorString" (.ptr (.agg [.lit (.string (txt d))])))
    (hg : Tryz.prog.globalNamed n = some g) (ht : (Tryz.prog.globals[g]?).map (·.type) = some 61) : Sen W g (txt d) := by
  obtain ⟨ps, hv, hnd, hrows⟩ := h
  obtain ⟨g', t', cs, fuel, p, k1, k2, k3, k4, k5⟩ := lv_at hv n d hm
  obtain rfl := Option.some.inj (hg.symm.trans k1)
  obtain rfl := Option.some.inj (ht.symm.trans k2)
  obtain ⟨l0⟩ := cs
  have ok0 : ∀ u v, l0 = [.iface u v] → Value.okWide Tryz.prog W .any 0 u v := fun u v e => by
    subst e
    exact (hrows g 0 (k5 _ (by simp [MemPlace.row]))).2 u v ((World.var?_cell hg k3 0).trans rfl)
  rw [hd] at k4
  obtain ⟨a0, s0, rfl, hc0, hs0, hz0, rfl⟩ := errorString_of_trod Tryz.underlying61 rowE Tryz.underlying415 Tryz.underlying435 rfl rfl Tryz.underlying9 cellsE cellsS k4 ok0
  obtain ⟨c0, t0, hb0⟩ := (hrows a0.block a0.off (k5 _ (by simp [MemPlace.row]))).1
  exact ⟨a0, s0, c0, t0, (World.var?_cell hg k3 0).trans rfl, hc0, hs0, hb0⟩
theorem Sen.ne {W : World} {g g' : Nat} {x y : List UInt8} (h1 : Sen W g x) (h2 : Sen W g' y) (hxy : x ≠ y) (a : Addr) (h : W.cell? ⟨g, 0, none⟩ = some (errV a)) : W.cell? ⟨g', 0, none⟩ ≠ some (errV a) := by
  intro h'
  obtain ⟨a1, s1, _, _, e1, e2, e3, _⟩ := h1
  obtain ⟨a2, s2, _, _, f1, f2, f3, _⟩ := h2
  rw [h] at e1
  rw [h'] at f1
  simp only [errV, Option.some.injEq, Value.iface.injEq, Value.pointer.injEq, true_and] at e1 f1
  subst e1
  subst f1
  rw [e2] at f2
  injection f2 with f2
  injection f2 with f2
  subst f2
  exact hxy (e3.symm.trans f3)
theorem Sen.errs {W : World} {g : Nat} {x a b c d : List UInt8} (h : Sen W g x) (h1 : Sen W 0 a) (h2 : Sen W 1 b) (h3 : Sen W 2 c) (h4 : Sen W 3 d)
    (n1 : x ≠ a) (n2 : x ≠ b) (n3 : x ≠ c) (n4 : x ≠ d) : ∃ cb, Errs W g cb := by
  have h' := h
  obtain ⟨ad, s, cc, t, e1, e2, e3, e4⟩ := h
  refine ⟨ad, e1, lt_heap e4, ?_⟩
  intro k hk
  refine ⟨?_, cc, t, e4⟩
  simp only [List.mem_cons, List.not_mem_nil, or_false] at hk
  rcases hk with rfl | rfl | rfl | rfl
  · exact h'.ne h1 n1 ad e1
  · exact h'.ne h2 n2 ad e1
  · exact h'.ne h3 n3 ad e1
  · exact h'.ne h4 n4 ad e1
theorem Sen.three {W : World} {g : Nat} {x : List UInt8} (h : Sen W g x) : ∃ a c t, W.cell? ⟨g, 0, none⟩ = some (errV a) ∧ W.heap[a.block]? = some (.cells c t) := by
  obtain ⟨ad, s, cc, t, e1, e2, e3, e4⟩ := h
  exact ⟨ad, cc, t, e1, e4⟩
end Go.Proofs.YtocligpfmfmihaaGreatDoor

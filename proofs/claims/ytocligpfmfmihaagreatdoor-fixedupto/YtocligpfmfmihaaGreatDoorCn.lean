import Derived.Test.YtocligpfmfmihaaGreatDoorErr3
import Derived.Test.YtocligpfmfmihaaGreatDoorCan
namespace Go.Proofs.YtocligpfmfmihaaGreatDoor
open Go Go.RowKit Go.Extern.Stop Go.Stop Go.Extern

/-- What the variables of the program hold. -/
structure NG (W : World) : Prop where
  gl : GL W
  ety : W.cell? ⟨9, 0, none⟩ = some (.iface 289 ((Value.agg #[Value.pointer (some (Addr.mk 31 61 none))])))
  lon : ∃ a c t, W.cell? ⟨0, 0, none⟩ = some (errV a) ∧ W.heap[a.block]? = some (.cells c t)
  obj : ∃ a c t, W.cell? ⟨1, 0, none⟩ = some (errV a) ∧ W.heap[a.block]? = some (.cells c t)
  ne : ∀ a, W.cell? ⟨0, 0, none⟩ = some (errV a) → W.cell? ⟨1, 0, none⟩ ≠ some (errV a)

/-- The error ev has the number n. -/
def EV (W w : World) (ev : Value) (n : Nat) : Prop :=
  (n = 1 ∧ W.cell? ⟨0, 0, none⟩ = some ev) ∨ (n = 2 ∧ ∃ fb, ev = .iface 116 (.pointer (some ⟨fb, 0, none⟩)) ∧ FaultAt W w fb) ∨ (n = 3 ∧ W.cell? ⟨1, 0, none⟩ = some ev)

/-- The three variables of errno. -/
def w3 (w : World) : World := ((w.alloc (.cells #[.pointer none] 116)).alloc (.cells #[.pointer none] 117)).alloc (.cells #[.pointer none] 118)
theorem w3_kp (w : World) : Kp (fun _ => False) w (w3 w) := (((Kp.refl _ w).alloc _).alloc _).alloc _
theorem w3_tb (w : World) : (w3 w).heap[w.heap.size]? = some (.cells #[.pointer none] 116) := by
  unfold w3
  rw [Below.heap_alloc _ _ _ (by simp; omega)]
  exact (two_new w _ _).1
theorem Kp.heap {w w' : World} {k : Nat} {o : Obj} (h : Kp (fun _ => False) w w') (hk : w.heap[k]? = some o) : w'.heap[k]? = some o := (h.block k (lt_heap hk) (by simp)).trans hk
theorem Kp.cel {w w' : World} {a : Addr} {o : Value} (h : Kp (fun _ => False) w w') (hk : w.cell? a = some o) : w'.cell? a = some o := (h.cell (lt_cell hk) (by simp)).trans hk
theorem Below.hp {W w : World} {k : Nat} {o : Obj} (h : Below W.heap.size W w) (hk : W.heap[k]? = some o) : w.heap[k]? = some o := (h.block k (lt_heap hk)).trans hk
theorem Below.cl {W w : World} {a : Addr} {o : Value} (h : Below W.heap.size W w) (hk : W.cell? a = some o) : w.cell? a = some o := (h.cell (lt_cell hk)).trans hk

set_option maxRecDepth 20000 in
theorem errno_long (W : World) (hN : NG W) (w : World) (hW : Below W.heap.size W w) (ev : Value) (he : W.cell? ⟨0, 0, none⟩ = some ev) :
    Calls Tryz.prog 35 #[ev] w fun e w' => e = .returned (.int .i64 1) ∧ Kp (fun _ => False) w w' := by
  obtain ⟨a, c, t, h1, h2⟩ := hN.lon
  rw [he] at h1
  injection h1 with h1
  subst h1
  have hc := (w3_kp w).cel (Below.cl hW he)
  have HK := hide (w3_kp w)
  clear he
  unfold w3 at hc HK
  unfold errV at hc ⊢
  go_enter Tryz.func35, Tryz.ntmps35
  go_wp2_with fail
  refine (is_same a _).mono ?_
  rintro e w' ⟨rfl, rfl⟩
  go_wp2
  go_ret
  exact ⟨rfl, HK.out⟩
set_option maxRecDepth 20000 in
theorem errno_fault (W : World) (hN : NG W) (w : World) (hW : Below W.heap.size W w) (fb : Nat) (hf : FaultAt W w fb) :
    Calls Tryz.prog 35 #[.iface 116 (.pointer (some ⟨fb, 0, none⟩))] w fun e w' => e = .returned (.int .i64 2) ∧ Kp (fun _ => False) w w' := by
  obtain ⟨a, c, t, h1, h2⟩ := hN.lon
  obtain ⟨k, g, cb, f1, f2, f3, f4⟩ := hf
  obtain ⟨f5, c', t', f6⟩ := f4 0 (by simp)
  have hne : cb ≠ a := by rintro rfl; exact f5 h1
  have hc := (w3_kp w).cel (Below.cl hW h1)
  have H := hide (And.intro (w3_kp w) (And.intro ((w3_kp w).heap f1) (And.intro ((w3_kp w).heap (Below.hp hW f6)) (And.intro ((w3_kp w).heap (Below.hp hW h2)) (And.intro ((w3_kp w).cel (Below.cl hW hN.ety)) (w3_tb w))))))
  clear f1 f2 f4 f5 f6 h1 h2
  unfold w3 at hc H
  unfold errV at hc
  go_enter Tryz.func35, Tryz.ntmps35
  go_wp2_with fail
  refine (is_fault fb cb a _ _ _ _ _ _ H.out.2.1 hne H.out.2.2.1 H.out.2.2.2.1).mono ?_
  rintro e w' ⟨rfl, rfl⟩
  go_wp2_with fail
  refine (as_hit fb w.heap.size _ _ H.out.2.2.2.2.1 H.out.2.2.2.2.2).mono ?_
  rintro e w' ⟨rfl, hk⟩
  have HK := hide (H.out.1.and (S := fun _ => False) hk (by intro i hi e; omega))
  clear hk
  go_wp2
  go_ret
  exact ⟨rfl, HK.out⟩
set_option maxRecDepth 20000 in
theorem errno_obj (W : World) (hN : NG W) (w : World) (hW : Below W.heap.size W w) (ev : Value) (he : W.cell? ⟨1, 0, none⟩ = some ev) :
    Calls Tryz.prog 35 #[ev] w fun e w' => e = .returned (.int .i64 3) ∧ Kp (fun _ => False) w w' := by
  obtain ⟨a, c, t, h1, h2⟩ := hN.lon
  obtain ⟨b, c', t', h3, h4⟩ := hN.obj
  rw [he] at h3
  injection h3 with h3
  subst h3
  have hne : b ≠ a := by rintro rfl; exact hN.ne _ h1 he
  have hc := (w3_kp w).cel (Below.cl hW h1)
  have H := hide (And.intro (w3_kp w) (And.intro ((w3_kp w).cel (Below.cl hW he)) (And.intro ((w3_kp w).heap (Below.hp hW h4)) (And.intro ((w3_kp w).heap (Below.hp hW h2)) (And.intro ((w3_kp w).cel (Below.cl hW hN.ety)) (w3_tb w))))))
  clear h1 h2 h4 he
  unfold w3 at hc H
  unfold errV at hc ⊢
  go_enter Tryz.func35, Tryz.ntmps35
  go_wp2_with fail
  refine (is_other b a _ _ _ _ _ hne H.out.2.2.1 H.out.2.2.2.1).mono ?_
  rintro e w' ⟨rfl, rfl⟩
  go_wp2_with fail
  refine (as_miss b w.heap.size _ _ H.out.2.2.2.2.1 H.out.2.2.2.2.2).mono ?_
  rintro e w' ⟨rfl, hk⟩
  have HK := hide (H.out.1.trans hk)
  have hc2 := hk.cel H.out.2.1
  unfold errV at hc2
  clear hk hc
  go_wp2_with fail
  refine (is_same b _).mono ?_
  rintro e w' ⟨rfl, rfl⟩
  go_wp2
  go_ret
  exact ⟨rfl, HK.out⟩
/-- notary.errno. -/
theorem errno_c (W : World) (hN : NG W) (w : World) (hW : Below W.heap.size W w) (ev : Value) (n : Nat) (he : EV W w ev n) :
    Calls Tryz.prog 35 #[ev] w fun e w' => e = .returned (.int .i64 n) ∧ Kp (fun _ => False) w w' := by
  rcases he with ⟨rfl, h⟩ | ⟨rfl, fb, rfl, h⟩ | ⟨rfl, h⟩
  · exact errno_long W hN w hW ev h
  · exact errno_fault W hN w hW fb h
  · exact errno_obj W hN w hW ev h
end Go.Proofs.YtocligpfmfmihaaGreatDoor

import Derived.Test.YtocligpfmfmihaaGreatDoorVal
namespace Go.Proofs.YtocligpfmfmihaaGreatDoor
open Go Go.RowKit Go.Maps

theorem pVal_sk (u : Bool) (d : Nat) (l : List UInt8) : pVal u d (sk l) = pVal u d l := by
  cases d <;> simp only [pVal, sk_sk]
theorem ArrI.keep {lo rb ab bb : Nat} {x : List J} {w1 w2 : World} (hrb : rb < lo) (h0 : lo ≤ ab) (h0' : lo ≤ bb) (h : ArrI lo rb ab bb x w1) (hk : Kp (· = rb) w1 w2) : ArrI lo rb ab bb x w2 := by
  obtain ⟨sv, vs, G, i1, i2, i3, i4, i5, i6⟩ := h
  have hs := hk.size
  refine ⟨sv, vs, G, (hk.block ab (lt_heap i1) (by omega)).trans i1, (hk.block bb (lt_heap i2) (by omega)).trans i2, ownsRow_kp i3 hk (fun k e => by have := (i3.lt k e).1; omega), Reps.frame ?_ x i4, ?_, i6⟩
  · intro k hG
    obtain ⟨q1, q2, q3, q4⟩ := i5 k hG
    exact hk.block k q2 (by omega)
  · intro k hG
    obtain ⟨q1, q2, q3, q4⟩ := i5 k hG
    exact ⟨q1, by omega, q3, q4⟩
theorem arr_one (W : World) (rb : Nat) (s : ByteArray) (d : Nat) (hv : ValC W d) (w0 : World) (ab bb : Nat) (hab : ab ≠ bb) (hrb : rb < w0.heap.size) (h0 : w0.heap.size ≤ ab) (h0' : w0.heap.size ≤ bb) :
    One W rb s d w0 (pEl (pVal false (6 - d))) (ArrI w0.heap.size rb ab bb) List.length 205 (.pointer (some ⟨ab, 0, none⟩)) (.pointer (some ⟨bb, 0, none⟩)) where
  keep x w1 w2 h hk := h.keep hrb h0 h0' hk
  shr := pEl_shr (pVal_le _)
  skp x l := by simp only [pEl, pVal_sk]
  ent w := by kernel_rfl
  inc x l y r h := by
    unfold pEl at h
    simp only [Option.map_eq_some_iff, Prod.mk.injEq] at h
    obtain ⟨z, _, rfl, _⟩ := h
    simp
  call x w1 k1 hm hr hI hk := by
    cases hp : pVal false (6 - d) (rest s k1) with
    | none =>
      refine (array1_none W rb s d hv w0 ab bb x w1 k1 hr hI hk hp).mono ?_
      intro e w2 h
      exact ser_none (by simp [pEl, hp]) h
    | some z =>
      obtain ⟨j, r⟩ := z
      have e0 : pEl (pVal false (6 - d)) x (rest s k1) = some (x ++ [j], r) := by simp [pEl, hp]
      rw [e0]
      exact array1_some W rb s d hv w0 ab bb hab hrb h0 h0' x w1 k1 hr hI hk j r hp hm

theorem heap_new0 (w : World) (a b c : Obj) : (((w.alloc a).alloc b).alloc c).heap[w.heap.size]? = some a := by
  rw [Below.heap_alloc _ _ _ (by simp; omega), Below.heap_alloc _ _ _ (by simp)]
  exact heap_alloc_new w a
theorem heap_new1 (w : World) (a b c : Obj) : (((w.alloc a).alloc b).alloc c).heap[w.heap.size + 1]? = some b := by
  rw [Below.heap_alloc _ _ _ (by simp)]
  have := heap_alloc_new (w.alloc a) b
  simpa using this
theorem heap_new2 (w : World) (a b c : Obj) : (((w.alloc a).alloc b).alloc c).heap[w.heap.size + 1 + 1]? = some c := by
  have := heap_alloc_new ((w.alloc a).alloc b) c
  simpa using this
set_option maxRecDepth 20000 in
theorem array_c (W : World) (rb : Nat) (s : ByteArray) (d : Nat) (hd : d < 6) (hv : ValC W (d + 1)) (k : Nat) (w : World) (hr : St W w rb s k d) (t : List UInt8) (hl : sk (rest s k) = 91 :: t) :
    Calls Tryz.prog 160 #[.pointer (some ⟨rb, 0, none⟩)] w fun e w' =>
      Res W rb s d w (pSev (pEl (pVal false (6 - (d + 1)))) 93 [] t) (fun w' l v => Rep w' (fun b => w.heap.size ≤ b ∧ b < w'.heap.size) (.arr l) (.iface 228 v)) e w' := by
  have hrb : rb < w.heap.size := hr.rdr.facts.2.2.2.2.2
  have HL := hide hl
  clear hl
  go_enter Tryz.func160, Tryz.ntmps160
  go_wp2_with fail
  have K1 : Kp (· = rb) w (((w.alloc (.cells #[.pointer (some ⟨rb, 0, none⟩)] 201)).alloc (.cells #[] 59)).alloc (.cells #[.slice (some ⟨w.heap.size + 1, 0, none⟩) 0 0] 228)) := (((Kp.refl _ _).alloc _).alloc _).alloc _
  have S1 := hr.keep (S := fun _ => False) ((((Kp.refl _ _).alloc (.cells #[.pointer (some ⟨rb, 0, none⟩)] 201)).alloc (.cells #[] 59)).alloc (.cells #[.slice (some ⟨w.heap.size + 1, 0, none⟩) 0 0] 228)) (by simp) (by simp)
  have I1 : ArrI w.heap.size rb (w.heap.size + 1 + 1) w.heap.size [] (((w.alloc (.cells #[.pointer (some ⟨rb, 0, none⟩)] 201)).alloc (.cells #[] 59)).alloc (.cells #[.slice (some ⟨w.heap.size + 1, 0, none⟩) 0 0] 228)) := by
    refine ⟨_, [], fun _ => False, heap_new2 w _ _ _, heap_new0 w _ _ _, ⟨rfl, Or.inr ⟨w.heap.size + 1, 0, #[], rfl, by omega, heap_new1 w _ _ _, Nat.le_refl _, by unfold maxLen; omega, rfl, rfl⟩⟩, by rw [Reps], by simp, ?_⟩
    intro k hk
    simp only [Value.ownBlock, Option.some.injEq] at hk
    exact ⟨by simp, by omega, by omega⟩
  refine (several_c W rb s k d w _ _ _ _ _ _ _ (arr_one W rb s (d + 1) hv w (w.heap.size + 1 + 1) w.heap.size (by omega) hrb (by omega) (Nat.le_refl _)) S1 [] rfl I1 K1 hd 91 93 91 93 rfl rfl (by decide) (by decide) t HL.out).mono ?_
  rintro e w2 ⟨g1, g2⟩
  clear I1 K1 S1
  cases hp : pSev (pEl (pVal false (6 - (d + 1)))) 93 [] t with
  | none =>
    rw [hp] at g2
    obtain ⟨fb', k9, g, cb', rfl, q⟩ := g2
    exact ⟨rfl, res_none hp ⟨g1, fb', k9, g, cb', rfl, q⟩⟩
  | some z =>
    obtain ⟨l, r⟩ := z
    rw [hp] at g2
    obtain ⟨rfl, ⟨sv, vs, G, i1, i2, i3, i4, i5, i6⟩, k2, S2, hr2⟩ := g2
    have hrep : Rep w2 (fun b => w.heap.size ≤ b ∧ b < w2.heap.size) (.arr l) (.iface 228 sv) := by
      rw [Rep]
      refine ⟨sv, vs, rfl, ⟨i3.1, ?_⟩, fun b hb => i3.lt b hb, Reps.mono (fun k hk => ⟨(i5 k hk).1, (i5 k hk).2.1⟩) l i4⟩
      rcases i3.2 with h | ⟨g, cap, cur, h1, _, h3⟩
      · exact Or.inl h
      · exact Or.inr ⟨g, cap, cur, h1, Nat.zero_le _, h3⟩
    obtain ⟨ca, fa⟩ := one_cells i1
    have Z := hide (And.intro hrep (And.intro hr2 hp))
    clear i1 i2 i3 i4 i5 i6 hrep hr2 hp fa
    go_wp2
    go_ret
    exact res_some Z.out.2.2 g1 Z.out.1 S2 Z.out.2.1
end Go.Proofs.YtocligpfmfmihaaGreatDoor

import Derived.Test.YtocligpfmfmihaaGreatDoorVal3
namespace Go.Proofs.YtocligpfmfmihaaGreatDoor
open Go Go.RowKit Go.Maps Go.WideMaps

theorem pMem_sk (u : Bool) (pv : Bs → Option (J × Bs)) (a : List (Bs × J)) (l : List UInt8) : pMem u pv a (sk l) = pMem u pv a l := by
  simp only [pMem, sk_sk]
theorem obj_one (W : World) (rb : Nat) (s : ByteArray) (d : Nat) (hv : ValC W d) (w0 : World) (mb ob bb : Nat) (hrb : rb < w0.heap.size) (h0 : w0.heap.size ≤ mb) (h1 : w0.heap.size ≤ ob) (h2 : w0.heap.size ≤ bb) (hne : mb ≠ ob ∧ mb ≠ bb ∧ ob ≠ bb) :
    One W rb s d w0 (pMem false (pVal false (6 - d))) (ObjI w0.heap.size rb mb ob bb) List.length 203 (.pointer (some ⟨bb, 0, none⟩)) (.pointer (some ⟨ob, 0, none⟩)) where
  keep x w1 w2 h hk := h.keep hrb h0 h1 h2 hk
  shr := pMem_shr (pVal_le _)
  skp x l := pMem_sk _ _ _ _
  ent w := by kernel_rfl
  inc x l y r h := by
    unfold pMem at h
    repeat' split at h
    all_goals first | (cases h; done) | skip
    simp only [Option.map_eq_some_iff, Prod.mk.injEq] at h
    obtain ⟨z, _, rfl, _⟩ := h
    simp
  call x w1 k1 hm hr hI hk := obj1_c W rb s d hv w0 mb ob bb hrb h0 h1 h2 hne x w1 k1 hm hr hI hk

set_option maxRecDepth 20000 in
theorem object_c (W : World) (rb : Nat) (s : ByteArray) (d : Nat) (hd : d < 6) (hv : ValC W (d + 1)) (k : Nat) (w : World) (hr : St W w rb s k d) (t : List UInt8) (hl : sk (rest s k) = 123 :: t) :
    Calls Tryz.prog 159 #[.pointer (some ⟨rb, 0, none⟩)] w fun e w' =>
      Res W rb s d w (pSev (pMem false (pVal false (6 - (d + 1)))) 125 [] t) (fun w' l v => Rep w' (fun b => w.heap.size ≤ b ∧ b < w'.heap.size) (.obj (ofL l)) (.iface 71 v)) e w' := by
  have hrb : rb < w.heap.size := hr.rdr.facts.2.2.2.2.2
  have HL := hide hl
  have hmm := @run_makeMap Tryz.prog
  clear hl
  go_enter Tryz.func159, Tryz.ntmps159
  go_wp2_with fail
  clear hmm
  have K1 : Kp (· = rb) w (((w.alloc (.cells #[.pointer (some ⟨rb, 0, none⟩)] 201)).alloc (.map #[] 0)).alloc (.cells #[.map (some (w.heap.size + 1))] 71)) := (((Kp.refl _ _).alloc _).alloc _).alloc _
  have S1 := hr.keep (S := fun _ => False) ((((Kp.refl _ _).alloc (.cells #[.pointer (some ⟨rb, 0, none⟩)] 201)).alloc (.map #[] 0)).alloc (.cells #[.map (some (w.heap.size + 1))] 71)) (by simp) (by simp)
  have I1 : ObjI w.heap.size rb (w.heap.size + 1) (w.heap.size + 1 + 1) w.heap.size [] (((w.alloc (.cells #[.pointer (some ⟨rb, 0, none⟩)] 201)).alloc (.map #[] 0)).alloc (.cells #[.map (some (w.heap.size + 1))] 71)) := by
    refine ⟨[], fun _ => False, heap_new2 w _ _ _, heap_new0 w _ _ _, ?_, by simp only [ofL, List.foldl_nil]; rw [Repm], by simp, by simp [Nod], by simp⟩
    have h9 := World.ownsMap_made (w.alloc (.cells #[.pointer (some ⟨rb, 0, none⟩)] 201)) Tryz.prog 9 Rv
    refine ownsMap_heap (w := (w.alloc (.cells #[.pointer (some ⟨rb, 0, none⟩)] 201)).alloc (.map #[] 0)) ?_ (Below.heap_alloc _ _ _ (by simp))
    simpa [dm] using h9
  refine (several_c W rb s k d w _ _ _ _ _ _ _ (obj_one W rb s (d + 1) hv w (w.heap.size + 1) (w.heap.size + 1 + 1) w.heap.size hrb (by omega) (by omega) (Nat.le_refl _) ⟨by omega, by omega, by omega⟩) S1 [] rfl I1 K1 hd 123 125 123 125 rfl rfl (by decide) (by decide) t HL.out).mono ?_
  rintro e w2 ⟨g1, g2⟩
  clear I1 K1 S1
  cases hp : pSev (pMem false (pVal false (6 - (d + 1)))) 125 [] t with
  | none =>
    rw [hp] at g2
    obtain ⟨fb', k9, g, cb', rfl, q⟩ := g2
    exact ⟨rfl, res_none hp ⟨g1, fb', k9, g, cb', rfl, q⟩⟩
  | some z =>
    obtain ⟨l, r⟩ := z
    rw [hp] at g2
    obtain ⟨rfl, ⟨m, G, i1, i2, i3, i4, i5, i6, i7⟩, k2, S2, hr2⟩ := g2
    have hrep : Rep w2 (fun b => w.heap.size ≤ b ∧ b < w2.heap.size) (.obj (ofL l)) (.iface 71 (.map (some (w.heap.size + 1)))) := by
      rw [Rep]
      exact ⟨w.heap.size + 1, m, rfl, ⟨by omega, i3.lt⟩, i3, Repm.mono (fun k hk => ⟨(i5 k hk).1, (i5 k hk).2.1⟩) _ i4⟩
    obtain ⟨ca, fa⟩ := one_cells i1
    have Z := hide (And.intro hrep (And.intro hr2 hp))
    clear i1 i2 i3 i4 i5 i6 hrep hr2 hp fa
    go_wp2
    go_ret
    exact res_some Z.out.2.2 g1 Z.out.1 S2 Z.out.2.1

theorem deep_c (f : FuncId) (W : World) (rb : Nat) (s : ByteArray) (k : Nat) (w : World) (hr : St W w rb s k 6) (t : List UInt8) (q : UInt8) (hl : sk (rest s k) = q :: t) (hf : (f = 159 ∧ q = 123) ∨ (f = 160 ∧ q = 91)) :
    Calls Tryz.prog f #[.pointer (some ⟨rb, 0, none⟩)] w fun e w' => Kp (· = rb) w w' ∧ Thrown W w w' e := by
  rcases hf with ⟨rfl, rfl⟩ | ⟨rfl, rfl⟩
  · have HL := hide hl
    have hmm := @run_makeMap Tryz.prog
    clear hl
    go_enter Tryz.func159, Tryz.ntmps159
    go_wp2_with fail
    clear hmm
    have S1 := hr.keep (S := fun _ => False) ((((Kp.refl _ _).alloc (.cells #[.pointer (some ⟨rb, 0, none⟩)] 201)).alloc (.map #[] 0)).alloc (.cells #[.map (some (w.heap.size + 1))] 71)) (by simp) (by simp)
    have K1 : Kp (· = rb) w (((w.alloc (.cells #[.pointer (some ⟨rb, 0, none⟩)] 201)).alloc (.map #[] 0)).alloc (.cells #[.map (some (w.heap.size + 1))] 71)) := (((Kp.refl _ _).alloc _).alloc _).alloc _
    refine (several_deep W rb s k _ S1 _ 123 125 123 rfl t HL.out).mono ?_
    rintro e w2 ⟨g1, fb', k9, g, cb', rfl, q⟩
    exact ⟨rfl, K1.trans g1, fb', k9, g, cb', rfl, Nat.le_trans K1.size q.1, q.2⟩
  · have HL := hide hl
    clear hl
    go_enter Tryz.func160, Tryz.ntmps160
    go_wp2_with fail
    have S1 := hr.keep (S := fun _ => False) ((((Kp.refl _ _).alloc (.cells #[.pointer (some ⟨rb, 0, none⟩)] 201)).alloc (.cells #[] 59)).alloc (.cells #[.slice (some ⟨w.heap.size + 1, 0, none⟩) 0 0] 228)) (by simp) (by simp)
    have K1 : Kp (· = rb) w (((w.alloc (.cells #[.pointer (some ⟨rb, 0, none⟩)] 201)).alloc (.cells #[] 59)).alloc (.cells #[.slice (some ⟨w.heap.size + 1, 0, none⟩) 0 0] 228)) := (((Kp.refl _ _).alloc _).alloc _).alloc _
    refine (several_deep W rb s k _ S1 _ 91 93 91 rfl t HL.out).mono ?_
    rintro e w2 ⟨g1, fb', k9, g, cb', rfl, q⟩
    exact ⟨rfl, K1.trans g1, fb', k9, g, cb', rfl, Nat.le_trans K1.size q.1, q.2⟩
end Go.Proofs.YtocligpfmfmihaaGreatDoor

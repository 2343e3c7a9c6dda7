import Derived.Test.YtocligpfmfmihaaGreatDoorRef10
import Derived.Test.YtocligpfmfmihaaGreatDoorRef6hG
namespace Go.Proofs.YtocligpfmfmihaaGreatDoor
open Go Go.RowKit Go.Maps
variable {W w w' : World} {rb k : Nat} {s : ByteArray} {bad : Bool}
theorem tr_fin {o : Option (J × Bs)} {b kz k9 : Nat} {badz : Bool} {wz w9 : World} (hK : Kp (· = rb) w wz) (hz : match o with | some (j, r) => badz = false ∧ rest s kz = r ∧ RR wz (fun c => w.heap.size ≤ c ∧ c < wz.heap.size) j b | none => badz = true)
  (K9 : Kp (· = rb) wz w9) (h9 : Rs W w9 rb s k9 badz) (r9 : rest s k9 = sk (rest s kz)) (hrb : rb < w.heap.size) : TrR W w rb s (o.map fun x => (x.1, sk x.2)) (.returned (.pointer (some ⟨b, 0, none⟩))) w9 := by
 cases o with
 | none =>
  subst hz
  exact trR_none rfl (hK.trans K9) h9
 | some z =>
  obtain ⟨j, r⟩ := z
  obtain ⟨rfl, h2, h3⟩ := hz
  have := K9.size
  exact trR_some rfl (hK.trans K9) h9 (by rw [r9, h2]) (h3.frame (fun c hc => K9.block c hc.2 (by omega)) (fun c hc => ⟨hc.1, by omega⟩))
theorem pVal_scr {d : Nat} {l t : Bs} {c : UInt8} (h : sk l = c :: t) (h1 : c ≠ 123) (h2 : c ≠ 91) : pVal true d l = pSca true c t := by
 cases d with
 | zero => rw [pVal, h]; simp [h1, h2]
 | succ d => rw [pVal, h]; simp [h1, h2]
theorem pWord_is {w l r : Bs} {j : J} (hw : (w = [110, 117, 108, 108] ∧ j = .null) ∨ (w = [116, 114, 117, 101] ∧ j = .bool true) ∨ (w = [102, 97, 108, 115, 101] ∧ j = .bool false)) (h : l = w ++ r) : pWord l = some (j, r) := by
 subst h
 rcases hw with ⟨rfl, rfl⟩ | ⟨rfl, rfl⟩ | ⟨rfl, rfl⟩ <;> simp [pWord]
theorem pWord_no {l : Bs} (h1 : ∀ r, l ≠ [110, 117, 108, 108] ++ r) (h2 : ∀ r, l ≠ [116, 114, 117, 101] ++ r) (h3 : ∀ r, l ≠ [102, 97, 108, 115, 101] ++ r) : pWord l = none := by
 have aux : ∀ (w : Bs) n, l.take n = w → (∀ r, l ≠ w ++ r) → False := by
  intro w n e h
  apply h (l.drop n)
  rw [← e, List.take_append_drop]
 unfold pWord
 rw [if_neg (fun e => aux _ _ e h1), if_neg (fun e => aux _ _ e h2), if_neg (fun e => aux _ _ e h3)]
theorem vset {w : World} {b i kind : Nat} {n : Int} {t : Bs} {K L : Value} (h : w.heap[b]? = some (vCells kind n t K L)) (u : Value) : (w.setCell ⟨b, i, none⟩ u).heap[b]? = some (.cells (#[.int .u8 (kind : Int), .int .i64 n, .string ⟨t.toArray⟩, K, L].setIfInBounds i u) 80) := by
 simp [World.setCell, Array.getElem?_modify, h, vCells]
set_option maxRecDepth 20000 in
set_option maxHeartbeats 4000000 in
theorem rval_bad (h : Rs W w rb s k true) (D : Nat) (hD : D ≤ 6) :
  Calls Tryz.prog 69 #[.pointer (some ⟨rb, 0, none⟩), .int .i64 (D : Int)] w fun e w' => TrR W w rb s none e w' := by
 have hsz := h.sz
 have hrb := (h.facts).2.2.2.2.2
 have hWlo := h.old.size
 go_enter Tryz.func69, Tryz.ntmps69
 go_wp2_with fail
 refine (rblanks_c h).mono ?_
 rintro e w1 ⟨rfl, K1, k1, h1, r1⟩
 have R1 := hide r1
 clear r1
 go_wp2_with fail
 refine (peek_c h1).mono ?_
 rintro e w2 ⟨rfl, m, rfl⟩
 have h2 := h1.drewN m
 have K2 := K1.drewN m
 clear h1 K1
 generalize w1.drewN m = w2 at *
 have I2 := heap_alloc_new w2 (vCells 0 0 [] (.slice none 0 0) (.slice none 0 0))
 have h3 : Rs W (w2.alloc (vCells 0 0 [] (.slice none 0 0) (.slice none 0 0))) rb s k1 true := h2.keep (S := fun _ => False) ((Kp.refl _ _).alloc _) (by simp) (by simp)
 have K3 : Kp (· = rb) w (w2.alloc (vCells 0 0 [] (.slice none 0 0) (.slice none 0 0))) := K2.alloc _
 have hz3 : w2.heap.size < (w2.alloc (vCells 0 0 [] (.slice none 0 0) (.slice none 0 0))).heap.size := by simp
 have hw2 := K2.size
 generalize nxt (rest s k1) = c
 by_cases e110 : c = 110
 ·subst e110
  go_wp2_with fail
  refine (word_bad h3 ⟨#[110, 117, 108, 108]⟩).mono ?_
  rintro e w4 ⟨rfl, K4, h4⟩
  have I4 := (K4.block _ (lt_heap I2) (by omega)).trans I2
  obtain ⟨v0, v1, v2, v3, v4, z0, z1, z2, z3, z4, hvb⟩ := vfacts I4
  go_wp2_with fail
  refine (rblanks_c (h4.keep (S := fun k => k = w2.heap.size) (Kp.setCell (p := ⟨w2.heap.size, 0, none⟩) (Kp.refl (fun k => k = w2.heap.size) w4) (fun _ => rfl) _) (fun i hi => by have := h2.old.size; omega) (by omega))).mono ?_
  rintro e w5 ⟨rfl, K5, k5, h5, _⟩
  go_wp2
  go_ret
  exact trR_none rfl ((Kp.setCell (p := ⟨w2.heap.size, 0, none⟩) (K3.trans K4) (fun hlt => by exact absurd hlt (by show ¬ w2.heap.size < _; omega)) _).trans K5) h5
 by_cases e116 : c = 116
 ·subst e116
  go_wp2_with fail
  refine (word_bad h3 ⟨#[116, 114, 117, 101]⟩).mono ?_
  rintro e w4 ⟨rfl, K4, h4⟩
  have I4 := (K4.block _ (lt_heap I2) (by omega)).trans I2
  obtain ⟨v0, v1, v2, v3, v4, z0, z1, z2, z3, z4, hvb⟩ := vfacts I4
  go_wp2_with fail
  refine (rblanks_c (h4.keep (S := fun k => k = w2.heap.size) (Kp.setCell (p := ⟨w2.heap.size, 0, none⟩) (Kp.refl (fun k => k = w2.heap.size) w4) (fun _ => rfl) _) (fun i hi => by have := h2.old.size; omega) (by omega))).mono ?_
  rintro e w5 ⟨rfl, K5, k5, h5, _⟩
  go_wp2
  go_ret
  exact trR_none rfl ((Kp.setCell (p := ⟨w2.heap.size, 0, none⟩) (K3.trans K4) (fun hlt => by exact absurd hlt (by show ¬ w2.heap.size < _; omega)) _).trans K5) h5
 by_cases e102 : c = 102
 ·subst e102
  go_wp2_with fail
  refine (word_bad h3 ⟨#[102, 97, 108, 115, 101]⟩).mono ?_
  rintro e w4 ⟨rfl, K4, h4⟩
  have I4 := (K4.block _ (lt_heap I2) (by omega)).trans I2
  obtain ⟨v0, v1, v2, v3, v4, z0, z1, z2, z3, z4, hvb⟩ := vfacts I4
  go_wp2_with fail
  refine (rblanks_c (h4.keep (S := fun k => k = w2.heap.size) (Kp.setCell (p := ⟨w2.heap.size, 0, none⟩) (Kp.refl (fun k => k = w2.heap.size) w4) (fun _ => rfl) _) (fun i hi => by have := h2.old.size; omega) (by omega))).mono ?_
  rintro e w5 ⟨rfl, K5, k5, h5, _⟩
  go_wp2
  go_ret
  exact trR_none rfl ((Kp.setCell (p := ⟨w2.heap.size, 0, none⟩) (K3.trans K4) (fun hlt => by exact absurd hlt (by show ¬ w2.heap.size < _; omega)) _).trans K5) h5
 by_cases e34 : c = 34
 ·subst e34
  have S3 : Rs W (w2.alloc (vCells 34 0 [] (.slice none 0 0) (.slice none 0 0))) rb s k1 true := h2.keep (S := fun _ => False) ((Kp.refl _ _).alloc _) (by simp) (by simp)
  have I3 := heap_alloc_new w2 (vCells 34 0 [] (.slice none 0 0) (.slice none 0 0))
  go_wp2_with fail
  refine (rtext_bad S3 (fun e => by cases e)).mono ?_
  rintro e w4 ⟨rfl, K4, h4⟩
  have I4 : w4.heap[w2.heap.size]? = some (vCells 34 0 [] (.slice none 0 0) (.slice none 0 0)) := (K4.block _ (lt_heap I3) (by omega)).trans I3
  obtain ⟨v0, v1, v2, v3, v4, z0, z1, z2, z3, z4, hvb⟩ := vfacts I4
  have K4' : Kp (· = rb) w w4 := (K2.alloc _).trans K4
  go_wp2_with fail
  refine (rblanks_c (h4.keep (S := fun k => k = w2.heap.size) (Kp.setCell (p := ⟨w2.heap.size, 2, none⟩) (Kp.refl (fun k => k = w2.heap.size) w4) (fun _ => rfl) _) (fun i hi => by have := h2.old.size; omega) (by omega))).mono ?_
  rintro e w5 ⟨rfl, K5, k5, h5, _⟩
  go_wp2
  go_ret
  exact trR_none rfl ((Kp.setCell (p := ⟨w2.heap.size, 2, none⟩) K4' (fun hlt => by exact absurd hlt (by show ¬ w2.heap.size < _; omega)) _).trans K5) h5
 by_cases e91 : c = 91
 ·subst e91
  go_wp2_with fail
  refine (rarr_bad h3 ((D : Int) + 1) (Or.inl rfl)).mono ?_
  rintro e w4 ⟨b, rfl, K4, k4, bad4, h4, ho⟩
  have ho' : bad4 = true := ho
  subst ho'
  clear ho
  go_wp2_with fail
  refine (rblanks_c h4).mono ?_
  rintro e w5 ⟨rfl, K5, k5, h5, _⟩
  go_wp2
  go_ret
  exact trR_none rfl ((K3.trans K4).trans K5) h5
 by_cases e123 : c = 123
 ·subst e123
  go_wp2_with fail
  refine (robj_bad h3 ((D : Int) + 1) (Or.inl rfl)).mono ?_
  rintro e w4 ⟨b, rfl, K4, k4, bad4, h4, ho⟩
  have ho' : bad4 = true := ho
  subst ho'
  clear ho
  go_wp2_with fail
  refine (rblanks_c h4).mono ?_
  rintro e w5 ⟨rfl, K5, k5, h5, _⟩
  go_wp2
  go_ret
  exact trR_none rfl ((K3.trans K4).trans K5) h5
 have n110 := u8n e110
 have n116 := u8n e116
 have n102 := u8n e102
 have n34 := u8n e34
 have n91 := u8n e91
 have n123 := u8n e123
 simp only [UInt8.reduceToNat, Int.cast_ofNat_Int] at n110 n116 n102 n34 n91 n123
 clear e110 e116 e102 e34 e91 e123
 have S3 : Rs W (w2.alloc (vCells 35 0 [] (.slice none 0 0) (.slice none 0 0))) rb s k1 true := h2.keep (S := fun _ => False) ((Kp.refl _ _).alloc _) (by simp) (by simp)
 have I3 := heap_alloc_new w2 (vCells 35 0 [] (.slice none 0 0) (.slice none 0 0))
 go_wp2_with fail
 refine (rnum_bad S3).mono ?_
 rintro e w4 ⟨v, k4, rfl, K4, h4⟩
 have I4 : w4.heap[w2.heap.size]? = some (vCells 35 0 [] (.slice none 0 0) (.slice none 0 0)) := (K4.block _ (lt_heap I3) (by omega)).trans I3
 obtain ⟨v0, v1, v2, v3, v4, z0, z1, z2, z3, z4, hvb⟩ := vfacts I4
 have K4' : Kp (· = rb) w w4 := (K2.alloc _).trans K4
 go_wp2_with fail
 refine (rblanks_c (h4.keep (S := fun k => k = w2.heap.size) (Kp.setCell (p := ⟨w2.heap.size, 1, none⟩) (Kp.refl (fun k => k = w2.heap.size) w4) (fun _ => rfl) _) (fun i hi => by have := h2.old.size; omega) (by omega))).mono ?_
 rintro e w5 ⟨rfl, K5, k5, h5, _⟩
 go_wp2
 go_ret
 exact trR_none rfl ((Kp.setCell (p := ⟨w2.heap.size, 1, none⟩) K4' (fun hlt => by exact absurd hlt (by show ¬ w2.heap.size < _; omega)) _).trans K5) h5
theorem vbC (W : World) : VbC W := fun _ _ _ _ D hD h => rval_bad h D hD
set_option maxRecDepth 20000 in
set_option maxHeartbeats 4000000 in
theorem rval_c (D : Nat) (hD : D ≤ 6) (hv : D < 6 → VlC W (D + 1)) (h : Rs W w rb s k false) :
  Calls Tryz.prog 69 #[.pointer (some ⟨rb, 0, none⟩), .int .i64 (D : Int)] w fun e w' => TrR W w rb s ((pVal true (6 - D) (rest s k)).map fun x => (x.1, sk x.2)) e w' := by
 have hsz := h.sz
 have hrb := (h.facts).2.2.2.2.2
 have hWlo := h.old.size
 go_enter Tryz.func69, Tryz.ntmps69
 go_wp2_with fail
 refine (rblanks_c h).mono ?_
 rintro e w1 ⟨rfl, K1, k1, h1, r1⟩
 have R1 := hide r1
 clear r1
 go_wp2_with fail
 refine (peek_c h1).mono ?_
 rintro e w2 ⟨rfl, m, rfl⟩
 have h2 := h1.drewN m
 have K2 := K1.drewN m
 clear h1 K1
 generalize w1.drewN m = w2 at *
 have I2 := heap_alloc_new w2 (vCells 0 0 [] (.slice none 0 0) (.slice none 0 0))
 have h3 : Rs W (w2.alloc (vCells 0 0 [] (.slice none 0 0) (.slice none 0 0))) rb s k1 false := h2.keep (S := fun _ => False) ((Kp.refl _ _).alloc _) (by simp) (by simp)
 have K3 : Kp (· = rb) w (w2.alloc (vCells 0 0 [] (.slice none 0 0) (.slice none 0 0))) := K2.alloc _
 have hz3 : w2.heap.size < (w2.alloc (vCells 0 0 [] (.slice none 0 0) (.slice none 0 0))).heap.size := by simp
 have hw2 := K2.size
 generalize hc : nxt (rest s k1) = c
 have HC := hide hc
 clear hc
 have HV := hide hv
 clear hv
 by_cases e110 : c = 110
 ·subst e110
  obtain ⟨t, ht⟩ := nxt_eq HC.out (by decide)
  have hskl : sk (rest s k) = 110 :: t := by rw [← R1.out]; exact ht
  have hpv := pVal_scr (d := 6 - D) hskl (by decide) (by decide)
  have hps : pSca true 110 t = pWord (rest s k1) := by rw [ht]; simp [pSca, isDg]
  have HP := hide (And.intro ht (hpv.trans hps))
  clear ht hskl hpv hps
  go_wp2_with fail
  refine (rword_c h3 ⟨#[110, 117, 108, 108]⟩ (by decide)).mono ?_
  rintro e w4 ⟨rfl, K4, k4, bad4, h4, _, hw⟩
  have HW := hide hw
  clear hw
  have I4 := (K4.block _ (lt_heap I2) (by omega)).trans I2
  obtain ⟨v0, v1, v2, v3, v4, z0, z1, z2, z3, z4, hvb⟩ := vfacts I4
  have I5 : (w4.setCell ⟨w2.heap.size, 0, none⟩ (.int .u8 110)).heap[w2.heap.size]? = some (vCells 110 0 [] (.slice none 0 0) (.slice none 0 0)) := vset (i := 0) I4 (.int .u8 110)
  go_wp2_with fail
  refine (rblanks_c (h4.keep (S := fun k => k = w2.heap.size) (Kp.setCell (p := ⟨w2.heap.size, 0, none⟩) (Kp.refl (fun k => k = w2.heap.size) w4) (fun _ => rfl) _) (fun i hi => by have := h2.old.size; omega) (by omega))).mono ?_
  rintro e w5 ⟨rfl, K5, k5, h5, r5⟩
  have R5 := hide r5
  clear r5
  go_wp2
  go_ret
  refine tr_fin (Kp.setCell (p := ⟨w2.heap.size, 0, none⟩) (K3.trans K4) (fun hlt => by exact absurd hlt (by show ¬ w2.heap.size < _; omega)) _) ?_ K5 h5 R5.out hrb
  rw [HP.out.2]
  rcases HW.out with ⟨_, b2, r, p1, p2⟩ | ⟨b1, _, b5⟩
  ·rw [pWord_is (w := [110, 117, 108, 108]) (j := .null) (r := r) (Or.inl ⟨rfl, rfl⟩) p1]
   exact ⟨b2, p2, .null ⟨hw2, lt_heap I5⟩ I5⟩
  ·have b6 := b5.resolve_left (by simp)
   rw [pWord_no]
   ·exact b1
   ·exact b6
   ·intro r e; rw [HP.out.1] at e; simp at e
   ·intro r e; rw [HP.out.1] at e; simp at e
 by_cases e116 : c = 116
 ·subst e116
  obtain ⟨t, ht⟩ := nxt_eq HC.out (by decide)
  have hskl : sk (rest s k) = 116 :: t := by rw [← R1.out]; exact ht
  have hpv := pVal_scr (d := 6 - D) hskl (by decide) (by decide)
  have hps : pSca true 116 t = pWord (rest s k1) := by rw [ht]; simp [pSca, isDg]
  have HP := hide (And.intro ht (hpv.trans hps))
  clear ht hskl hpv hps
  go_wp2_with fail
  refine (rword_c h3 ⟨#[116, 114, 117, 101]⟩ (by decide)).mono ?_
  rintro e w4 ⟨rfl, K4, k4, bad4, h4, _, hw⟩
  have HW := hide hw
  clear hw
  have I4 := (K4.block _ (lt_heap I2) (by omega)).trans I2
  obtain ⟨v0, v1, v2, v3, v4, z0, z1, z2, z3, z4, hvb⟩ := vfacts I4
  have I5 : (w4.setCell ⟨w2.heap.size, 0, none⟩ (.int .u8 116)).heap[w2.heap.size]? = some (vCells 116 0 [] (.slice none 0 0) (.slice none 0 0)) := vset (i := 0) I4 (.int .u8 116)
  go_wp2_with fail
  refine (rblanks_c (h4.keep (S := fun k => k = w2.heap.size) (Kp.setCell (p := ⟨w2.heap.size, 0, none⟩) (Kp.refl (fun k => k = w2.heap.size) w4) (fun _ => rfl) _) (fun i hi => by have := h2.old.size; omega) (by omega))).mono ?_
  rintro e w5 ⟨rfl, K5, k5, h5, r5⟩
  have R5 := hide r5
  clear r5
  go_wp2
  go_ret
  refine tr_fin (Kp.setCell (p := ⟨w2.heap.size, 0, none⟩) (K3.trans K4) (fun hlt => by exact absurd hlt (by show ¬ w2.heap.size < _; omega)) _) ?_ K5 h5 R5.out hrb
  rw [HP.out.2]
  rcases HW.out with ⟨_, b2, r, p1, p2⟩ | ⟨b1, _, b5⟩
  ·rw [pWord_is (w := [116, 114, 117, 101]) (j := .bool true) (r := r) (Or.inr (Or.inl ⟨rfl, rfl⟩)) p1]
   exact ⟨b2, p2, .tt ⟨hw2, lt_heap I5⟩ I5⟩
  ·have b6 := b5.resolve_left (by simp)
   rw [pWord_no]
   ·exact b1
   ·intro r e; rw [HP.out.1] at e; simp at e
   ·exact b6
   ·intro r e; rw [HP.out.1] at e; simp at e
 by_cases e102 : c = 102
 ·subst e102
  obtain ⟨t, ht⟩ := nxt_eq HC.out (by decide)
  have hskl : sk (rest s k) = 102 :: t := by rw [← R1.out]; exact ht
  have hpv := pVal_scr (d := 6 - D) hskl (by decide) (by decide)
  have hps : pSca true 102 t = pWord (rest s k1) := by rw [ht]; simp [pSca, isDg]
  have HP := hide (And.intro ht (hpv.trans hps))
  clear ht hskl hpv hps
  go_wp2_with fail
  refine (rword_c h3 ⟨#[102, 97, 108, 115, 101]⟩ (by decide)).mono ?_
  rintro e w4 ⟨rfl, K4, k4, bad4, h4, _, hw⟩
  have HW := hide hw
  clear hw
  have I4 := (K4.block _ (lt_heap I2) (by omega)).trans I2
  obtain ⟨v0, v1, v2, v3, v4, z0, z1, z2, z3, z4, hvb⟩ := vfacts I4
  have I5 : (w4.setCell ⟨w2.heap.size, 0, none⟩ (.int .u8 102)).heap[w2.heap.size]? = some (vCells 102 0 [] (.slice none 0 0) (.slice none 0 0)) := vset (i := 0) I4 (.int .u8 102)
  go_wp2_with fail
  refine (rblanks_c (h4.keep (S := fun k => k = w2.heap.size) (Kp.setCell (p := ⟨w2.heap.size, 0, none⟩) (Kp.refl (fun k => k = w2.heap.size) w4) (fun _ => rfl) _) (fun i hi => by have := h2.old.size; omega) (by omega))).mono ?_
  rintro e w5 ⟨rfl, K5, k5, h5, r5⟩
  have R5 := hide r5
  clear r5
  go_wp2
  go_ret
  refine tr_fin (Kp.setCell (p := ⟨w2.heap.size, 0, none⟩) (K3.trans K4) (fun hlt => by exact absurd hlt (by show ¬ w2.heap.size < _; omega)) _) ?_ K5 h5 R5.out hrb
  rw [HP.out.2]
  rcases HW.out with ⟨_, b2, r, p1, p2⟩ | ⟨b1, _, b5⟩
  ·rw [pWord_is (w := [102, 97, 108, 115, 101]) (j := .bool false) (r := r) (Or.inr (Or.inr ⟨rfl, rfl⟩)) p1]
   exact ⟨b2, p2, .ff ⟨hw2, lt_heap I5⟩ I5⟩
  ·have b6 := b5.resolve_left (by simp)
   rw [pWord_no]
   ·exact b1
   ·intro r e; rw [HP.out.1] at e; simp at e
   ·intro r e; rw [HP.out.1] at e; simp at e
   ·exact b6
 by_cases e34 : c = 34
 ·subst e34
  obtain ⟨t, ht⟩ := nxt_eq HC.out (by decide)
  have hskl : sk (rest s k) = 34 :: t := by rw [← R1.out]; exact ht
  have hpv := pVal_scr (d := 6 - D) hskl (by decide) (by decide)
  have HP := hide (And.intro ht hpv)
  clear ht hskl hpv
  have S3 : Rs W (w2.alloc (vCells 34 0 [] (.slice none 0 0) (.slice none 0 0))) rb s k1 false := h2.keep (S := fun _ => False) ((Kp.refl _ _).alloc _) (by simp) (by simp)
  have I3 := heap_alloc_new w2 (vCells 34 0 [] (.slice none 0 0) (.slice none 0 0))
  go_wp2_with fail
  refine (rtext_c S3 t HP.out.1).mono ?_
  rintro e w4 ⟨v, rfl, hvl, K4, k4, bad4, h4, ho⟩
  have HO := hide ho
  clear ho
  have I4 : w4.heap[w2.heap.size]? = some (vCells 34 0 [] (.slice none 0 0) (.slice none 0 0)) := (K4.block _ (lt_heap I3) (by omega)).trans I3
  obtain ⟨v0, v1, v2, v3, v4, z0, z1, z2, z3, z4, hvb⟩ := vfacts I4
  have I5 : (w4.setCell ⟨w2.heap.size, 2, none⟩ (.string ⟨v.toArray⟩)).heap[w2.heap.size]? = some (vCells 34 0 v (.slice none 0 0) (.slice none 0 0)) := vset (i := 2) I4 _
  have K4' : Kp (· = rb) w w4 := (K2.alloc _).trans K4
  go_wp2_with fail
  refine (rblanks_c (h4.keep (S := fun k => k = w2.heap.size) (Kp.setCell (p := ⟨w2.heap.size, 2, none⟩) (Kp.refl (fun k => k = w2.heap.size) w4) (fun _ => rfl) _) (fun i hi => by have := h2.old.size; omega) (by omega))).mono ?_
  rintro e w5 ⟨rfl, K5, k5, h5, r5⟩
  have R5 := hide r5
  clear r5
  go_wp2
  go_ret
  refine tr_fin (Kp.setCell (p := ⟨w2.heap.size, 2, none⟩) K4' (fun hlt => by exact absurd hlt (by show ¬ w2.heap.size < _; omega)) _) ?_ K5 h5 R5.out hrb
  have ho := HO.out
  rw [HP.out.2, pSca, if_pos rfl]
  cases hp : pStr true t with
  | none => rw [hp] at ho; exact ho
  | some z =>
   obtain ⟨o, r⟩ := z
   rw [hp] at ho
   obtain ⟨q1, rfl, q3⟩ := ho
   exact ⟨q1, q3, .str _ ⟨hw2, lt_heap I5⟩ I5⟩
 by_cases e91 : c = 91
 ·subst e91
  obtain ⟨t, ht⟩ := nxt_eq HC.out (by decide)
  have hskl : sk (rest s k) = 91 :: t := by rw [← R1.out]; exact ht
  have HP := hide (And.intro ht hskl)
  clear ht hskl
  have fin : ∀ (o : Option (J × Bs)) (e : Ending) (w4 : World), o = pVal true (6 - D) (rest s k) → TrR W (w2.alloc (vCells 0 0 [] (.slice none 0 0) (.slice none 0 0))) rb s o e w4 → ∃ b, e = .returned (.pointer (some ⟨b, 0, none⟩)) ∧ ∃ k4 bad4, Rs W w4 rb s k4 bad4 ∧ ∀ k9 w9, Kp (· = rb) w4 w9 → Rs W w9 rb s k9 bad4 → rest s k9 = sk (rest s k4) →
    TrR W w rb s ((pVal true (6 - D) (rest s k)).map fun x => (x.1, sk x.2)) (.returned (.pointer (some ⟨b, 0, none⟩))) w9 := by
   rintro o e w4 ho ⟨b, rfl, K4, k4, bad4, h4, hm⟩
   refine ⟨b, rfl, k4, bad4, h4, fun k9 w9 K9 h9 r9 => ?_⟩
   rw [← ho]
   refine tr_fin (K3.trans K4) ?_ K9 h9 r9 hrb
   cases o with
   | none => exact hm
   | some z => exact ⟨hm.1, hm.2.1, hm.2.2.frame (fun _ _ => rfl) (fun c hc => ⟨by omega, hc.2⟩)⟩
  have FIN := hide fin
  clear fin
  by_cases hd : D < 6
  ·have hpv : ((pSev (pEl (pVal true (6 - (D + 1)))) 93 [] t).map fun x => ((J.arr x.1), x.2)) = pVal true (6 - D) (rest s k) := by
    rw [show 6 - D = (6 - (D + 1)) + 1 by omega, pVal, HP.out.2]
    simp
   have HPV := hide hpv
   clear hpv
   go_wp2_with fail
   refine (rarr_c (D + 1) (by omega) (HV.out hd) h3 t HP.out.1).mono ?_
   intro e w4 hq
   obtain ⟨b, rfl, k4, bad4, h4, hf⟩ := FIN.out _ _ _ HPV.out hq
   have HF := hide hf
   clear hf hq
   go_wp2_with fail
   refine (rblanks_c h4).mono ?_
   rintro e w5 ⟨rfl, K5, k5, h5, r5⟩
   have R5 := hide r5
   clear r5
   go_wp2
   go_ret
   exact HF.out _ _ K5 h5 R5.out
  ·have hpv : (none : Option (J × Bs)) = pVal true (6 - D) (rest s k) := by
    rw [show 6 - D = 0 by omega, pVal, HP.out.2]
    simp
   have HPV := hide hpv
   clear hpv
   go_wp2_with fail
   refine (rarr_bad h3 ((D : Int) + 1) (Or.inr (by omega))).mono ?_
   intro e w4 hq
   obtain ⟨b, rfl, k4, bad4, h4, hf⟩ := FIN.out _ _ _ HPV.out hq
   have HF := hide hf
   clear hf hq
   go_wp2_with fail
   refine (rblanks_c h4).mono ?_
   rintro e w5 ⟨rfl, K5, k5, h5, r5⟩
   have R5 := hide r5
   clear r5
   go_wp2
   go_ret
   exact HF.out _ _ K5 h5 R5.out
 by_cases e123 : c = 123
 ·subst e123
  obtain ⟨t, ht⟩ := nxt_eq HC.out (by decide)
  have hskl : sk (rest s k) = 123 :: t := by rw [← R1.out]; exact ht
  have HP := hide (And.intro ht hskl)
  clear ht hskl
  have fin : ∀ (o : Option (J × Bs)) (e : Ending) (w4 : World), o = pVal true (6 - D) (rest s k) → TrR W (w2.alloc (vCells 0 0 [] (.slice none 0 0) (.slice none 0 0))) rb s o e w4 → ∃ b, e = .returned (.pointer (some ⟨b, 0, none⟩)) ∧ ∃ k4 bad4, Rs W w4 rb s k4 bad4 ∧ ∀ k9 w9, Kp (· = rb) w4 w9 → Rs W w9 rb s k9 bad4 → rest s k9 = sk (rest s k4) →
    TrR W w rb s ((pVal true (6 - D) (rest s k)).map fun x => (x.1, sk x.2)) (.returned (.pointer (some ⟨b, 0, none⟩))) w9 := by
   rintro o e w4 ho ⟨b, rfl, K4, k4, bad4, h4, hm⟩
   refine ⟨b, rfl, k4, bad4, h4, fun k9 w9 K9 h9 r9 => ?_⟩
   rw [← ho]
   refine tr_fin (K3.trans K4) ?_ K9 h9 r9 hrb
   cases o with
   | none => exact hm
   | some z => exact ⟨hm.1, hm.2.1, hm.2.2.frame (fun _ _ => rfl) (fun c hc => ⟨by omega, hc.2⟩)⟩
  have FIN := hide fin
  clear fin
  by_cases hd : D < 6
  ·have hpv : ((pSev (pMem true (pVal true (6 - (D + 1)))) 125 [] t).map fun x => ((J.obj (ofL x.1)), x.2)) = pVal true (6 - D) (rest s k) := by
    rw [show 6 - D = (6 - (D + 1)) + 1 by omega, pVal, HP.out.2]
    simp
   have HPV := hide hpv
   clear hpv
   go_wp2_with fail
   refine (robj_c (D + 1) (by omega) (HV.out hd) (vbC W) h3 t HP.out.1).mono ?_
   intro e w4 hq
   obtain ⟨b, rfl, k4, bad4, h4, hf⟩ := FIN.out _ _ _ HPV.out hq
   have HF := hide hf
   clear hf hq
   go_wp2_with fail
   refine (rblanks_c h4).mono ?_
   rintro e w5 ⟨rfl, K5, k5, h5, r5⟩
   have R5 := hide r5
   clear r5
   go_wp2
   go_ret
   exact HF.out _ _ K5 h5 R5.out
  ·have hpv : (none : Option (J × Bs)) = pVal true (6 - D) (rest s k) := by
    rw [show 6 - D = 0 by omega, pVal, HP.out.2]
    simp
   have HPV := hide hpv
   clear hpv
   go_wp2_with fail
   refine (robj_bad h3 ((D : Int) + 1) (Or.inr (by omega))).mono ?_
   intro e w4 hq
   obtain ⟨b, rfl, k4, bad4, h4, hf⟩ := FIN.out _ _ _ HPV.out hq
   have HF := hide hf
   clear hf hq
   go_wp2_with fail
   refine (rblanks_c h4).mono ?_
   rintro e w5 ⟨rfl, K5, k5, h5, r5⟩
   have R5 := hide r5
   clear r5
   go_wp2
   go_ret
   exact HF.out _ _ K5 h5 R5.out
 have n110 := u8n e110
 have n116 := u8n e116
 have n102 := u8n e102
 have n34 := u8n e34
 have n91 := u8n e91
 have n123 := u8n e123
 simp only [UInt8.reduceToNat, Int.cast_ofNat_Int] at n110 n116 n102 n34 n91 n123
 have hnum : ∀ (w0 : World), Rs W w0 rb s k1 false → Calls Tryz.prog 129 #[.pointer (some ⟨rb, 0, none⟩)] w0 fun e w' => NmR W w0 rb s (pNum (rest s k1)) e w' := by
  intro w0 hr0
  by_cases h45 : c = 45
  ·obtain ⟨t, ht⟩ := nxt_eq (HC.out.trans h45) (by decide)
   rw [ht, ← numT_true]
   refine (rnum_minus hr0 t ht (k1 + 1) rfl).mono ?_
   intro e w' hq
   rw [(nxt_cons ht).2.2.1] at hq
   exact hq
  ·refine (rnum_plain k1 hr0 (by rw [HC.out]; exact h45)).mono ?_
   intro e w' hq
   cases hr : rest s k1 with
   | nil =>
    rw [hr] at hq
    exact hq
   | cons a l =>
    have ha : a ≠ 45 := by
     have := HC.out
     rw [hr] at this
     rw [show a = c from this]
     exact h45
    rw [hr, numT_false _ (by simpa using ha) (by simp)] at hq
    exact hq
 have hpn : pVal true (6 - D) (rest s k) = (pNum (rest s k1)).map fun x => (.num x.1, x.2) := by
  cases hr : rest s k1 with
  | nil =>
   rw [pVal_sknil true _ _ (by rw [← R1.out]; exact hr)]
   rfl
  | cons a l =>
   have ha : a = c := by
    have := HC.out
    rw [hr] at this
    exact this
   subst ha
   rw [pVal_scr (by rw [← R1.out]; exact hr) e123 e91, pSca, if_neg e34]
   by_cases hdg : a = 45 ∨ isDg a = true
   ·rw [if_pos hdg]
   ·rw [if_neg hdg, pWord_no]
    ·rw [pNum, if_neg (fun e => hdg (Or.inl e)), pNat, show dgs (a :: l) = [] from dgs_stop (by cases hh : isDg a with | false => rfl | true => exact absurd (Or.inr hh) hdg)]
     rfl
    ·intro r e; simp at e; exact e110 e.1
    ·intro r e; simp at e; exact e116 e.1
    ·intro r e; simp at e; exact e102 e.1
 have HN := hide (And.intro hnum hpn)
 clear hnum hpn
 clear e110 e116 e102 e34 e91 e123
 have S3 : Rs W (w2.alloc (vCells 35 0 [] (.slice none 0 0) (.slice none 0 0))) rb s k1 false := h2.keep (S := fun _ => False) ((Kp.refl _ _).alloc _) (by simp) (by simp)
 have I3 := heap_alloc_new w2 (vCells 35 0 [] (.slice none 0 0) (.slice none 0 0))
 go_wp2_with fail
 refine (HN.out.1 _ S3).mono ?_
 rintro e w4 ⟨v, rfl, K4, k4, bad4, h4, ho⟩
 have HO := hide ho
 clear ho
 have I4 : w4.heap[w2.heap.size]? = some (vCells 35 0 [] (.slice none 0 0) (.slice none 0 0)) := (K4.block _ (lt_heap I3) (by omega)).trans I3
 obtain ⟨v0, v1, v2, v3, v4, z0, z1, z2, z3, z4, hvb⟩ := vfacts I4
 have I5 : (w4.setCell ⟨w2.heap.size, 1, none⟩ (.int .i64 v)).heap[w2.heap.size]? = some (vCells 35 v [] (.slice none 0 0) (.slice none 0 0)) := vset (i := 1) I4 _
 have K4' : Kp (· = rb) w w4 := (K2.alloc _).trans K4
 go_wp2_with fail
 refine (rblanks_c (h4.keep (S := fun k => k = w2.heap.size) (Kp.setCell (p := ⟨w2.heap.size, 1, none⟩) (Kp.refl (fun k => k = w2.heap.size) w4) (fun _ => rfl) _) (fun i hi => by have := h2.old.size; omega) (by omega))).mono ?_
 rintro e w5 ⟨rfl, K5, k5, h5, r5⟩
 have R5 := hide r5
 clear r5
 go_wp2
 go_ret
 refine tr_fin (Kp.setCell (p := ⟨w2.heap.size, 1, none⟩) K4' (fun hlt => by exact absurd hlt (by show ¬ w2.heap.size < _; omega)) _) ?_ K5 h5 R5.out hrb
 have ho := HO.out
 rw [HN.out.2]
 cases hp : pNum (rest s k1) with
 | none => rw [hp] at ho; exact ho
 | some z =>
  obtain ⟨o, r⟩ := z
  rw [hp] at ho
  obtain ⟨q1, rfl, q3⟩ := ho
  exact ⟨q1, q3, .num _ (pNum_ok hp).1 ⟨hw2, lt_heap I5⟩ I5⟩
theorem vlC (W : World) : ∀ n D, D + n = 6 → VlC W D
 | 0, D, h => fun _ _ _ _ hr => rval_c D (by omega) (fun h' => absurd h' (by omega)) hr
 | n + 1, D, h => fun _ _ _ _ hr => rval_c D (by omega) (fun _ => vlC W n (D + 1) (by omega)) hr
end Go.Proofs.YtocligpfmfmihaaGreatDoor

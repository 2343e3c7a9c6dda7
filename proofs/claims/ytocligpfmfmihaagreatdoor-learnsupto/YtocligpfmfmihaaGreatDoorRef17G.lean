import Derived.Test.YtocligpfmfmihaaGreatDoorRef16
import Derived.Test.YtocligpfmfmihaaGreatDoorRd3G
namespace Go.Proofs.YtocligpfmfmihaaGreatDoor
open Go Go.RowKit Go.Maps
def TexC (w : World) (j : J) (b : Nat) : Prop := (cJ j).length ≤ 1000000000 → ∀ w', Kp (fun _ => False) w w' →
 Calls Tryz.prog 38 #[.pointer (some ⟨b, 0, none⟩)] w' fun e w'' => e = .returned (.string ⟨(cJ j).toArray⟩) ∧ Kp (fun _ => False) w' w''
theorem vkp {w w' : World} {b kind : Nat} {n : Int} {t : Bs} {K L : Value} (h : w.heap[b]? = some (vCells kind n t K L)) (hk : Kp (fun _ => False) w w') : w'.heap[b]? = some (vCells kind n t K L) := (hk.block b (lt_heap h) (by simp)).trans h
theorem joinC_upto (l : List Bs) (n : Nat) (x : Bs) (h : l[n]? = some x) : joinC (l.take (n + 1)) = if n = 0 then x else joinC (l.take n) ++ 44 :: x := by
 obtain ⟨hlt, he⟩ := List.getElem?_eq_some_iff.1 h
 rw [List.take_succ_eq_append_getElem hlt, he, joinC_snoc]
 by_cases h0 : n = 0
 ·subst h0; simp
 ·have : l.take n ≠ [] := by
   intro e
   have := congrArg List.length e
   rw [List.length_take, List.length_nil] at this
   omega
  rw [if_neg this, if_neg h0]
theorem joinC_le (l : List Bs) : ∀ n, (joinC (l.take n)).length ≤ (joinC l).length ∧ ∀ x ∈ l, x.length ≤ (joinC l).length := by
 intro n
 constructor
 ·induction l generalizing n with
  | nil => simp
  | cons a l ih =>
   cases n with
   | zero => simp [joinC]
   | succ n =>
    cases l with
    | nil => simp [joinC]
    | cons b l =>
     cases n with
     | zero => simp [joinC]
     | succ n =>
      have := ih (n + 1)
      simp only [List.take_succ_cons, joinC, List.length_append, List.length_cons] at this ⊢
      omega
 ·induction l with
  | nil => intro x hx; cases hx
  | cons a l ih =>
   intro x hx
   cases l with
   | nil =>
    simp at hx
    subst hx
    simp [joinC]
   | cons b l =>
    rcases List.mem_cons.1 hx with rfl | hx
    ·simp [joinC]
    ·have := ih x hx
     simp only [joinC, List.length_append, List.length_cons] at this ⊢
     omega
set_option maxRecDepth 20000 in
theorem rtext_sca {w : World} {b kind : Nat} {n : Int} {t : Bs} (h : w.heap[b]? = some (vCells kind n t (.slice none 0 0) (.slice none 0 0))) (j : J)
  (hj : (kind = 110 ∧ j = .null) ∨ (kind = 116 ∧ j = .bool true) ∨ (kind = 102 ∧ j = .bool false) ∨ (kind = 35 ∧ j = .num n ∧ n.natAbs ≤ 9007199254740991) ∨ (kind = 34 ∧ j = .str t)) : TexC w j b := by
 intro hlen w' hk
 have h' := vkp h hk
 obtain ⟨v0, v1, v2, v3, v4, z0, z1, z2, z3, z4, hvb⟩ := vfacts h'
 rcases hj with ⟨rfl, rfl⟩ | ⟨rfl, rfl⟩ | ⟨rfl, rfl⟩ | ⟨rfl, rfl, hn⟩ | ⟨rfl, rfl⟩
 ·go_enter Tryz.func38, Tryz.ntmps38
  go_wp2
  go_ret
  exact ⟨rfl, Kp.refl _ _⟩
 ·go_enter Tryz.func38, Tryz.ntmps38
  go_wp2
  go_ret
  exact ⟨rfl, Kp.refl _ _⟩
 ·go_enter Tryz.func38, Tryz.ntmps38
  go_wp2
  go_ret
  exact ⟨rfl, Kp.refl _ _⟩
 ·go_enter Tryz.func38, Tryz.ntmps38
  go_wp2_with fail
  refine (rdigits_c _ n hn).mono ?_
  rintro e w1 ⟨rfl, K1⟩
  go_wp2
  go_ret
  exact ⟨by rw [cJ]; rfl, K1⟩
 ·have hle : t.length ≤ 1000000000 := by
   rw [cJ, cStr] at hlen
   have : t.length ≤ (t.flatMap cB).length := by
    clear hlen h h' v2
    induction t with
    | nil => simp
    | cons c t ih =>
     have : 1 ≤ (cB c).length := by
      unfold cB
      repeat' split
      all_goals simp
     simp only [List.flatMap_cons, List.length_append, List.length_cons]
     omega
   simp only [List.length_cons, List.length_append, List.length_nil] at hlen
   omega
  go_enter Tryz.func38, Tryz.ntmps38
  go_wp2_with fail
  refine (rquoted_c _ ⟨t.toArray⟩ (by rw [mk_size2]; exact hle)).mono ?_
  rintro e w1 ⟨rfl, m, rfl⟩
  go_wp2
  go_ret
  exact ⟨by rw [cJ]; rfl, (Kp.refl _ _).drewN _⟩
end Go.Proofs.YtocligpfmfmihaaGreatDoor
namespace Go.Proofs.YtocligpfmfmihaaGreatDoor
open Go Go.RowKit Go.Maps
theorem own_max {w : World} {B : Nat} {e : TypeId} {v : Value} {n : Nat} {xs : List Value} (h : w.ownsRow B e 1 v n xs) : n ≤ 9223372036854775807 := by
 obtain ⟨_, ⟨_, rfl⟩ | ⟨g, cap, cur, _, _, _, h3, h4, _⟩⟩ := h
 ·omega
 ·unfold maxLen at h4; omega
theorem wrap_str (a : UInt8) (o : Bs) (c : UInt8) : (⟨#[a]⟩ : ByteArray) ++ ⟨o.toArray⟩ ++ ⟨#[c]⟩ = ⟨(a :: (o ++ [c])).toArray⟩ := by
 apply ByteArray.ext
 simp
set_option maxRecDepth 20000 in
set_option maxHeartbeats 2000000 in
theorem rtext_arr {w : World} {b : Nat} (x : List (J × Nat)) (L : Value) (h : w.heap[b]? = some (vCells 91 0 [] (.slice none 0 0) L))
  (hL : w.ownsRow 0 66 1 L x.length (x.map fun p => ptr p.2)) (ih : ∀ j c, (j, c) ∈ x → TexC w j c) : TexC w (.arr (x.map (·.1))) b := by
 intro hlen w' hk
 rw [cJ_arr, List.map_map] at hlen ⊢
 generalize hM : x.map (cJ ∘ fun x => x.1) = M at *
 have hMl : M.length = x.length := by rw [← hM]; simp
 simp only [List.length_cons, List.length_append, List.length_nil] at hlen
 have h' := vkp h hk
 have hL' := ownsRow_kp hL hk (by simp)
 obtain ⟨v0, v1, v2, v3, v4, z0, z1, z2, z3, z4, hvb⟩ := vfacts h'
 cases x with
 | nil =>
  obtain ⟨a, c, rfl⟩ := own_slice hL
  have hM0 : M = [] := List.eq_nil_of_length_eq_zero hMl
  subst hM0
  clear hM hMl
  go_enter Tryz.func38, Tryz.ntmps38
  go_wp2_with fail
  refine (rorder_c _ [] 0 (.slice none 0 0) (World.ownsRow_nil _ _ _ _) (by simp)).mono ?_
  rintro e w1 ⟨v, rfl, K1, r1⟩
  obtain ⟨oa, oc, rfl⟩ := own_slice r1
  clear v0 v1 v2 v3 v4 z0 z1 z2 z3 z4 hvb
  obtain ⟨v0, v1, v2, v3, v4, z0, z1, z2, z3, z4, hvb⟩ := vfacts (vkp h' K1)
  go_wp2_with fail
  go_loopg [3, 5] 1 (fun g a bb wr => g = 1 ∧ a = .string ⟨#[]⟩ ∧ bb = .int .i64 0 ∧ wr = w1)
  case atStart => exact ⟨rfl, rfl, rfl, rfl⟩
  case round =>
   obtain ⟨rfl, rfl, rfl, rfl⟩ := hrel
   go_wp2
   go_ret
   exact ⟨rfl, K1⟩
 | cons x0 xs =>
  obtain ⟨g, cap, rfl⟩ := own_shape (n := xs.length) (by simpa using hL')
  generalize hxx : x0 :: xs = x at *
  have hln : xs.length + 1 = x.length := by rw [← hxx]; rfl
  rw [hln] at v4 hL' h' h
  have hgL := (hL'.lt g rfl).2
  have hxm := own_max hL'
  have hmem : ∀ i p, x[i]? = some p → p ∈ x := fun i p hp => List.mem_of_getElem? hp
  have CL := hide (And.intro (own_cell hL') (And.intro hM (And.intro hmem ih)))
  clear hxx hln hL hL' hM hmem ih
  go_enter Tryz.func38, Tryz.ntmps38
  go_wp2_with fail
  refine (rorder_c _ [] 0 (.slice none 0 0) (World.ownsRow_nil _ _ _ _) (by simp)).mono ?_
  rintro e w1 ⟨v, rfl, K1, r1⟩
  obtain ⟨oa, oc, rfl⟩ := own_slice r1
  clear v0 v1 v2 v3 v4 z0 z1 z2 z3 z4 hvb r1
  go_wp2_with fail
  go_loopg [3, 5] x.length (fun gg a bb wr => ∃ i : Nat, gg = x.length - i ∧ i ≤ x.length ∧ bb = .int .i64 (i : Int) ∧ a = .string ⟨(joinC (M.take i)).toArray⟩ ∧ Kp (fun _ => False) w' wr)
  case atStart => exact ⟨0, rfl, by omega, rfl, rfl, K1⟩
  case round =>
   obtain ⟨i, hg, hi, rfl, rfl, K2⟩ := hrel
   have HG := hide hg
   clear hg
   obtain ⟨v0, v1, v2, v3, v4, z0, z1, z2, z3, z4, hvb⟩ := vfacts (vkp h' K2)
   have hjl := (joinC_le M i).1
   have hos := mk_size2 (joinC (M.take i))
   by_cases hlt : i < x.length
   ·have hlt' : (i : Int) < (x.length : Int) := by omega
    obtain ⟨p, hp⟩ : ∃ p, x[i]? = some p := ⟨x[i], List.getElem?_eq_getElem hlt⟩
    have cl : wr.cell? ⟨g, i, none⟩ = some (ptr p.2) := by
     rw [K2.cell (p := ⟨g, i, none⟩) hgL (by simp)]
     exact CL.out.1 i _ (by rw [List.getElem?_map, hp]; rfl)
    unfold ptr at cl
    have hMi : M[i]? = some (cJ p.1) := by rw [← CL.out.2.1, List.getElem?_map, hp]; rfl
    have hpl := (joinC_le M i).2 _ (List.mem_of_getElem? hMi)
    have hnext := joinC_upto M i _ hMi
    have hpm := CL.out.2.2.1 i p hp
    have hcall := CL.out.2.2.2 p.1 p.2 hpm (by omega) wr (hk.trans K2)
    have hps := mk_size2 (cJ p.1)
    have HC := hide (And.intro hcall hnext)
    clear hp hMi hpm hcall hnext
    by_cases h0 : i = 0
    ·have h0' : ¬ (0 : Int) < (i : Int) := by omega
     have H0 := hide h0
     clear h0
     go_wp2_with fail
     refine HC.out.1.mono ?_
     rintro e w3 ⟨rfl, K3⟩
     go_wp2
     go_roundg (x.length - (i + 1))
     case measure => rw [HG.out]; omega
     case rel =>
      refine ⟨i + 1, rfl, by omega, int_i64 (by omega), ?_, K2.trans K3⟩
      rw [HC.out.2, if_pos H0.out, cat_str2, H0.out]
      simp [joinC]
    ·have h0' : (0 : Int) < (i : Int) := by omega
     go_wp2_with fail
     refine HC.out.1.mono ?_
     rintro e w3 ⟨rfl, K3⟩
     go_wp2
     go_roundg (x.length - (i + 1))
     case measure => rw [HG.out]; omega
     case rel =>
      refine ⟨i + 1, rfl, by omega, int_i64 (by omega), ?_, K2.trans K3⟩
      rw [HC.out.2, if_neg h0, cat_str2, cat_str2]
      simp
   ·have hlt' : ¬ (i : Int) < (x.length : Int) := by omega
    have hMt : M.take i = M := List.take_of_length_le (by omega)
    rw [hMt]
    rw [hMt] at hos
    go_wp2
    go_ret
    exact ⟨by rw [wrap_str]; rfl, K2⟩
end Go.Proofs.YtocligpfmfmihaaGreatDoor
namespace Go.Proofs.YtocligpfmfmihaaGreatDoor
open Go Go.RowKit Go.Maps
theorem cStr_geq (t : Bs) : t.length ≤ (cStr t).length := by
 unfold cStr
 have : t.length ≤ (t.flatMap cB).length := by
  induction t with
  | nil => simp
  | cons c t ih =>
   have : 1 ≤ (cB c).length := by
    unfold cB
    repeat' split
    all_goals simp
   simp only [List.flatMap_cons, List.length_append, List.length_cons]
   omega
 simp only [List.length_cons, List.length_append, List.length_nil]
 omega
theorem joinC_cnt : ∀ l : List Bs, l.length ≤ (joinC l).length + 1
 | [] => by simp
 | [x] => by simp
 | x :: y :: l => by
  have := joinC_cnt (y :: l)
  simp only [joinC, List.length_append, List.length_cons] at this ⊢
  omega
theorem ofL_len (m : List (Bs × J)) (h : Nod m) : (ofL m).length = m.length := by
 have := congrArg List.length (ordIx_ofL m h m.length (Nat.le_refl _))
 rw [List.length_map, List.length_map, ordIx_len, List.take_length] at this
 exact this.symm
set_option maxRecDepth 20000 in
set_option maxHeartbeats 2000000 in
theorem rtext_obj {w : World} {b : Nat} (x : List (Bs × J × Nat)) (K L : Value) (h : w.heap[b]? = some (vCells 123 0 [] K L))
  (hK : w.ownsRow 0 9 1 K x.length (x.map fun p => .string ⟨p.1.toArray⟩)) (hL : w.ownsRow 0 66 1 L x.length (x.map fun p => ptr p.2.2))
  (hN : Nod (x.map fun p => (p.1, p.2.1))) (ih : ∀ a j c, (a, j, c) ∈ x → TexC w j c) : TexC w (.obj (ofL (x.map fun p => (p.1, p.2.1)))) b := by
 intro hlen w' hk
 rw [cJ_obj] at hlen ⊢
 have hMl : ((ofL (x.map fun p => (p.1, p.2.1))).map cMem).length = x.length := by rw [List.length_map, ofL_len _ hN, List.length_map]
 have hix := ordIx_ofL _ hN x.length (by simp)
 rw [List.take_of_length_le (by simp), List.map_map, show ((fun x => x.1) ∘ fun p : Bs × J × Nat => (p.1, p.2.1)) = fun p => p.1 from rfl] at hix
 simp only [List.length_cons, List.length_append, List.length_nil] at hlen
 have hcnt := joinC_cnt ((ofL (x.map fun p => (p.1, p.2.1))).map cMem)
 have hmi : ∀ (i : Nat) (kk : Nat), (ordIx (x.map fun p => p.1) x.length)[i]? = some kk → kk < x.length ∧ ∃ p, x[kk]? = some p ∧ ((ofL (x.map fun p => (p.1, p.2.1))).map cMem)[i]? = some (cMem (p.1, p.2.1)) := by
  intro i kk hi
  have hlt : kk < x.length := ordIx_lt _ _ kk (List.mem_of_getElem? hi)
  refine ⟨hlt, x[kk], List.getElem?_eq_getElem hlt, ?_⟩
  have h1 := congrArg (fun l => l[i]?) hix
  simp only [List.getElem?_map, hi, Option.map_some] at h1
  rw [List.getElem?_eq_getElem hlt] at h1
  simp only [Option.map_some] at h1
  rw [List.getElem?_map]
  cases ho : (ofL (x.map fun p => (p.1, p.2.1)))[i]? with
  | none => rw [ho] at h1; cases h1
  | some q =>
   rw [ho] at h1
   simp only [Option.map_some, Option.some.injEq] at h1
   rw [← h1]
   rfl
 generalize hM : (ofL (x.map fun p => (p.1, p.2.1))).map cMem = M at *
 clear hM hix
 have h' := vkp h hk
 have hK' := ownsRow_kp hK hk (by simp)
 have hL' := ownsRow_kp hL hk (by simp)
 obtain ⟨v0, v1, v2, v3, v4, z0, z1, z2, z3, z4, hvb⟩ := vfacts h'
 cases x with
 | nil =>
  obtain ⟨a, c, rfl⟩ := own_slice hL
  obtain ⟨a2, c2, rfl⟩ := own_slice hK
  have hM0 : M = [] := List.eq_nil_of_length_eq_zero hMl
  subst hM0
  clear hMl hmi
  go_enter Tryz.func38, Tryz.ntmps38
  go_wp2_with fail
  refine (rorder_c _ [] 0 _ hK' (by simp)).mono ?_
  rintro e w1 ⟨v, rfl, K1, r1⟩
  obtain ⟨oa, oc, rfl⟩ := own_slice r1
  clear v0 v1 v2 v3 v4 z0 z1 z2 z3 z4 hvb
  obtain ⟨v0, v1, v2, v3, v4, z0, z1, z2, z3, z4, hvb⟩ := vfacts (vkp h' K1)
  go_wp2_with fail
  go_loopg [3, 5] 1 (fun g a bb wr => g = 1 ∧ a = .string ⟨#[]⟩ ∧ bb = .int .i64 0 ∧ wr = w1)
  case atStart => exact ⟨rfl, rfl, rfl, rfl⟩
  case round =>
   obtain ⟨rfl, rfl, rfl, rfl⟩ := hrel
   go_wp2
   go_ret
   exact ⟨rfl, K1⟩
 | cons x0 xs =>
  obtain ⟨g, cap, rfl⟩ := own_shape (n := xs.length) (by simpa using hL')
  obtain ⟨kb, kcap, rfl⟩ := own_shape (n := xs.length) (by simpa using hK')
  generalize hxx : x0 :: xs = x at *
  have hln : xs.length + 1 = x.length := by rw [← hxx]; rfl
  rw [hln] at v3 v4 hL' hK' h' h
  have hgL := (hL'.lt g rfl).2
  have hgK := (hK'.lt kb rfl).2
  have hpos : 0 < x.length := by omega
  have hord := rorder_c w' (x.map fun p => p.1) 0 (.slice (some ⟨kb, 0, none⟩) x.length kcap) (by simpa [List.map_map, Function.comp_def] using hK') (by simp; omega)
  have CL := hide (And.intro (own_cell hL') (And.intro (own_cell hK') (And.intro hmi ih)))
  have HO := hide hord
  clear hxx hln hL hL' hK hK' hmi ih hord
  go_enter Tryz.func38, Tryz.ntmps38
  go_wp2_with fail
  refine HO.out.mono ?_
  rintro e w1 ⟨v, rfl, K1, r1⟩
  rw [List.length_map] at r1
  obtain ⟨og, ocap, rfl⟩ : ∃ og oc, v = .slice (some ⟨og, 0, none⟩) x.length oc := by
   obtain ⟨n', hn'⟩ : ∃ n', x.length = n' + 1 := ⟨x.length - 1, by omega⟩
   rw [hn'] at r1 ⊢
   exact own_shape r1
  have hog := (r1.lt og rfl).2
  have CO := hide (own_cell r1)
  have hil := ordIx_len (x.map fun p => p.1) x.length
  clear v0 v1 v2 v3 v4 z0 z1 z2 z3 z4 hvb r1 HO
  go_wp2_with fail
  go_loopg [3, 5] x.length (fun gg a bb wr => ∃ i : Nat, gg = x.length - i ∧ i ≤ x.length ∧ bb = .int .i64 (i : Int) ∧ a = .string ⟨(joinC (M.take i)).toArray⟩ ∧ Kp (fun _ => False) w1 wr)
  case atStart => exact ⟨0, rfl, by omega, rfl, rfl, Kp.refl _ _⟩
  case round =>
   obtain ⟨i, hg, hi, rfl, rfl, K2⟩ := hrel
   have HG := hide hg
   clear hg
   have K12 := K1.trans K2
   obtain ⟨v0, v1, v2, v3, v4, z0, z1, z2, z3, z4, hvb⟩ := vfacts (vkp h' K12)
   have hjl := (joinC_le M i).1
   have hos := mk_size2 (joinC (M.take i))
   by_cases hlt : i < x.length
   ·have hlt' : (i : Int) < (x.length : Int) := by omega
    obtain ⟨kk, hkk⟩ : ∃ kk, (ordIx (x.map fun p => p.1) x.length)[i]? = some kk := ⟨_, List.getElem?_eq_getElem (by omega)⟩
    obtain ⟨hkl, p, hp, hMi⟩ := CL.out.2.2.1 i kk hkk
    have co : wr.cell? ⟨og, i, none⟩ = some (.int .i64 (kk : Int)) := by
     rw [K2.cell (p := ⟨og, i, none⟩) hog (by simp)]
     exact CO.out i _ (by rw [List.getElem?_map, hkk]; rfl)
    have ck : wr.cell? ⟨kb, kk, none⟩ = some (.string ⟨p.1.toArray⟩) := by
     rw [K12.cell (p := ⟨kb, kk, none⟩) hgK (by simp)]
     exact CL.out.2.1 kk _ (by rw [List.getElem?_map, hp]; rfl)
    have cl : wr.cell? ⟨g, kk, none⟩ = some (.pointer (some ⟨p.2.2, 0, none⟩)) := by
     rw [K12.cell (p := ⟨g, kk, none⟩) hgL (by simp)]
     exact CL.out.1 kk _ (by rw [List.getElem?_map, hp]; rfl)
    have hpl := (joinC_le M i).2 _ (List.mem_of_getElem? hMi)
    have hnext := joinC_upto M i _ hMi
    simp only [cMem, List.length_append, List.length_cons] at hpl
    have hsl := cStr_geq p.1
    have hcall : ∀ n, Calls Tryz.prog 38 #[.pointer (some ⟨p.2.2, 0, none⟩)] (wr.drewN n) fun e w'' => e = .returned (.string ⟨(cJ p.2.1).toArray⟩) ∧ Kp (fun _ => False) (wr.drewN n) w'' :=
     fun n => CL.out.2.2.2 p.1 p.2.1 p.2.2 (List.mem_of_getElem? hp) (by omega) (wr.drewN n) ((hk.trans K12).drewN n)
    have hps := mk_size2 (cJ p.2.1)
    have hcs := mk_size2 (cStr p.1)
    have hkl' : (kk : Int) < (x.length : Int) := by omega
    have HC := hide (And.intro hcall hnext)
    clear hp hMi hcall hnext hkk
    have hqs := mk_size2 p.1
    by_cases h0 : i = 0
    ·have h0' : ¬ (0 : Int) < (i : Int) := by omega
     have H0 := hide h0
     clear h0
     go_wp2_with fail
     refine (rquoted_c wr ⟨p.1.toArray⟩ (by rw [hqs]; omega)).mono ?_
     rintro e w3 ⟨rfl, n, rfl⟩
     go_wp2_with fail
     refine (HC.out.1 n).mono ?_
     rintro e w4 ⟨rfl, K4⟩
     go_wp2
     go_roundg (x.length - (i + 1))
     case measure => rw [HG.out]; omega
     case rel =>
      refine ⟨i + 1, rfl, by omega, int_i64 (by omega), ?_, (K2.drewN n).trans K4⟩
      rw [HC.out.2, if_pos H0.out, cat_str2, cat_str2, cat_str2, H0.out]
      simp [joinC, cMem]
    ·have h0' : (0 : Int) < (i : Int) := by omega
     have H0 := hide h0
     clear h0
     go_wp2_with fail
     refine (rquoted_c wr ⟨p.1.toArray⟩ (by rw [hqs]; omega)).mono ?_
     rintro e w3 ⟨rfl, n, rfl⟩
     go_wp2_with fail
     refine (HC.out.1 n).mono ?_
     rintro e w4 ⟨rfl, K4⟩
     go_wp2
     go_roundg (x.length - (i + 1))
     case measure => rw [HG.out]; omega
     case rel =>
      refine ⟨i + 1, rfl, by omega, int_i64 (by omega), ?_, (K2.drewN n).trans K4⟩
      rw [HC.out.2, if_neg H0.out, cat_str2, cat_str2, cat_str2, cat_str2]
      simp [cMem]
   ·have hlt' : ¬ (i : Int) < (x.length : Int) := by omega
    have hMt : M.take i = M := List.take_of_length_le (by omega)
    rw [hMt]
    rw [hMt] at hos
    go_wp2
    go_ret
    exact ⟨by rw [wrap_str]; rfl, K12⟩
theorem rtextJ {w : World} {F : Nat → Prop} {j : J} {b : Nat} (h : RR w F j b) : TexC w j b := by
 induction h with
 | null hF h => exact rtext_sca h _ (Or.inl ⟨rfl, rfl⟩)
 | tt hF h => exact rtext_sca h _ (Or.inr (Or.inl ⟨rfl, rfl⟩))
 | ff hF h => exact rtext_sca h _ (Or.inr (Or.inr (Or.inl ⟨rfl, rfl⟩)))
 | num n hn hF h => exact rtext_sca h _ (Or.inr (Or.inr (Or.inr (Or.inl ⟨rfl, rfl, hn⟩))))
 | str t hF h => exact rtext_sca h _ (Or.inr (Or.inr (Or.inr (Or.inr ⟨rfl, rfl⟩))))
 | arr x L hF h hL hG hx ih => exact rtext_arr x L h hL ih
 | obj x K L hF h hK hL hG hH hN hx ih => exact rtext_obj x K L h hK hL hN ih
end Go.Proofs.YtocligpfmfmihaaGreatDoor
namespace Go.Proofs.YtocligpfmfmihaaGreatDoor
open Go Go.RowKit
theorem ext_len {s : ByteArray} {a b : Nat} (h : b ≤ s.size) : (s.extract a b).data.toList.length = b - a := by
 rw [Lib.extract_data]
 simp
 omega
theorem drop_of_dgs {l : Bs} (h : dgs l = []) : l.dropWhile isDg = l := by
 have := List.takeWhile_append_dropWhile (p := isDg) (l := l)
 unfold dgs at h
 rw [h] at this
 simpa using this
theorem ext_head {s : ByteArray} {a b : Nat} (h : a < b) (hb : b ≤ s.size) : ∃ t, (s.extract a b).data.toList = nxt (rest s a) :: t ∧ t.length + 1 = b - a := by
 have h1 := take_rest (s := s) (Nat.le_of_lt h)
 have h2 := ext_len (a := a) hb
 generalize (s.extract a b).data.toList = D at *
 cases D with
 | nil => simp at h2; omega
 | cons c t =>
  refine ⟨t, ?_, by simpa using h2⟩
  rw [h1]
  rfl
theorem num_none {m : Bool} {s : ByteArray} {k1 k' : Nat} (hk : k1 ≤ k') (hb : k' ≤ s.size) (hD : ∀ c ∈ (s.extract k1 k').data.toList, isDg c = true)
  (hbad : maxNum < natOf (s.extract k1 k').data.toList ∨ (k1 + 1 < k' ∧ nxt (rest s k1) = 48)) : numT m (rest s k1) = none := by
 have e := (dgs_split (take_rest (s := s) hk) hD).1
 unfold numT
 rw [if_neg]
 rintro ⟨h1, h2⟩
 rw [e] at h1 h2
 rcases hbad with h | ⟨h, h0⟩
 ·have := natOf_mono (s.extract k1 k').data.toList (dgs (rest s k'))
  omega
 ·obtain ⟨t, ht, hl⟩ := ext_head (s := s) (show k1 < k' by omega) hb
  rw [ht, h0] at h1
  have hne : (48 :: t) ++ dgs (rest s k') ≠ [48] := by
   cases t with
   | nil => simp at hl; omega
   | cons a t => simp
  unfold wholeB at h1
  rw [if_neg (by simpa using hne)] at h1
  simp at h1
theorem num_end {m : Bool} {s : ByteArray} {k1 k' : Nat} (hk : k1 ≤ k') (hb : k' ≤ s.size) (hD : ∀ c ∈ (s.extract k1 k').data.toList, isDg c = true) (hstop : dgs (rest s k') = [])
  (hn : natOf (s.extract k1 k').data.toList ≤ maxNum) (hz : k' ≤ k1 + 1 ∨ nxt (rest s k1) ≠ 48) :
  numT m (rest s k1) = if k' = k1 ∨ (m = true ∧ natOf (s.extract k1 k').data.toList = 0) then none else some ((if m then -(natOf (s.extract k1 k').data.toList : Int) else natOf (s.extract k1 k').data.toList), rest s k') := by
 obtain ⟨e1, e2⟩ := dgs_split (take_rest (s := s) hk) hD
 rw [hstop, List.append_nil] at e1
 rw [drop_of_dgs hstop] at e2
 unfold numT
 rw [e1, e2]
 rcases Nat.eq_or_lt_of_le hk with rfl | hlt
 ·have e0 : (s.extract k1 k1).data.toList = [] := by rw [Lib.extract_data]; simp
  rw [e0, if_pos (Or.inl rfl), if_neg]
  rintro ⟨h, _⟩
  simp [wholeB] at h
 ·obtain ⟨t, ht, hl⟩ := ext_head (s := s) hlt hb
  have hw : whole (s.extract k1 k').data.toList = true := by
   rw [ht]
   unfold whole
   rcases hz with hz | hz
   ·have : t = [] := List.eq_nil_of_length_eq_zero (by omega)
    subst this
    by_cases h : nxt (rest s k1) = 48 <;> simp [h]
   ·simp [hz]
  have hp := natOf_pos hD hw
  generalize (s.extract k1 k').data.toList = D at *
  cases m with
  | false =>
   have hno : ¬ (k' = k1 ∨ (false = true ∧ natOf D = 0)) := by
    rintro (h | ⟨h, _⟩)
    ·omega
    ·cases h
   rw [wholeB_false, hw, if_pos ⟨rfl, hn⟩, if_neg hno]
  | true =>
   rw [wholeB_true, hw]
   by_cases h0 : natOf D = 0
   ·have h1 : k' = k1 ∨ (true = true ∧ natOf D = 0) := Or.inr ⟨rfl, h0⟩
    rw [if_pos h1, if_neg]
    rintro ⟨h, _⟩
    simp [hp.1 h0] at h
   ·have hno : ¬ (k' = k1 ∨ (true = true ∧ natOf D = 0)) := by
     rintro (h | ⟨_, h⟩)
     ·omega
     ·exact h0 h
    have hyes : (true && !(D == [48])) = true ∧ natOf D ≤ maxNum := ⟨by simp [mt hp.2 h0], hn⟩
    rw [if_neg hno, if_pos hyes]
end Go.Proofs.YtocligpfmfmihaaGreatDoor

import Derived.Test.YtocligpfmfmihaaGreatDoorObj2
import Derived.Test.YtocligpfmfmihaaGreatDoorJsonG
namespace Go.Proofs.YtocligpfmfmihaaGreatDoor
open Go Go.RowKit Go.Maps Go.WideMaps

mutual
theorem cnt_le : ∀ (j : J), cnt j ≤ (cJ j).length
  | .null => by simp [cnt]
  | .bool _ => by simp [cnt]
  | .num _ => by simp [cnt]
  | .str _ => by simp [cnt]
  | .arr l => by
    have h := cnts_le l
    rw [cnt, cJ, cJs_map]
    simp only [List.length_cons, List.length_append, List.length_nil]
    omega
  | .obj l => by
    have h := cntm_le l
    rw [cnt, cJ_obj]
    simp only [List.length_cons, List.length_append, List.length_nil]
    omega
theorem cnts_le : ∀ (l : List J), cnts l ≤ (joinC (l.map cJ)).length + 1
  | [] => by simp [cnts]
  | [x] => by
    have h := cnt_le x
    simp only [cnts, List.map_cons, List.map_nil, joinC]
    omega
  | x :: y :: l => by
    have h := cnt_le x
    have h2 := cnts_le (y :: l)
    rw [cnts]
    simp only [List.map_cons, joinC, List.length_append, List.length_cons] at h2 ⊢
    omega
theorem cntm_le : ∀ (l : List (Bs × J)), cntm l ≤ (joinC (l.map cMem)).length + 1
  | [] => by simp [cntm]
  | [(k, x)] => by
    have h := cnt_le x
    simp only [cntm, List.map_cons, List.map_nil, joinC, cMem, List.length_append, List.length_cons]
    omega
  | (k, x) :: y :: l => by
    have h := cnt_le x
    have h2 := cntm_le (y :: l)
    rw [cntm]
    simp only [List.map_cons, joinC, List.length_append, List.length_cons, cMem] at h2 ⊢
    omega
end

/-- appendValue, at every value of this kind. -/
theorem app_all (W : World) (hG : GL W) : ∀ (d : Nat) (j : J), WF d j → cnt j ≤ 1000000 → AppC W j
  | _, .null, _, _ => app_null W
  | _, .bool b, _, _ => app_bool W b
  | d, .num n, h, _ => app_num W hG n (by cases d <;> simpa [WF] using h)
  | _, .str s, _, _ => app_strv W s
  | d + 1, .arr l, h, hc => by
    rw [WF] at h
    rw [cnt] at hc
    exact app_arr W l (fun x hx => app_all W hG d x (WFs_mem d l x h hx) (by have := (cnts_ge l).2 x hx; omega))
  | d + 1, .obj l, h, hc => by
    rw [WF] at h
    rw [cnt] at hc
    refine app_obj W l (appendObject_c W l (fun p hp => app_all W hG d p.2 (WFm_mem' d l p h.2 hp) (by have := (cntm_ge l).2 p hp; omega)) h.1 ?_)
    have := (cntm_ge l).1
    omega
  | 0, .arr _, h, _ => by simp [WF] at h
  | 0, .obj _, h, _ => by simp [WF] at h

theorem nil_row (B : Nat) (w : World) : Row B w (.slice none 0 0) [] := ⟨rfl, Or.inl ⟨rfl, rfl⟩⟩
/-- value.Canon. -/
theorem vcanon_c (W : World) (hG : GL W) (d : Nat) (j : J) (hj : WF d j) (hc : cnt j ≤ 1000000) (hlen : (cnt j + 1) * ((cJ j).length + 2) ≤ 139000000000000) (F : Nat → Prop) (v : Value) (w : World) (hW : Below W.heap.size W w) (hr : Rep w F j v) :
    Calls Tryz.prog 36 #[v] w fun e w' => e = .returned (.string ⟨(cJ j).toArray⟩) ∧ Wr w.heap.size w w' := by
  obtain ⟨tt, u, rfl⟩ := Rep.iface hr
  go_enter Tryz.func36, Tryz.ntmps36
  go_wp2_with fail
  refine (app_all W hG d j hj hc w.heap.size w (.slice none 0 0) [] F (.iface tt u) (cJ j).length hW hW.size (nil_row _ _) (Nat.le_refl _) hr (Nat.le_refl _) (by simpa using hlen)).mono ?_
  rintro e w2 ⟨v', rfl, z1, z2⟩
  have hconv := own_string z1
  clear z1
  simp only [List.nil_append] at hconv
  have HZ := hide z2
  clear z2
  go_wp2
  go_ret
  exact ⟨rfl, HZ.out⟩
end Go.Proofs.YtocligpfmfmihaaGreatDoor

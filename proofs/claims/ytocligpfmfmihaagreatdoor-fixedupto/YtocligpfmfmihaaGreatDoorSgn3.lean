import Derived.Test.YtocligpfmfmihaaGreatDoorSgn2
namespace Go.Proofs.YtocligpfmfmihaaGreatDoor
open Go Go.RowKit Go.Maps Go.WideMaps

/-- The members' lengths, with a comma each. -/
def tot : List (Bs × J) → Nat
  | [] => 0
  | p :: l => (cMem p).length + 1 + tot l
theorem tot_join : ∀ (l : List (Bs × J)), (joinC (l.map cMem)).length ≤ tot l ∧ tot l ≤ (joinC (l.map cMem)).length + 1
  | [] => by simp [tot, joinC]
  | [p] => by simp only [tot, List.map_cons, List.map_nil, joinC]; omega
  | p :: q :: l => by
    have h := tot_join (q :: l)
    simp only [tot, List.map_cons, joinC, List.length_append, List.length_cons] at h ⊢
    omega
theorem tot_ins (k : Bs) (x : J) : ∀ (l : List (Bs × J)), tot (insK k x l) ≤ tot l + (cMem (k, x)).length + 1
  | [] => by simp only [insK, tot]; omega
  | (a, y) :: l => by
    have ih := tot_ins k x l
    rw [insK]
    split
    · simp only [tot]; omega
    · split
      · simp only [tot]; omega
      · simp only [tot]; omega
theorem cJ_tot (l : List (Bs × J)) : (cJ (.obj l)).length ≤ tot l + 2 ∧ tot l ≤ (cJ (.obj l)).length := by
  have h := tot_join l
  rw [cJ_obj]
  simp only [List.length_cons, List.length_append, List.length_nil]
  omega
theorem tot_del (k : Bs) : ∀ (l : List (Bs × J)), tot (delK k l) ≤ tot l
  | [] => by simp [delK, tot]
  | (a, y) :: l => by
    have ih := tot_del k l
    unfold delK at ih ⊢
    by_cases e : a = k
    · simp only [e, decide_true, Bool.not_true, Bool.false_eq_true, not_false_iff, List.filter_cons_of_neg, tot]
      omega
    · simp only [e, decide_false, Bool.not_false, List.filter_cons_of_pos, tot]
      omega
theorem tot_child (k : Bs) (l : List (Bs × J)) : tot (childF k l) ≤ tot l := by
  unfold childF
  split
  · rename_i m hm
    have h1 := lookK_mem hm
    have h2 : ∀ (l : List (Bs × J)) (p : Bs × J), p ∈ l → (cMem p).length ≤ tot l := by
      intro l
      induction l with
      | nil => intro p hp; cases hp
      | cons q l ih =>
        intro p hp
        rw [tot]
        rcases List.mem_cons.1 hp with rfl | hp
        · omega
        · have := ih p hp; omega
    have h3 := h2 l _ h1
    have h4 := (cJ_tot m).2
    simp only [cMem, List.length_append, List.length_cons] at h3
    omega
  · simp [tot]
theorem cntm_ins (k : Bs) (x : J) : ∀ (l : List (Bs × J)), cntm (insK k x l) ≤ cntm l + 1 + cnt x
  | [] => by simp only [insK, cntm]; omega
  | (a, y) :: l => by
    have ih := cntm_ins k x l
    rw [insK]
    split
    · simp only [cntm]; omega
    · split
      · simp only [cntm]; omega
      · simp only [cntm]; omega
theorem cB_le (c : UInt8) : (cB c).length ≤ 6 := by
  unfold cB
  repeat' split
  all_goals simp
theorem cStr_le (s : Bs) : (cStr s).length ≤ 6 * s.length + 2 := by
  have h : ∀ (l : Bs), (l.flatMap cB).length ≤ 6 * l.length := by
    intro l
    induction l with
    | nil => simp
    | cons c l ih =>
      have := cB_le c
      simp only [List.flatMap_cons, List.length_append, List.length_cons]
      omega
  have := h s
  simp only [cStr, List.length_cons, List.length_append, List.length_nil]
  omega

theorem object_ok {s : Bs} {l : List (Bs × J)} (h : objectF s = .ok l) : parse s = some (.obj l) ∧ s.length ≤ 600 := by
  unfold objectF valueF at h
  by_cases hl : 600 < s.length
  · rw [if_pos hl] at h
    cases h
  · rw [if_neg hl] at h
    cases hp : parse s with
    | none => rw [hp] at h; cases h
    | some j =>
      rw [hp] at h
      cases j with
      | obj m => simp at h; subst h; exact ⟨rfl, by omega⟩
      | null => cases h
      | bool _ => cases h
      | num _ => cases h
      | str _ => cases h
      | arr _ => cases h

set_option maxRecDepth 20000 in
theorem message_c (W : World) (hN : NG W) (s : ByteArray) (w : World) (hW : Below W.heap.size W w) :
    Calls Tryz.prog 16 #[.string s] w fun e w' => AnsR w (messageF s.data.toList) e w' := by
  go_enter Tryz.func16, Tryz.ntmps16
  go_wp2_with fail
  refine (readObject_c W hN s w hW).mono ?_
  rintro e w' ⟨hk, ⟨l, b, hv, rfl, hr⟩ | ⟨n, ev, hv, rfl, he, tt, u, rfl⟩⟩
  · have hb := below_kp hW hk
    obtain ⟨hp, hl⟩ := object_ok hv
    have hok := parse_ok hp
    have hcl := cnt_le (.obj l)
    have c1 := cntm_del kSig l
    have c2 := cntm_del kUns (delK kSig l)
    have t1 := tot_del kSig l
    have t2 := tot_del kUns (delK kSig l)
    have t3 := (cJ_tot l).2
    have t4 := (cJ_tot (bareL l)).1
    have hcb : cnt (.obj (bareL l)) ≤ 600 := by
      simp only [cnt] at hcl ⊢
      show cntm (delK kUns (delK kSig l)) ≤ 600
      omega
    have hbl : (bareF l).length ≤ 602 := by
      show (cJ (.obj (bareL l))).length ≤ 602
      have : tot (bareL l) ≤ tot l := by show tot (delK kUns (delK kSig l)) ≤ tot l; omega
      omega
    have hm : (cnt (.obj (bareL l)) + 1) * ((bareF l).length + 2) ≤ 601 * 604 := Nat.mul_le_mul (by omega) (by omega)
    have H := hide (And.intro hr (And.intro (WF_delK 5 kUns _ (WF_delK 5 kSig l hok.1)) (And.intro hk hv)))
    have hcb' : cnt (.obj (bareL l)) ≤ 1000000 := by omega
    have hm' : (cnt (.obj (bareL l)) + 1) * ((bareF l).length + 2) ≤ 139000000000000 := by omega
    have HM := hide (And.intro hcb' hm')
    clear hr hok hp hv hk hcl c1 c2 t1 t2 t3 t4 hcb hbl hm hcb' hm'
    go_wp2_with fail
    refine (messageOf_c W hN w' hb _ l b H.out.1 (fun k hk => hk.2) H.out.2.1 HM.out.1 HM.out.2).mono ?_
    rintro e w2 ⟨rfl, hw⟩
    have HK := hide (H.out.2.2.1.trans hw)
    clear hw
    go_wp2
    go_ret2
    refine ⟨?_, HK.out⟩
    unfold messageF
    rw [H.out.2.2.2]
    rfl
  · have hb := below_kp hW hk
    have H := hide (And.intro he (And.intro hk hv))
    clear he hk hv
    go_wp2_with fail
    refine (errno_c W hN w' hb _ n H.out.1).mono ?_
    rintro e w2 ⟨rfl, hw⟩
    have HK := hide (H.out.2.1.trans hw)
    clear hw
    go_wp2
    go_ret2
    refine ⟨?_, HK.out⟩
    unfold messageF
    rw [H.out.2.2]
    rfl
end Go.Proofs.YtocligpfmfmihaaGreatDoor

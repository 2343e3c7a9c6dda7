import Derived.Test.YtocligpfmfmihabGreatDoorRea7G
import Derived.Test.YtocligpfmfmihabGreatDoorRows
namespace Go.Proofs.YtocligpfmfmihabGreatDoor
open Go Go.RowKit Go.Maps Go.WideMaps

/-- An object anywhere in the world. -/
def Oz (w : World) (l : List (Bs × J)) (b : Nat) : Prop := Ob w (fun j => j < w.heap.size) l (.map (some b))
theorem Oz.up {w w' : World} {l : List (Bs × J)} {b : Nat} (h : Oz w l b) (hk : Kp (fun _ => False) w w') : Oz w' l b :=
  Rep.mono (fun j hj => Nat.lt_of_lt_of_le hj hk.size) _ (Rep.frame (w := w) (fun j hj => hk.block j hj (by simp)) _ h)
theorem oz_child (w : World) (l : List (Bs × J)) (b : Nat) (k : Bs) (hk : k.length ≤ 139000000000000) (ho : Oz w l b) :
    Calls Tryz.prog 70 #[.map (some b), .string ⟨k.toArray⟩] w fun e w' => ∃ b2, e = .returned (.map (some b2)) ∧ Kp (fun _ => False) w w' ∧ Oz w' (childF k l) b2 := by
  refine (child_c w _ l b k hk ho).mono ?_
  rintro e w' ⟨b2, rfl, h1, h2⟩
  exact ⟨b2, rfl, h1, Rep.mono (fun j hj => by have := h1.size; rcases hj with h | h <;> omega) _ h2⟩
theorem oz_with (w : World) (l : List (Bs × J)) (b : Nat) (k : Bs) (x : J) (xv : Value) (hk : k.length ≤ 139000000000000) (hs : Srt l) (hl : l.length ≤ 1000000) (ho : Oz w l b) (hx : Rep w (fun j => j < w.heap.size) x xv) :
    Calls Tryz.prog 71 #[.map (some b), .string ⟨k.toArray⟩, xv] w fun e w' => e = .returned (.map (some w.heap.size)) ∧ Kp (fun _ => False) w w' ∧ Oz w' (insK k x l) w.heap.size := by
  refine (with_c w _ _ l b k x xv hk hs hl ho hx (fun _ h => h) (fun _ h => h)).mono ?_
  rintro e w' ⟨rfl, h1, h2⟩
  obtain ⟨b', m, e, _, h3, _⟩ := h2.shape
  cases e
  have := h3.lt
  exact ⟨rfl, h1, Rep.mono (fun j hj => by have := h1.size; rcases hj with h | h | h <;> omega) _ h2⟩
theorem oz_child' (w : World) (l : List (Bs × J)) (b : Nat) (s : ByteArray) (hk : s.size ≤ 139000000000000) (ho : Oz w l b) :
    Calls Tryz.prog 70 #[.map (some b), .string s] w fun e w' => ∃ b2, e = .returned (.map (some b2)) ∧ Kp (fun _ => False) w w' ∧ Oz w' (childF s.data.toList l) b2 := by
  have h := oz_child w l b s.data.toList (by rw [dlen]; exact hk) ho
  have e : (⟨s.data.toList.toArray⟩ : ByteArray) = s := by cases s; simp
  rw [e] at h
  exact h
theorem oz_with' (w : World) (l : List (Bs × J)) (b : Nat) (s : ByteArray) (x : J) (xv : Value) (hk : s.size ≤ 139000000000000) (hs : Srt l) (hl : l.length ≤ 1000000) (ho : Oz w l b) (hx : Rep w (fun j => j < w.heap.size) x xv) :
    Calls Tryz.prog 71 #[.map (some b), .string s, xv] w fun e w' => e = .returned (.map (some w.heap.size)) ∧ Kp (fun _ => False) w w' ∧ Oz w' (insK s.data.toList x l) w.heap.size := by
  have h := oz_with w l b s.data.toList x xv (by rw [dlen]; exact hk) hs hl ho hx
  have e : (⟨s.data.toList.toArray⟩ : ByteArray) = s := by cases s; simp
  rw [e] at h
  exact h
theorem rep_strB (w : World) (F : Nat → Prop) (s : ByteArray) : Rep w F (.str s.data.toList) (.iface 167 (.string s)) := by
  have e : (⟨s.data.toList.toArray⟩ : ByteArray) = s := by cases s; simp
  rw [Rep, e]
theorem cntm_child (k : Bs) (l : List (Bs × J)) : cntm (childF k l) ≤ cntm l := by
  unfold childF
  split
  · rename_i m hm
    have h1 := (cntm_ge l).2 _ (lookK_mem hm)
    simp only [cnt] at h1
    omega
  · simp [cntm]
theorem three_cells {w : World} {b : Nat} {u v x : Value} {t : TypeId} (h : w.heap[b]? = some (.cells #[u, v, x] t)) : w.cell? ⟨b, 0, none⟩ = some u ∧ w.cell? ⟨b, 1, none⟩ = some v ∧ w.cell? ⟨b, 2, none⟩ = some x := by
  refine ⟨?_, ?_, ?_⟩ <;> simp [World.cell?, h]

/-- What withSignature comes to. -/
def SgR (W w : World) (l : List (Bs × J)) (sv id sig : Bs) (e : Ending) (w' : World) : Prop := Kp (fun _ => False) w w' ∧
  (((Lib.validD sv && Lib.validD id && Lib.validD sig) = true ∧ ∃ b, e = .returned (.tuple #[.map (some b), .nilIface]) ∧ Oz w' (signL l sv id sig) b) ∨
   ((Lib.validD sv && Lib.validD id && Lib.validD sig) = false ∧ ∃ ev, e = .returned (.tuple #[.map none, ev]) ∧ EV W w' ev 2 ∧ ∃ t u, ev = .iface t u))

theorem sg_bad {W w w' : World} {l : List (Bs × J)} {sv id sig : Bs} {fb : Nat} (hk : Kp (fun _ => False) w w') (hv : (Lib.validD sv && Lib.validD id && Lib.validD sig) = false) (hf : FaultAt W w' fb) :
    SgR W w l sv id sig (.returned (.tuple #[.map none, .iface 130 (.pointer (some ⟨fb, 0, none⟩))])) w' :=
  ⟨hk, Or.inr ⟨hv, _, rfl, Or.inr (Or.inl ⟨rfl, fb, rfl, hf⟩), _, _, rfl⟩⟩
set_option maxRecDepth 20000 in
set_option maxHeartbeats 1000000 in
theorem withSig_c (W : World) (hN : NG W) (w : World) (hW : Below W.heap.size W w) (l : List (Bs × J)) (b : Nat) (ho : Oz w l b) (hwf : WF 6 (.obj l)) (hc : cntm l ≤ 1000000) (sv id sig : ByteArray) (h1 : sv.size ≤ 139000000000000) (h2 : id.size ≤ 139000000000000) (h3 : sig.size ≤ 139000000000000) :
    Calls Tryz.prog 42 #[.map (some b), .string sv, .string id, .string sig] w fun e w' => SgR W w l sv.data.toList id.data.toList sig.data.toList e w' := by
  have kA : Kp (fun _ => False) w (w.alloc (.cells #[.string sv, .string id, .string sig] 9)) := (Kp.refl _ w).alloc _
  have hnew := heap_alloc_new w (.cells #[.string sv, .string id, .string sig] 9)
  obtain ⟨ca, cb, cc⟩ := three_cells hnew
  have bA := below_kp hW kA
  have HA := hide (And.intro kA hnew)
  clear kA hnew
  go_enter Tryz.func42, Tryz.ntmps42
  go_wp2_with fail
  refine wp_loop_rounds 4 ?_
  rw [rounds_succ]
  go_wp2_with fail
  refine (check_c W hN.gl sv (by omega) _ bA).mono ?_
  rintro e w1 ⟨k1, ⟨v1, rfl⟩ | ⟨v1, fb, rfl, _, hfa⟩⟩
  rotate_left
  · have HB := hide (sg_bad (l := l) (HA.out.1.trans k1) (show (Lib.validD sv.data.toList && Lib.validD id.data.toList && Lib.validD sig.data.toList) = false by simp [v1]) hfa)
    clear k1 v1 hfa
    go_wp2
    go_ret2
    exact HB.out
  obtain ⟨_, cb1, cc1⟩ := three_cells (k1.heap HA.out.2)
  have b1 := below_kp bA k1
  have H1 := hide (And.intro (HA.out.1.trans k1) (And.intro (k1.heap HA.out.2) v1))
  clear k1 v1 ca cb cc bA
  go_wp2_with fail
  rw [rounds_succ]
  go_wp2_with fail
  refine (check_c W hN.gl id (by omega) _ b1).mono ?_
  rintro e w2 ⟨k2, ⟨v2, rfl⟩ | ⟨v2, fb, rfl, _, hfa⟩⟩
  rotate_left
  · have HB := hide (sg_bad (l := l) (H1.out.1.trans k2) (show (Lib.validD sv.data.toList && Lib.validD id.data.toList && Lib.validD sig.data.toList) = false by simp [v2]) hfa)
    clear k2 v2 hfa
    go_wp2
    go_ret2
    exact HB.out
  obtain ⟨_, _, cc2⟩ := three_cells (k2.heap H1.out.2.1)
  have b2 := below_kp b1 k2
  have H2 := hide (And.intro (H1.out.1.trans k2) (And.intro (k2.heap H1.out.2.1) v2))
  clear k2 v2 cb1 cc1 b1
  go_wp2_with fail
  rw [rounds_succ]
  go_wp2_with fail
  refine (check_c W hN.gl sig (by omega) _ b2).mono ?_
  rintro e w3 ⟨k3, ⟨v3, rfl⟩ | ⟨v3, fb, rfl, _, hfa⟩⟩
  rotate_left
  · have HB := hide (sg_bad (l := l) (H2.out.1.trans k3) (show (Lib.validD sv.data.toList && Lib.validD id.data.toList && Lib.validD sig.data.toList) = false by simp [v3]) hfa)
    clear k3 v3 hfa
    go_wp2
    go_ret2
    exact HB.out
  have H3 := hide (And.intro (H2.out.1.trans k3) v3)
  have hvv : Hid ((Lib.validD sv.data.toList && Lib.validD id.data.toList && Lib.validD sig.data.toList) = true) := by
    show _ = true
    rw [H1.out.2.2, H2.out.2.2, v3]
    rfl
  have O3 := hide (ho.up H3.out.1)
  clear k3 v3 cc2 b2 ho
  go_wp2_with fail
  rw [rounds_succ]
  go_wp2_with fail
  refine (show Calls Tryz.prog 70 #[.map (some b), .string ⟨#[115, 105, 103, 110, 97, 116, 117, 114, 101, 115]⟩] w3 _ from oz_child w3 l b kSig (by decide) O3.out).mono ?_
  rintro e w4 ⟨b1, rfl, k4, o4⟩
  have H4 := hide (And.intro (H3.out.1.trans k4) (And.intro (O3.out.up k4) o4))
  clear k4 o4
  go_wp2_with fail
  refine (oz_child' w4 (childF kSig l) b1 sv h1 H4.out.2.2).mono ?_
  rintro e w5 ⟨b2, rfl, k5, o5⟩
  have H5 := hide (And.intro (H4.out.1.trans k5) (And.intro (H4.out.2.1.up k5) (And.intro (H4.out.2.2.up k5) o5)))
  clear k5 o5
  have c1 := cntm_child kSig l
  have c2 := cntm_child sv.data.toList (childF kSig l)
  have g1 := (cntm_ge l).1
  have g2 := (cntm_ge (childF kSig l)).1
  have g3 := (cntm_ge (childF sv.data.toList (childF kSig l))).1
  have f1 := WF_child 4 kSig l hwf
  have f2 := WF_child 3 sv.data.toList _ f1
  rw [WF] at hwf f1 f2
  have S := hide (And.intro hwf.1 (And.intro f1.1 f2.1))
  have L1 : l.length ≤ 1000000 := by omega
  have L2 : (childF kSig l).length ≤ 1000000 := by omega
  have L3 : (childF sv.data.toList (childF kSig l)).length ≤ 1000000 := by omega
  clear c1 c2 g1 g2 g3 f1 f2 hwf hc
  go_wp2_with fail
  refine (oz_with' w5 _ b2 id (.str sig.data.toList) _ h2 S.out.2.2 L3 H5.out.2.2.2 (rep_strB _ _ sig)).mono ?_
  rintro e w6 ⟨rfl, k6, o6⟩
  have H6 := hide (And.intro (H5.out.1.trans k6) (And.intro (H5.out.2.1.up k6) (And.intro (H5.out.2.2.1.up k6) o6)))
  clear k6 o6
  go_wp2_with fail
  refine (oz_with' w6 _ b1 sv (.obj _) _ h1 S.out.2.1 L2 H6.out.2.2.1 H6.out.2.2.2).mono ?_
  rintro e w7 ⟨rfl, k7, o7⟩
  have H7 := hide (And.intro (H6.out.1.trans k7) (And.intro (H6.out.2.1.up k7) o7))
  clear k7 o7
  go_wp2_with fail
  refine (show Calls Tryz.prog 71 #[.map (some b), .string ⟨#[115, 105, 103, 110, 97, 116, 117, 114, 101, 115]⟩, _] w7 _ from oz_with w7 l b kSig (.obj _) _ (by decide) S.out.1 L1 H7.out.2.1 H7.out.2.2).mono ?_
  rintro e w8 ⟨rfl, k8, o8⟩
  have H8 := hide (And.intro (H7.out.1.trans k8) o8)
  clear k8 o8
  go_wp2
  go_ret2
  exact ⟨H8.out.1, Or.inl ⟨hvv.out, _, rfl, H8.out.2⟩⟩
end Go.Proofs.YtocligpfmfmihabGreatDoor
namespace Go.Proofs.YtocligpfmfmihabGreatDoor
open Go Go.RowKit Go.Maps Go.WideMaps

/-- The members' lengths, with a comma each. -/
def tot : List (Bs × J) → Nat
  | [] => 0
  | p :: l => (cMem p).length + 1 + tot l
theorem tot_join : ∀ (l : List (Bs × J)), (joinC (l.map cMem)).length ≤ tot l ∧ tot l ≤ (joinC (l.map cMem)).length + 1
  | [] => by simp [tot, joinC]
  | [p] => by simp only [tot, List.map_cons, List.map_nil, joinC]; omega
  | p :: q :: l => by
    have h := tot_join (q :: l)
    simp only [tot, List.map_cons, joinC, List.length_append, List.length_cons] at h ⊢
    omega
theorem tot_ins (k : Bs) (x : J) : ∀ (l : List (Bs × J)), tot (insK k x l) ≤ tot l + (cMem (k, x)).length + 1
  | [] => by simp only [insK, tot]; omega
  | (a, y) :: l => by
    have ih := tot_ins k x l
    rw [insK]
    split
    · simp only [tot]; omega
    · split
      · simp only [tot]; omega
      · simp only [tot]; omega
theorem cJ_tot (l : List (Bs × J)) : (cJ (.obj l)).length ≤ tot l + 2 ∧ tot l ≤ (cJ (.obj l)).length := by
  have h := tot_join l
  rw [cJ_obj]
  simp only [List.length_cons, List.length_append, List.length_nil]
  omega
theorem tot_del (k : Bs) : ∀ (l : List (Bs × J)), tot (delK k l) ≤ tot l
  | [] => by simp [delK, tot]
  | (a, y) :: l => by
    have ih := tot_del k l
    unfold delK at ih ⊢
    by_cases e : a = k
    · simp only [e, decide_true, Bool.not_true, Bool.false_eq_true, not_false_iff, List.filter_cons_of_neg, tot]
      omega
    · simp only [e, decide_false, Bool.not_false, List.filter_cons_of_pos, tot]
      omega
theorem tot_child (k : Bs) (l : List (Bs × J)) : tot (childF k l) ≤ tot l := by
  unfold childF
  split
  · rename_i m hm
    have h1 := lookK_mem hm
    have h2 : ∀ (l : List (Bs × J)) (p : Bs × J), p ∈ l → (cMem p).length ≤ tot l := by
      intro l
      induction l with
      | nil => intro p hp; cases hp
      | cons q l ih =>
        intro p hp
        rw [tot]
        rcases List.mem_cons.1 hp with rfl | hp
        · omega
        · have := ih p hp; omega
    have h3 := h2 l _ h1
    have h4 := (cJ_tot m).2
    simp only [cMem, List.length_append, List.length_cons] at h3
    omega
  · simp [tot]
theorem cntm_ins (k : Bs) (x : J) : ∀ (l : List (Bs × J)), cntm (insK k x l) ≤ cntm l + 1 + cnt x
  | [] => by simp only [insK, cntm]; omega
  | (a, y) :: l => by
    have ih := cntm_ins k x l
    rw [insK]
    split
    · simp only [cntm]; omega
    · split
      · simp only [cntm]; omega
      · simp only [cntm]; omega
theorem cB_le (c : UInt8) : (cB c).length ≤ 6 := by
  unfold cB
  repeat' split
  all_goals simp
theorem cStr_le (s : Bs) : (cStr s).length ≤ 6 * s.length + 2 := by
  have h : ∀ (l : Bs), (l.flatMap cB).length ≤ 6 * l.length := by
    intro l
    induction l with
    | nil => simp
    | cons c l ih =>
      have := cB_le c
      simp only [List.flatMap_cons, List.length_append, List.length_cons]
      omega
  have := h s
  simp only [cStr, List.length_cons, List.length_append, List.length_nil]
  omega

theorem object_ok {s : Bs} {l : List (Bs × J)} (h : objectF s = .ok l) : parse s = some (.obj l) ∧ s.length ≤ 600 := by
  unfold objectF valueF at h
  by_cases hl : 600 < s.length
  · rw [if_pos hl] at h
    cases h
  · rw [if_neg hl] at h
    cases hp : parse s with
    | none => rw [hp] at h; cases h
    | some j =>
      rw [hp] at h
      cases j with
      | obj m => simp at h; subst h; exact ⟨rfl, by omega⟩
      | null => cases h
      | bool _ => cases h
      | num _ => cases h
      | str _ => cases h
      | arr _ => cases h

set_option maxRecDepth 20000 in
theorem message_c (W : World) (hN : NG W) (s : ByteArray) (w : World) (hW : Below W.heap.size W w) :
    Calls Tryz.prog 13 #[.string s] w fun e w' => AnsR w (messageF s.data.toList) e w' := by
  go_enter Tryz.func13, Tryz.ntmps13
  go_wp2_with fail
  refine (readObject_c W hN s w hW).mono ?_
  rintro e w' ⟨hk, ⟨l, b, hv, rfl, hr⟩ | ⟨n, ev, hv, rfl, he, tt, u, rfl⟩⟩
  · have hb := below_kp hW hk
    obtain ⟨hp, hl⟩ := object_ok hv
    have hok := parse_ok hp
    have hcl := cnt_le (.obj l)
    have c1 := cntm_del kSig l
    have c2 := cntm_del kUns (delK kSig l)
    have t1 := tot_del kSig l
    have t2 := tot_del kUns (delK kSig l)
    have t3 := (cJ_tot l).2
    have t4 := (cJ_tot (bareL l)).1
    have hcb : cnt (.obj (bareL l)) ≤ 600 := by
      simp only [cnt] at hcl ⊢
      show cntm (delK kUns (delK kSig l)) ≤ 600
      omega
    have hbl : (bareF l).length ≤ 602 := by
      show (cJ (.obj (bareL l))).length ≤ 602
      have : tot (bareL l) ≤ tot l := by show tot (delK kUns (delK kSig l)) ≤ tot l; omega
      omega
    have hm : (cnt (.obj (bareL l)) + 1) * ((bareF l).length + 2) ≤ 601 * 604 := Nat.mul_le_mul (by omega) (by omega)
    have H := hide (And.intro hr (And.intro (WF_delK 5 kUns _ (WF_delK 5 kSig l hok.1)) (And.intro hk hv)))
    have hcb' : cnt (.obj (bareL l)) ≤ 1000000 := by omega
    have hm' : (cnt (.obj (bareL l)) + 1) * ((bareF l).length + 2) ≤ 139000000000000 := by omega
    have HM := hide (And.intro hcb' hm')
    clear hr hok hp hv hk hcl c1 c2 t1 t2 t3 t4 hcb hbl hm hcb' hm'
    go_wp2_with fail
    refine (messageOf_c W hN w' hb _ l b H.out.1 (fun k hk => hk.2) H.out.2.1 HM.out.1 HM.out.2).mono ?_
    rintro e w2 ⟨rfl, hw⟩
    have HK := hide (H.out.2.2.1.trans hw)
    clear hw
    go_wp2
    go_ret2
    refine ⟨?_, HK.out⟩
    unfold messageF
    rw [H.out.2.2.2]
    rfl
  · have hb := below_kp hW hk
    have H := hide (And.intro he (And.intro hk hv))
    clear he hk hv
    go_wp2_with fail
    refine (errno_c W hN w' hb _ n H.out.1).mono ?_
    rintro e w2 ⟨rfl, hw⟩
    have HK := hide (H.out.2.1.trans hw)
    clear hw
    go_wp2
    go_ret2
    refine ⟨?_, HK.out⟩
    unfold messageF
    rw [H.out.2.2]
    rfl
end Go.Proofs.YtocligpfmfmihabGreatDoor
namespace Go.Proofs.YtocligpfmfmihabGreatDoor
open Go

/-- A list of the variables that are laid, as another row has it (for Grows). -/
def ordL : List (String × DataW Unit) := Rows.growsUptoRow.laid.take 19 ++ (Rows.growsUptoRow.laid.drop 20).take 2 ++ Rows.growsUptoRow.laid.drop 27
end Go.Proofs.YtocligpfmfmihabGreatDoor

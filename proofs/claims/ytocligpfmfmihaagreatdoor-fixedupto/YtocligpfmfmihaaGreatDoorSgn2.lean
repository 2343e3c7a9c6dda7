import Derived.Test.YtocligpfmfmihaaGreatDoorSgn
namespace Go.Proofs.YtocligpfmfmihaaGreatDoor
open Go Go.RowKit Go.Maps Go.WideMaps

/-- An object anywhere in the world. -/
def Oz (w : World) (l : List (Bs × J)) (b : Nat) : Prop := Ob w (fun j => j < w.heap.size) l (.map (some b))
theorem Oz.up {w w' : World} {l : List (Bs × J)} {b : Nat} (h : Oz w l b) (hk : Kp (fun _ => False) w w') : Oz w' l b :=
  Rep.mono (fun j hj => Nat.lt_of_lt_of_le hj hk.size) _ (Rep.frame (w := w) (fun j hj => hk.block j hj (by simp)) _ h)
theorem oz_child (w : World) (l : List (Bs × J)) (b : Nat) (k : Bs) (hk : k.length ≤ 139000000000000) (ho : Oz w l b) :
    Calls Tryz.prog 75 #[.map (some b), .string ⟨k.toArray⟩] w fun e w' => ∃ b2, e = .returned (.map (some b2)) ∧ Kp (fun _ => False) w w' ∧ Oz w' (childF k l) b2 := by
  refine (child_c w _ l b k hk ho).mono ?_
  rintro e w' ⟨b2, rfl, h1, h2⟩
  exact ⟨b2, rfl, h1, Rep.mono (fun j hj => by have := h1.size; rcases hj with h | h <;> omega) _ h2⟩
theorem oz_with (w : World) (l : List (Bs × J)) (b : Nat) (k : Bs) (x : J) (xv : Value) (hk : k.length ≤ 139000000000000) (hs : Srt l) (hl : l.length ≤ 1000000) (ho : Oz w l b) (hx : Rep w (fun j => j < w.heap.size) x xv) :
    Calls Tryz.prog 76 #[.map (some b), .string ⟨k.toArray⟩, xv] w fun e w' => e = .returned (.map (some w.heap.size)) ∧ Kp (fun _ => False) w w' ∧ Oz w' (insK k x l) w.heap.size := by
  refine (with_c w _ _ l b k x xv hk hs hl ho hx (fun _ h => h) (fun _ h => h)).mono ?_
  rintro e w' ⟨rfl, h1, h2⟩
  obtain ⟨b', m, e, _, h3, _⟩ := h2.shape
  cases e
  have := h3.lt
  exact ⟨rfl, h1, Rep.mono (fun j hj => by have := h1.size; rcases hj with h | h | h <;> omega) _ h2⟩
theorem oz_child' (w : World) (l : List (Bs × J)) (b : Nat) (s : ByteArray) (hk : s.size ≤ 139000000000000) (ho : Oz w l b) :
    Calls Tryz.prog 75 #[.map (some b), .string s] w fun e w' => ∃ b2, e = .returned (.map (some b2)) ∧ Kp (fun _ => False) w w' ∧ Oz w' (childF s.data.toList l) b2 := by
  have h := oz_child w l b s.data.toList (by rw [dlen]; exact hk) ho
  have e : (⟨s.data.toList.toArray⟩ : ByteArray) = s := by cases s; simp
  rw [e] at h
  exact h
theorem oz_with' (w : World) (l : List (Bs × J)) (b : Nat) (s : ByteArray) (x : J) (xv : Value) (hk : s.size ≤ 139000000000000) (hs : Srt l) (hl : l.length ≤ 1000000) (ho : Oz w l b) (hx : Rep w (fun j => j < w.heap.size) x xv) :
    Calls Tryz.prog 76 #[.map (some b), .string s, xv] w fun e w' => e = .returned (.map (some w.heap.size)) ∧ Kp (fun _ => False) w w' ∧ Oz w' (insK s.data.toList x l) w.heap.size := by
  have h := oz_with w l b s.data.toList x xv (by rw [dlen]; exact hk) hs hl ho hx
  have e : (⟨s.data.toList.toArray⟩ : ByteArray) = s := by cases s; simp
  rw [e] at h
  exact h
theorem rep_strB (w : World) (F : Nat → Prop) (s : ByteArray) : Rep w F (.str s.data.toList) (.iface 137 (.string s)) := by
  have e : (⟨s.data.toList.toArray⟩ : ByteArray) = s := by cases s; simp
  rw [Rep, e]
theorem cntm_child (k : Bs) (l : List (Bs × J)) : cntm (childF k l) ≤ cntm l := by
  unfold childF
  split
  · rename_i m hm
    have h1 := (cntm_ge l).2 _ (lookK_mem hm)
    simp only [cnt] at h1
    omega
  · simp [cntm]
theorem three_cells {w : World} {b : Nat} {u v x : Value} {t : TypeId} (h : w.heap[b]? = some (.cells #[u, v, x] t)) : w.cell? ⟨b, 0, none⟩ = some u ∧ w.cell? ⟨b, 1, none⟩ = some v ∧ w.cell? ⟨b, 2, none⟩ = some x := by
  refine ⟨?_, ?_, ?_⟩ <;> simp [World.cell?, h]

/-- What withSignature comes to. -/
def SgR (W w : World) (l : List (Bs × J)) (sv id sig : Bs) (e : Ending) (w' : World) : Prop := Kp (fun _ => False) w w' ∧
  (((Lib.validD sv && Lib.validD id && Lib.validD sig) = true ∧ ∃ b, e = .returned (.tuple #[.map (some b), .nilIface]) ∧ Oz w' (signL l sv id sig) b) ∨
   ((Lib.validD sv && Lib.validD id && Lib.validD sig) = false ∧ ∃ ev, e = .returned (.tuple #[.map none, ev]) ∧ EV W w' ev 2 ∧ ∃ t u, ev = .iface t u))

theorem sg_bad {W w w' : World} {l : List (Bs × J)} {sv id sig : Bs} {fb : Nat} (hk : Kp (fun _ => False) w w') (hv : (Lib.validD sv && Lib.validD id && Lib.validD sig) = false) (hf : FaultAt W w' fb) :
    SgR W w l sv id sig (.returned (.tuple #[.map none, .iface 116 (.pointer (some ⟨fb, 0, none⟩))])) w' :=
  ⟨hk, Or.inr ⟨hv, _, rfl, Or.inr (Or.inl ⟨rfl, fb, rfl, hf⟩), _, _, rfl⟩⟩
set_option maxRecDepth 20000 in
set_option maxHeartbeats 1000000 in
theorem withSig_c (W : World) (hN : NG W) (w : World) (hW : Below W.heap.size W w) (l : List (Bs × J)) (b : Nat) (ho : Oz w l b) (hwf : WF 6 (.obj l)) (hc : cntm l ≤ 1000000) (sv id sig : ByteArray) (h1 : sv.size ≤ 139000000000000) (h2 : id.size ≤ 139000000000000) (h3 : sig.size ≤ 139000000000000) :
    Calls Tryz.prog 43 #[.map (some b), .string sv, .string id, .string sig] w fun e w' => SgR W w l sv.data.toList id.data.toList sig.data.toList e w' := by
  have kA : Kp (fun _ => False) w (w.alloc (.cells #[.string sv, .string id, .string sig] 9)) := (Kp.refl _ w).alloc _
  have hnew := heap_alloc_new w (.cells #[.string sv, .string id, .string sig] 9)
  obtain ⟨ca, cb, cc⟩ := three_cells hnew
  have bA := below_kp hW kA
  have HA := hide (And.intro kA hnew)
  clear kA hnew
  go_enter Tryz.func43, Tryz.ntmps43
  go_wp2_with fail
  refine wp_loop_rounds 4 ?_
  rw [rounds_succ]
  go_wp2_with fail
  refine (check_c W hN.gl sv (by omega) _ bA).mono ?_
  rintro e w1 ⟨k1, ⟨v1, rfl⟩ | ⟨v1, fb, rfl, _, hfa⟩⟩
  rotate_left
  · have HB := hide (sg_bad (l := l) (HA.out.1.trans k1) (show (Lib.validD sv.data.toList && Lib.validD id.data.toList && Lib.validD sig.data.toList) = false by simp [v1]) hfa)
    clear k1 v1 hfa
    go_wp2
    go_ret2
    exact HB.out
  obtain ⟨_, cb1, cc1⟩ := three_cells (k1.heap HA.out.2)
  have b1 := below_kp bA k1
  have H1 := hide (And.intro (HA.out.1.trans k1) (And.intro (k1.heap HA.out.2) v1))
  clear k1 v1 ca cb cc bA
  go_wp2_with fail
  rw [rounds_succ]
  go_wp2_with fail
  refine (check_c W hN.gl id (by omega) _ b1).mono ?_
  rintro e w2 ⟨k2, ⟨v2, rfl⟩ | ⟨v2, fb, rfl, _, hfa⟩⟩
  rotate_left
  · have HB := hide (sg_bad (l := l) (H1.out.1.trans k2) (show (Lib.validD sv.data.toList && Lib.validD id.data.toList && Lib.validD sig.data.toList) = false by simp [v2]) hfa)
    clear k2 v2 hfa
    go_wp2
    go_ret2
    exact HB.out
  obtain ⟨_, _, cc2⟩ := three_cells (k2.heap H1.out.2.1)
  have b2 := below_kp b1 k2
  have H2 := hide (And.intro (H1.out.1.trans k2) (And.intro (k2.heap H1.out.2.1) v2))
  clear k2 v2 cb1 cc1 b1
  go_wp2_with fail
  rw [rounds_succ]
  go_wp2_with fail
  refine (check_c W hN.gl sig (by omega) _ b2).mono ?_
  rintro e w3 ⟨k3, ⟨v3, rfl⟩ | ⟨v3, fb, rfl, _, hfa⟩⟩
  rotate_left
  · have HB := hide (sg_bad (l := l) (H2.out.1.trans k3) (show (Lib.validD sv.data.toList && Lib.validD id.data.toList && Lib.validD sig.data.toList) = false by simp [v3]) hfa)
    clear k3 v3 hfa
    go_wp2
    go_ret2
    exact HB.out
  have H3 := hide (And.intro (H2.out.1.trans k3) v3)
  have hvv : Hid ((Lib.validD sv.data.toList && Lib.validD id.data.toList && Lib.validD sig.data.toList) = true) := by
    show _ = true
    rw [H1.out.2.2, H2.out.2.2, v3]
    rfl
  have O3 := hide (ho.up H3.out.1)
  clear k3 v3 cc2 b2 ho
  go_wp2_with fail
  rw [rounds_succ]
  go_wp2_with fail
  refine (show Calls Tryz.prog 75 #[.map (some b), .string ⟨#[115, 105, 103, 110, 97, 116, 117, 114, 101, 115]⟩] w3 _ from oz_child w3 l b kSig (by decide) O3.out).mono ?_
  rintro e w4 ⟨b1, rfl, k4, o4⟩
  have H4 := hide (And.intro (H3.out.1.trans k4) (And.intro (O3.out.up k4) o4))
  clear k4 o4
  go_wp2_with fail
  refine (oz_child' w4 (childF kSig l) b1 sv h1 H4.out.2.2).mono ?_
  rintro e w5 ⟨b2, rfl, k5, o5⟩
  have H5 := hide (And.intro (H4.out.1.trans k5) (And.intro (H4.out.2.1.up k5) (And.intro (H4.out.2.2.up k5) o5)))
  clear k5 o5
  have c1 := cntm_child kSig l
  have c2 := cntm_child sv.data.toList (childF kSig l)
  have g1 := (cntm_ge l).1
  have g2 := (cntm_ge (childF kSig l)).1
  have g3 := (cntm_ge (childF sv.data.toList (childF kSig l))).1
  have f1 := WF_child 4 kSig l hwf
  have f2 := WF_child 3 sv.data.toList _ f1
  rw [WF] at hwf f1 f2
  have S := hide (And.intro hwf.1 (And.intro f1.1 f2.1))
  have L1 : l.length ≤ 1000000 := by omega
  have L2 : (childF kSig l).length ≤ 1000000 := by omega
  have L3 : (childF sv.data.toList (childF kSig l)).length ≤ 1000000 := by omega
  clear c1 c2 g1 g2 g3 f1 f2 hwf hc
  go_wp2_with fail
  refine (oz_with' w5 _ b2 id (.str sig.data.toList) _ h2 S.out.2.2 L3 H5.out.2.2.2 (rep_strB _ _ sig)).mono ?_
  rintro e w6 ⟨rfl, k6, o6⟩
  have H6 := hide (And.intro (H5.out.1.trans k6) (And.intro (H5.out.2.1.up k6) (And.intro (H5.out.2.2.1.up k6) o6)))
  clear k6 o6
  go_wp2_with fail
  refine (oz_with' w6 _ b1 sv (.obj _) _ h1 S.out.2.1 L2 H6.out.2.2.1 H6.out.2.2.2).mono ?_
  rintro e w7 ⟨rfl, k7, o7⟩
  have H7 := hide (And.intro (H6.out.1.trans k7) (And.intro (H6.out.2.1.up k7) o7))
  clear k7 o7
  go_wp2_with fail
  refine (show Calls Tryz.prog 76 #[.map (some b), .string ⟨#[115, 105, 103, 110, 97, 116, 117, 114, 101, 115]⟩, _] w7 _ from oz_with w7 l b kSig (.obj _) _ (by decide) S.out.1 L1 H7.out.2.1 H7.out.2.2).mono ?_
  rintro e w8 ⟨rfl, k8, o8⟩
  have H8 := hide (And.intro (H7.out.1.trans k8) o8)
  clear k8 o8
  go_wp2
  go_ret2
  exact ⟨H8.out.1, Or.inl ⟨hvv.out, _, rfl, H8.out.2⟩⟩
end Go.Proofs.YtocligpfmfmihaaGreatDoor

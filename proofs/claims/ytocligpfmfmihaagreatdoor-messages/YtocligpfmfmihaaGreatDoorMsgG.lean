import Derived.Test.YtocligpfmfmihaaGreatDoorCnG
import Derived.Test.YtocligpfmfmihaaGreatDoorMaps
import Derived.Maps.OwnSet
namespace Go.Proofs.YtocligpfmfmihaaGreatDoor
open Go Go.RowKit Go.Maps Go.WideMaps

theorem to0 (w : World) : (Instr.typeAssert (.iface 221 (.agg #[])) 59 71 true).run Tryz.prog w = .ok (.tuple #[.map none, .bool false]) w := by kernel_rfl
theorem to1 (b : Bool) (w : World) : (Instr.typeAssert (.iface 222 (.bool b)) 59 71 true).run Tryz.prog w = .ok (.tuple #[.map none, .bool false]) w := by kernel_rfl
theorem to2 (n : Int) (w : World) : (Instr.typeAssert (.iface 224 (.int .i64 n)) 59 71 true).run Tryz.prog w = .ok (.tuple #[.map none, .bool false]) w := by kernel_rfl
theorem to3 (s : ByteArray) (w : World) : (Instr.typeAssert (.iface 137 (.string s)) 59 71 true).run Tryz.prog w = .ok (.tuple #[.map none, .bool false]) w := by kernel_rfl
theorem to4 (sv : Value) (w : World) : (Instr.typeAssert (.iface 228 sv) 59 71 true).run Tryz.prog w = .ok (.tuple #[.map none, .bool false]) w := by kernel_rfl
/-- Is it an object? -/
def isO : J → Bool | .obj _ => true | _ => false
theorem rep_no {w : World} {F : Nat → Prop} {j : J} {tt : TypeId} {u : Value} (h : Rep w F j (.iface tt u)) (hj : isO j = false) : ∀ w, (Instr.typeAssert (.iface tt u) 59 71 true).run Tryz.prog w = .ok (.tuple #[.map none, .bool false]) w := by
  cases j with
  | null => rw [Rep] at h; cases h; exact to0
  | bool b => rw [Rep] at h; cases h; exact to1 b
  | num n => rw [Rep] at h; cases h; exact to2 n
  | str s => rw [Rep] at h; cases h; exact to3 _
  | arr l => rw [Rep] at h; obtain ⟨sv, vs, e, _⟩ := h; cases e; exact to4 _
  | obj l => cases hj

/-- An object of the program. -/
def Ob (w : World) (F : Nat → Prop) (l : List (Bs × J)) (v : Value) : Prop := Rep w F (.obj l) (.iface 71 v)
theorem Ob.shape {w : World} {F : Nat → Prop} {l : List (Bs × J)} {v : Value} (h : Ob w F l v) : ∃ b m, v = .map (some b) ∧ F b ∧ w.ownsMap Tryz.prog 9 Rv b m.length (dm m) ∧ Repm w F l m := by
  unfold Ob at h
  rw [Rep] at h
  obtain ⟨b, m, e, h1, h2, h3⟩ := h
  cases e
  exact ⟨b, m, rfl, h1, h2, h3⟩
def OoR (W w : World) (l : Bs) (e : Ending) (w' : World) : Prop := Kp (fun _ => False) w w' ∧ ((∃ o b, objectF l = .ok o ∧ e = .returned (.tuple #[.map (some b), .nilIface]) ∧ Ob w' (fun b => w.heap.size ≤ b ∧ b < w'.heap.size) o (.map (some b))) ∨
    (∃ n ev, objectF l = .error n ∧ e = .returned (.tuple #[.map none, ev]) ∧ EV W w' ev n ∧ ∃ t u, ev = .iface t u))
set_option maxRecDepth 20000 in
theorem readObject_c (W : World) (hN : NG W) (s : ByteArray) (w : World) (hW : Below W.heap.size W w) :
    Calls Tryz.prog 39 #[.string s] w fun e w' => OoR W w s.data.toList e w' := by
  obtain ⟨a, c, t, ho1, _⟩ := hN.obj
  go_enter Tryz.func39, Tryz.ntmps39
  go_wp2_with fail
  refine (readValue_c W hN s w hW).mono ?_
  rintro e w' ⟨hk, ⟨j, v, hv, rfl, hr⟩ | ⟨n, ev, hv, rfl, he, tt, u, rfl⟩⟩
  · have hb := below_kp hW hk
    obtain ⟨tt, u, rfl⟩ := Rep.iface hr
    cases hj : isO j with
    | false =>
      have hta := rep_no hr hj
      have hc := Below.cl hb ho1
      have HE : Hid (EV W w' (errV a) 3) := Or.inr (Or.inr ⟨rfl, ho1⟩)
      have HV := hide (show objectF s.data.toList = .error 3 by unfold objectF; rw [hv]; cases j <;> simp_all [isO])
      have HK := hide hk
      unfold errV at hc HE
      clear hk hv hr ho1 hj
      go_wp2
      go_quiet (fail)
      go_wp2
      go_ret2
      exact ⟨HK.out.drewN _, Or.inr ⟨3, _, HV.out, rfl, HE.out, _, _, rfl⟩⟩
    | true =>
      cases j with
      | obj l =>
        have HO := hide hr
        rw [Rep] at hr
        obtain ⟨b, m, e, _⟩ := hr
        cases e
        have hta := ta55 (some b)
        have HV := hide (show objectF s.data.toList = .ok l by unfold objectF; rw [hv])
        have HK := hide hk
        clear hk hv ho1 hj
        go_wp2
        go_ret2
        exact ⟨HK.out, Or.inl ⟨l, b, HV.out, rfl, HO.out⟩⟩
      | null => cases hj
      | bool _ => cases hj
      | num _ => cases hj
      | str _ => cases hj
      | arr _ => cases hj
  · have HV := hide (show objectF s.data.toList = .error n by unfold objectF; rw [hv])
    have HK := hide (And.intro hk he)
    clear hk hv he ho1
    go_wp2
    go_ret2
    exact ⟨HK.out.1, Or.inr ⟨n, _, HV.out, rfl, HK.out.2, _, _, rfl⟩⟩
end Go.Proofs.YtocligpfmfmihaaGreatDoor
namespace Go.Proofs.YtocligpfmfmihaaGreatDoor
open Go Go.RowKit Go.Maps Go.WideMaps

theorem Repm.del {w : World} {F : Nat → Prop} (k : Bs) : ∀ (l : List (Bs × J)) (m : List (Bs × Value)), Repm w F l m → Repm w F (delK k l) (delK k m)
  | [], m, h => by
    rw [Repm] at h
    subst h
    simp only [delK, List.filter_nil]
    rw [Repm]
  | (a, y) :: l, m, h => by
    rw [Repm] at h
    obtain ⟨u, r, rfl, h1, h2⟩ := h
    have ih := Repm.del k l r h2
    unfold delK at ih ⊢
    by_cases e : a = k
    · simpa [e] using ih
    · simp only [e, decide_false, Bool.not_false, List.filter_cons_of_pos]
      rw [Repm]
      exact ⟨u, _, rfl, h1, ih⟩
theorem Kp.of_below {w w' : World} (h : Below w.heap.size w w') : Kp (fun _ => False) w w' := ⟨h.os, h.tape, h.output, h.size, fun k hk _ => h.block k hk⟩
theorem Kp.of_grown {w w1 w' : World} {b : Nat} (h : Kp (fun _ => False) w w1) (hg : w1.grownBy w' (some b)) (hb : w.heap.size ≤ b) : Kp (fun _ => False) w w' := h.grown hg (fun k e hk => by cases e; omega)
theorem two_cells {w : World} {b : Nat} {u v : Value} {t : TypeId} (h : w.heap[b]? = some (.cells #[u, v] t)) : w.cell? ⟨b, 0, none⟩ = some u ∧ w.cell? ⟨b, 1, none⟩ = some v := by
  constructor <;> simp [World.cell?, h]
theorem keyS : keyOf Tryz.prog 9 (.string ⟨#[115, 105, 103, 110, 97, 116, 117, 114, 101, 115]⟩) = some (.string kSig) := key_mk2 (o := kSig) (by decide)
theorem keyU : keyOf Tryz.prog 9 (.string ⟨#[117, 110, 115, 105, 103, 110, 101, 100]⟩) = some (.string kUns) := key_mk2 (o := kUns) (by decide)

set_option maxRecDepth 20000 in
/-- Without, of the two keys. -/
theorem without_c (w : World) (F : Nat → Prop) (l : List (Bs × J)) (b kb : Nat) (ho : Ob w F l (.map (some b))) (hF : ∀ k, F k → k < w.heap.size) (hk : w.heap[kb]? = some (.cells #[.string ⟨#[115, 105, 103, 110, 97, 116, 117, 114, 101, 115]⟩, .string ⟨#[117, 110, 115, 105, 103, 110, 101, 100]⟩] 9)) :
    Calls Tryz.prog 73 #[.map (some b), .slice (some ⟨kb, 0, none⟩) 2 2] w fun e w' => e = .returned (.map (some w.heap.size)) ∧ Kp (fun _ => False) w w' ∧ Ob w' (fun k => F k ∨ k = w.heap.size) (bareL l) (.map (some w.heap.size)) := by
  obtain ⟨b', m, e, hFb, hown, hrep⟩ := ho.shape
  cases e
  have hkb := lt_heap hk
  go_enter Tryz.func73, Tryz.ntmps73
  go_wp2_with fail
  refine (AnyW.maps_Clone_owns Tryz.clone130 9 Rv b m.length (dm m) w hown).mono ?_
  rintro e w1 ⟨rfl, o1, _, hb1⟩
  obtain ⟨c0, c1⟩ := two_cells ((hb1.block kb hkb).trans hk)
  have K1 := hide (Kp.of_below hb1)
  clear hb1
  go_wp2_with fail
  refine wp_loop_rounds 3 ?_
  rw [rounds_succ]
  go_wp2_with (first | (at_delete; refine wpList_delete_own _ rfl _ _ 71 9 rfl 59 keyed Tryz.underlying71 Rv w.heap.size m.length _ rfl o1 _ _ rfl keyS ?_; intro w2 o2 t2; have g2 := t2.grown; have c1' : w2.cell? ⟨kb, 1, none⟩ = some (.string ⟨#[117, 110, 115, 105, 103, 110, 101, 100]⟩) := (World.cell?_of_block (w := w1) (a := ⟨kb, 1, none⟩) (g2.block kb (by have := K1.out.size; omega) (by intro e; injection e with e; omega))).trans c1; clear t2 c0 c1) | go_in)
  rw [dm_del] at o2
  have K2 := hide (K1.out.of_grown g2 (Nat.le_refl _))
  clear g2
  rw [rounds_succ]
  go_wp2_with (first | (at_delete; refine wpList_delete_own _ rfl _ _ 71 9 rfl 59 keyed Tryz.underlying71 Rv w.heap.size m.length _ rfl o2 _ _ rfl keyU ?_; intro w3 o3 t3; have g3 := t3.grown; clear t3) | go_in)
  rw [dm_del] at o3
  have K3 := hide (K2.out.of_grown g3 (Nat.le_refl _))
  have HO := hide (ownsMap_tight o3)
  clear g3
  rw [rounds_succ]
  go_wp2
  go_ret
  refine ⟨rfl, K3.out, ?_⟩
  unfold Ob
  rw [Rep]
  refine ⟨w.heap.size, delK kUns (delK kSig m), rfl, Or.inr rfl, HO.out, ?_⟩
  refine Repm.mono (fun k hk => Or.inl hk) _ (Repm.frame (w := w) (fun k hk => K3.out.block k (hF k hk) (by simp)) _ ?_)
  exact Repm.del _ _ _ (Repm.del _ _ _ hrep)

set_option maxRecDepth 20000 in
theorem messageOf_c (W : World) (hN : NG W) (w : World) (hW : Below W.heap.size W w) (F : Nat → Prop) (l : List (Bs × J)) (b : Nat) (ho : Ob w F l (.map (some b))) (hF : ∀ k, F k → k < w.heap.size) (hwf : WF 6 (.obj (bareL l))) (hc : cnt (.obj (bareL l)) ≤ 1000000) (hlen : (cnt (.obj (bareL l)) + 1) * ((bareF l).length + 2) ≤ 139000000000000) :
    Calls Tryz.prog 40 #[.map (some b)] w fun e w' => e = .returned (.string ⟨(bareF l).toArray⟩) ∧ Kp (fun _ => False) w w' := by
  obtain ⟨b', m, e, hFb, hown, hrep⟩ := ho.shape
  cases e
  have H := hide (And.intro hwf (And.intro hc (And.intro hlen hF)))
  have hW1 : Kp (fun _ => False) w (w.alloc (.cells #[.string ⟨#[115, 105, 103, 110, 97, 116, 117, 114, 101, 115]⟩, .string ⟨#[117, 110, 115, 105, 103, 110, 101, 100]⟩] 9)) := (Kp.refl _ w).alloc _
  have ho1 : Ob (w.alloc (.cells #[.string ⟨#[115, 105, 103, 110, 97, 116, 117, 114, 101, 115]⟩, .string ⟨#[117, 110, 115, 105, 103, 110, 101, 100]⟩] 9)) F l (.map (some b)) := Rep.frame (fun k hk => hW1.block k (hF k hk) (by simp)) _ ho
  have hnew := heap_alloc_new w (.cells #[.string ⟨#[115, 105, 103, 110, 97, 116, 117, 114, 101, 115]⟩, .string ⟨#[117, 110, 115, 105, 103, 110, 101, 100]⟩] 9)
  have H1 := hide (And.intro hW1 (And.intro ho1 hnew))
  clear hwf hc hlen hW1 ho1 hnew hF ho hown hrep
  go_enter Tryz.func40, Tryz.ntmps40
  go_wp2_with fail
  refine (without_c _ F l b w.heap.size H1.out.2.1 (fun k hk => by have := H.out.2.2.2 k hk; simp; omega) H1.out.2.2).mono ?_
  rintro e w2 ⟨rfl, k2, o2⟩
  simp only [World.size_alloc] at o2
  have hK := H1.out.1.trans k2
  have hb2 := below_kp hW hK
  have H2 := hide (And.intro hK o2)
  clear k2 o2 hK
  go_wp2_with fail
  refine (vcanon_c W hN.gl 6 (.obj (bareL l)) H.out.1 H.out.2.1 H.out.2.2.1 _ _ w2 hb2 H2.out.2).mono ?_
  rintro e w3 ⟨rfl, hw⟩
  have HK := hide (H2.out.1.trans (kp_wr hw))
  clear hw
  go_wp2
  go_ret
  exact ⟨rfl, HK.out⟩

theorem cntm_del (k : Bs) : ∀ (l : List (Bs × J)), cntm (delK k l) ≤ cntm l
  | [] => by simp [delK]
  | (a, y) :: l => by
    have ih := cntm_del k l
    unfold delK at ih ⊢
    by_cases e : a = k
    · simp only [e, decide_true, Bool.not_true, Bool.false_eq_true, not_false_iff, List.filter_cons_of_neg]
      rw [cntm]
      omega
    · simp only [e, decide_false, Bool.not_false, List.filter_cons_of_pos]
      rw [cntm, cntm]
      omega
end Go.Proofs.YtocligpfmfmihaaGreatDoor

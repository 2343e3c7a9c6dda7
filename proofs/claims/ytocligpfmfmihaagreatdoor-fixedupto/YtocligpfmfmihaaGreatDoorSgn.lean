import Derived.Test.YtocligpfmfmihaaGreatDoorMsg2
import Derived.WideMake
namespace Go.Proofs.YtocligpfmfmihaaGreatDoor
open Go Go.RowKit Go.Maps Go.WideMaps

theorem merge_nil (m : List (Bs × Value)) (hm : Srt m) : Lib.mergeD (dm []) (dm m) = dm m := by
  have h : ∀ (l : List (Bs × Value)) (acc : List (Bs × Value)), Srt acc → (l.map dE).foldl (fun D p => D.put p.1 p.2) (dm acc) = dm (l.foldl (fun a p => insK p.1 p.2 a) acc) := by
    intro l
    induction l with
    | nil => intro acc _; rfl
    | cons p l ih =>
      intro acc ha
      simp only [List.map_cons, List.foldl_cons]
      have := dm_put p.1 p.2 acc ha
      rw [← ih (insK p.1 p.2 acc) (srt_insK p.1 p.2 acc ha), ← this]
      rfl
  have h1 := h m [] (by simp [Srt])
  have h2 := ofL_srt m hm
  unfold ofL at h2
  rw [h2] at h1
  exact h1

set_option maxRecDepth 20000 in
/-- Child. -/
theorem child_c (w : World) (F : Nat → Prop) (l : List (Bs × J)) (b : Nat) (k : Bs) (hk : k.length ≤ 139000000000000) (ho : Ob w F l (.map (some b))) :
    Calls Tryz.prog 75 #[.map (some b), .string ⟨k.toArray⟩] w fun e w' => ∃ b2, e = .returned (.map (some b2)) ∧ Kp (fun _ => False) w w' ∧ Ob w' (fun j => F j ∨ (w.heap.size ≤ j ∧ j < w'.heap.size)) (childF k l) (.map (some b2)) := by
  obtain ⟨b', m, e, hFb, hown, hrep⟩ := ho.shape
  cases e
  have hempty : ∀ G : Nat → Prop, G w.heap.size → Ob (w.alloc (.map #[] 0)) G [] (.map (some w.heap.size)) := by
    intro G hG
    unfold Ob
    rw [Rep]
    refine ⟨w.heap.size, [], rfl, hG, ?_, by rw [Repm]⟩
    simpa [dm] using World.ownsMap_made w Tryz.prog 9 Rv
  obtain ⟨lv, lps, hlk, hlr⟩ := hown.lookup keyed Tryz.underlying71 (zeroV w) (R := Rv) (zd := .held .nilIface) (zp := []) rfl (key_mk2 hk)
  have hmm := @run_makeMap Tryz.prog
  rw [dm_at] at hlr
  rcases Repm.look k l m hrep with ⟨e1, e2⟩ | ⟨v, x, e1, e2, hx⟩
  · rw [e1] at hlr
    simp only [Rv, Option.some.injEq, Prod.mk.injEq, DataW.held.injEq] at hlr
    obtain ⟨rfl, _⟩ := hlr
    have hta : ∀ w, (Instr.typeAssert .nilIface 59 71 true).run Tryz.prog w = .ok (.tuple #[.map none, .bool false]) w := fun w => by kernel_rfl
    have HC := hide (show childF k l = [] by unfold childF; rw [e2])
    clear e1 e2
    go_enter Tryz.func75, Tryz.ntmps75
    go_wp2
    go_ret
    refine ⟨_, rfl, (Kp.refl _ w).alloc _, ?_⟩
    rw [HC.out]
    exact hempty _ (Or.inr ⟨Nat.le_refl _, by simp⟩)
  · rw [e1] at hlr
    simp only [Rv, Option.some.injEq, Prod.mk.injEq, DataW.held.injEq] at hlr
    obtain ⟨rfl, _⟩ := hlr
    obtain ⟨tt, u, rfl⟩ := Rep.iface hx
    cases hj : isO x with
    | false =>
      have hta := rep_no hx hj
      have HC := hide (show childF k l = [] by unfold childF; rw [e2]; cases x <;> simp_all [isO])
      clear e1 e2 hx
      go_enter Tryz.func75, Tryz.ntmps75
      go_wp2
      go_ret
      refine ⟨_, rfl, (Kp.refl _ w).alloc _, ?_⟩
      rw [HC.out]
      exact hempty _ (Or.inr ⟨Nat.le_refl _, by simp⟩)
    | true =>
      cases x with
      | obj l' =>
        have HO := hide hx
        rw [Rep] at hx
        obtain ⟨b2, m2, e, _⟩ := hx
        cases e
        have hta := ta55 (some b2)
        have HC := hide (show childF k l = l' by unfold childF; rw [e2])
        clear e1 e2 hmm
        go_enter Tryz.func75, Tryz.ntmps75
        go_wp2
        go_ret
        refine ⟨_, rfl, Kp.refl _ w, ?_⟩
        rw [HC.out]
        exact Rep.mono (fun k hk => Or.inl hk) _ HO.out
      | null => cases hj
      | bool _ => cases hj
      | num _ => cases hj
      | str _ => cases hj
      | arr _ => cases hj

set_option maxRecDepth 20000 in
/-- With. -/
theorem with_c (w : World) (F G : Nat → Prop) (l : List (Bs × J)) (b : Nat) (k : Bs) (x : J) (xv : Value) (hk : k.length ≤ 139000000000000) (hs : Srt l) (hl : l.length ≤ 1000000) (ho : Ob w F l (.map (some b))) (hx : Rep w G x xv) (hF : ∀ k, F k → k < w.heap.size) (hG : ∀ k, G k → k < w.heap.size) :
    Calls Tryz.prog 76 #[.map (some b), .string ⟨k.toArray⟩, xv] w fun e w' => e = .returned (.map (some w.heap.size)) ∧ Kp (fun _ => False) w w' ∧ Ob w' (fun j => F j ∨ G j ∨ j = w.heap.size) (insK k x l) (.map (some w.heap.size)) := by
  obtain ⟨b', m, e, hFb, hown, hrep⟩ := ho.shape
  cases e
  obtain ⟨tt, u, rfl⟩ := Rep.iface hx
  have hml := Repm.len hrep
  have hsm : Srt m := srt_keys (Repm.keys l m hrep) hs
  have hbl := hown.lt
  have hmm : ∀ (n : Int) (w : World), (Instr.makeMap 71 (some (.int .i64 n))).run Tryz.prog w = .ok (.map (some w.heap.size)) (w.alloc (.map #[] 0)) := by
    intro n w
    simp [Instr.makeMap, run_underlying Tryz.underlying71, asInt, asIntOf, Result.andThen]
  have hwr : wrap64 ((m.length : Int) + 1) = (m.length : Int) + 1 := by unfold wrap64; omega
  go_enter Tryz.func76, Tryz.ntmps76
  go_wp2_with (first | (at_len; refine wpList_len_own _ rfl _ 71 rfl 9 59 Tryz.underlying71 Rv b m.length (dm m) rfl hown ?_; rw [dm_size]) | fail)
  have k1 : Kp (fun _ => False) w (w.alloc (.map #[] 0)) := (Kp.refl _ w).alloc _
  have o0 : (w.alloc (.map #[] 0)).ownsMap Tryz.prog 9 Rv w.heap.size 0 (dm []) := by simpa [dm] using World.ownsMap_made w Tryz.prog 9 Rv
  have o1 : (w.alloc (.map #[] 0)).ownsMap Tryz.prog 9 Rv b m.length (dm m) := ownsMap_heap hown (Below.heap_alloc _ _ _ hbl)
  have HR := hide (And.intro hrep (And.intro hx (And.intro hF (And.intro hG hs))))
  clear hmm hwr hown hrep hx hF hG ho
  refine (AnyX.maps_Copy Tryz.copy132 keyed Rv w.heap.size b 0 m.length (dm []) (dm m) _ o0 o1 (by omega) (by rw [dm_size]; unfold maxLen; omega)).mono ?_
  rintro e w2 ⟨rfl, o2, _, g2⟩
  rw [merge_nil m hsm, dm_size] at o2
  have K2 := hide (k1.of_grown g2 (Nat.le_refl _))
  clear g2 k1 o0 o1
  have hky := key_mk2 hk
  go_wp2_with (first | (at_mapUpdate; refine wpList_mapUpdate_own _ rfl _ _ _ 71 rfl 9 59 keyed Tryz.underlying71 Rv w.heap.size _ _ rfl o2 (by unfold maxLen; omega) _ _ _ rfl rfl hky (.held (.iface tt u)) [] rfl ?_; intro w3 o3 g3) | go_in)
  rw [dm_put k (.iface tt u) m hsm] at o3
  have K3 := hide (K2.out.of_grown g3 (Nat.le_refl _))
  have O3 := hide (ownsMap_tight o3)
  clear g3 o3
  go_ret
  refine ⟨rfl, K3.out, ?_⟩
  unfold Ob
  rw [Rep]
  refine ⟨w.heap.size, _, rfl, Or.inr (Or.inr rfl), O3.out, ?_⟩
  refine Repm.ins ?_ _ _ ?_
  · exact Rep.mono (fun j hj => Or.inr (Or.inl hj)) _ (Rep.frame (w := w) (fun j hj => K3.out.block j (HR.out.2.2.2.1 j hj) (by simp)) _ HR.out.2.1)
  · exact Repm.mono (fun j hj => Or.inl hj) _ (Repm.frame (w := w) (fun j hj => K3.out.block j (HR.out.2.2.1 j hj) (by simp)) _ HR.out.1)
end Go.Proofs.YtocligpfmfmihaaGreatDoor

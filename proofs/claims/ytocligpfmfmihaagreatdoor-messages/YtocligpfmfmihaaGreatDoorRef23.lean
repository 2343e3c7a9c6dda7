import Derived.Test.YtocligpfmfmihaaGreatDoorRef22
import Derived.Test.YtocligpfmfmihaaGreatDoorSgnG
namespace Go.Proofs.YtocligpfmfmihaaGreatDoor
open Go Go.RowKit Go.Maps

theorem sumM_filter {α : Type} (f : α → Bs) (p : α → Bool) (l : List α) : sumM f (l.filter p) ≤ sumM f l := by
  unfold sumM
  induction l with
  | nil => simp
  | cons a l ih =>
    rw [List.filter_cons]
    split
    · simp only [List.map_cons, List.sum_cons]
      omega
    · simp only [List.map_cons, List.sum_cons]
      omega
theorem filter_len (p : Bs × J → Bool) (l : List (Bs × J)) : (joinC ((l.filter p).map cMem)).length ≤ (joinC (l.map cMem)).length := by
  have h1 := joinC_len cMem (l.filter p)
  have h2 := joinC_len cMem l
  have h3 := sumM_filter cMem p l
  by_cases hf : l.filter p = []
  · rw [hf]
    simp [joinC]
  · have hl : l ≠ [] := by rintro rfl; exact hf rfl
    rw [if_neg hf] at h1
    rw [if_neg hl] at h2
    omega
theorem bare_len (l : List (Bs × J)) : (cJ (.obj (bareL l))).length ≤ (cJ (.obj l)).length := by
  rw [cJ_obj, cJ_obj, bareL]
  have h1 := filter_len (fun p => !decide (p.1 = kUns)) (delK kSig l)
  have h2 := filter_len (fun p => !decide (p.1 = kSig)) l
  simp only [List.length_cons, List.length_append, List.length_nil]
  unfold delK at h1 ⊢
  omega
/-- Bare of an object. -/
theorem rbareJ {w w0 : World} {F : Nat → Prop} {l : List (Bs × J)} {b : Nat} (h : RR w F (.obj l) b) (hF : ∀ k, F k → k < w.heap.size) (hlen : (cJ (.obj l)).length ≤ 1000000) (hk : Kp (fun _ => False) w w0) :
    Calls Tryz.prog 42 #[.pointer (some ⟨b, 0, none⟩)] w0 fun e w' => e = .returned (.string ⟨(bareF l).toArray⟩) ∧ Kp (fun _ => False) w0 w' := by
  generalize hJ : J.obj l = j at h
  cases h with
  | obj x K L hFb h hK hL hG hH hN hx =>
    injection hJ with hJ
    have h' := vkp h hk
    have hK' := ownsRow_kp hK hk (by simp)
    have hL' := ownsRow_kp hL hk (by simp)
    have hcnt := joinC_cnt ((ofL (x.map fun p => (p.1, p.2.1))).map cMem)
    have hol := ofL_len _ hN
    have hlen0 := hlen
    rw [hJ, cJ_obj] at hlen
    simp only [List.length_cons, List.length_append, List.length_nil, List.length_map] at hlen hcnt hol
    have hxl : x.length ≤ 1000000 := by omega
    have hbare : ofL ((x.filter fun p => keepB (p.1, p.2.2)).map fun p => (p.1, p.2.1)) = bareL l := by
      rw [bareL, hJ, ← ofL_filter, ← ofL_filter]
      congr 1
      rw [List.filter_filter]
      rw [List.filter_map]
      congr 1
      apply List.filter_congr
      intro p _
      simp only [keepB, Function.comp]
      rw [Bool.and_comm]
    have hlen2 : (cJ (.obj (bareL l))).length ≤ 1000000000 := by
      have hb := bare_len l
      have hl3 : (cJ (.obj l)).length ≤ 1000000 := hlen0
      omega
    refine (rbare_c w0 b (x.map fun p => (p.1, p.2.2)) K L h' (by simpa [List.map_map, Function.comp_def] using hK') (by simpa [List.map_map, Function.comp_def] using hL') (by simpa using hxl) (.obj (bareL l)) ?_)
    intro K' L' w1 K1 A1
    have hfm : (x.map fun p => (p.1, p.2.2)).filter keepB = (x.filter fun p => keepB (p.1, p.2.2)).map fun p => (p.1, p.2.2) := by
      rw [List.filter_map]
      rfl
    rw [hfm] at A1
    have hs := hk.size
    have hs1 := K1.size
    have tr : RR w1 (fun c => c < w1.heap.size) (.obj (ofL ((x.filter fun p => keepB (p.1, p.2.2)).map fun p => (p.1, p.2.1)))) w0.heap.size := by
      refine .obj (x.filter fun p => keepB (p.1, p.2.2)) K' L' (lt_heap A1.blk) A1.blk ?_ ?_ (fun k hk => (A1.rowK.lt k hk).2) (fun k hk => (A1.rowL.lt k hk).2) ?_ ?_
      · have := ownsRow_zero A1.rowK
        simpa [List.map_map, Function.comp_def] using this
      · have := ownsRow_zero A1.rowL
        simpa [List.map_map, Function.comp_def] using this
      · have hsub : ((x.filter fun p => keepB (p.1, p.2.2)).map fun p => (p.1, p.2.1)).Sublist (x.map fun p => (p.1, p.2.1)) := List.filter_sublist.map _
        unfold Nod at hN ⊢
        exact (hsub.map (fun q : Bs × J => q.1)).nodup hN
      · intro a i c hm
        exact (hx a i c (List.mem_filter.1 hm).1).frame (fun k hk2 => (K1.block k (by have := hF k hk2; omega) (by simp)).trans (hk.block k (hF k hk2) (by simp))) (fun k hk2 => by have := hF k hk2; omega)
    rw [hbare] at tr
    exact rtextJ tr hlen2 w1 (Kp.refl _ _)
  | _ => cases hJ
set_option maxRecDepth 20000 in
theorem rmessage_c (W : World) (hG : GL W) (s : ByteArray) (w : World) (ho : Below W.heap.size W w) :
    Calls Tryz.prog 17 #[.string s] w fun e w' => e = .returned (.tuple #[.string ⟨(messageF s.data.toList).1.toArray⟩, .int .i64 ((messageF s.data.toList).2 : Int)]) ∧ Kp (fun _ => False) w w' := by
  go_enter Tryz.func17, Tryz.ntmps17
  go_wp2_with fail
  refine (robject_c W hG s w ho).mono ?_
  rintro e w1 ⟨K1, ⟨n, hn, hof, rfl⟩ | ⟨o, b, hof, hle, rfl, hr⟩⟩
  · have HC : Hid (messageF s.data.toList = ([], n)) := by show _ = _; unfold messageF; rw [hof]; rfl
    have hn' : ((n : Int) != 0) = true := by simp; omega
    clear hof
    go_wp2
    go_ret2
    exact ⟨by rw [HC.out]; rfl, K1⟩
  · have HC : Hid (messageF s.data.toList = (bareF o, 0)) := by show _ = _; unfold messageF; rw [hof]; rfl
    have HB := hide (rbareJ (w0 := w1) hr (fun k hk => hk.2) (by omega) (Kp.refl _ _))
    clear hof hr hle
    go_wp2_with fail
    refine HB.out.mono ?_
    rintro e w2 ⟨rfl, K2⟩
    go_wp2
    go_ret2
    exact ⟨by rw [HC.out]; rfl, K1.trans K2⟩
set_option maxRecDepth 20000 in
theorem messages_c (W : World) (hN : NG W) (s : ByteArray) :
    Calls Tryz.prog 4 #[.string s] W fun e w' => e = .returned (.bool true) ∧ Kp (fun _ => False) W w' := by
  go_enter Tryz.func4, Tryz.ntmps4
  go_wp2_with fail
  refine (message_c W hN s W (Below.refl _ _)).mono ?_
  rintro e w1 ⟨rfl, K1⟩
  go_wp2_with fail
  refine (rmessage_c W hN.gl s w1 (below_kp (Below.refl _ W) K1)).mono ?_
  rintro e w2 ⟨rfl, K2⟩
  generalize (messageF s.data.toList).1 = a at *
  generalize (messageF s.data.toList).2 = n at *
  go_wp2
  all_goals
    go_ret
    exact ⟨by simp, K1.trans K2⟩
end Go.Proofs.YtocligpfmfmihaaGreatDoor

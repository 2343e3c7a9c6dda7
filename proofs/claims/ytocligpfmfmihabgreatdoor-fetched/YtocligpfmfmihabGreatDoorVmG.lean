import Derived.Test.YtocligpfmfmihabGreatDoorPr5
import Derived.Test.YtocligpfmfmihabGreatDoorPr12G
import Derived.Test.YtocligpfmfmihabGreatDoorChn6wG
import Derived.Test.YtocligpfmfmihabGreatDoorSemG
namespace Go.Proofs.YtocligpfmfmihabGreatDoor
open Go Go.RowKit Go.Maps Go.WideMaps Go.Sort Go.Shelf
/-- What a round must keep: rows that are no keys but for one variable; maps that were there. -/
def KpS (n0 ob : Nat) (W W' : World) : Prop := W.heap.size ≤ W'.heap.size ∧ (∀ k c t fz, W.heap[k]? = some (.cells c t fz) → t ≠ 120 → k ≠ ob → W'.heap[k]? = W.heap[k]?) ∧ (∀ k es cl, k < n0 → W.heap[k]? = some (.map es cl) → W'.heap[k]? = W.heap[k]?)
theorem KpS.t {n0 ob : Nat} {A B C : World} (h : KpS n0 ob A B) (k : KpS n0 ob B C) : KpS n0 ob A C := by
  refine ⟨Nat.le_trans h.1 k.1, ?_, ?_⟩
  · intro i c t fz h1 h2 h3
    have e := h.2.1 i c t fz h1 h2 h3
    exact (k.2.1 i c t fz (e.trans h1) h2 h3).trans e
  · intro i es cl h0 h1
    have e := h.2.2 i es cl h0 h1
    exact (k.2.2 i es cl h0 (e.trans h1)).trans e
theorem KpS.b {n0 ob : Nat} {w : World} (hn : n0 ≤ w.heap.size) (W : World) (l : Nat) (o o' : Obj) (hl : w.heap.size ≤ l) (h : W.heap[l]? = some o) (hc : o.isCells = false) (_ : o.isWalk = false) : KpS n0 ob W (W.putObj l o') := by
  have hg := grownBy_putObj' W l o'
  refine ⟨hg.size, ?_, ?_⟩
  · intro i c t fz h1 _ _
    refine hg.block i (lt_heap h1) ?_
    intro e
    injection e with e
    subst e
    rw [h] at h1
    injection h1 with h1
    subst h1
    cases hc
  · intro i es cl h0 h1
    exact hg.block i (lt_heap h1) (by intro e; injection e with e; omega)
attribute [local go_sem] Oper.semAt_some
set_option maxRecDepth 20000 in
set_option maxHeartbeats 1000000 in
theorem members3 (n : Nat) (hn : 3 ≤ n) (lr bx b n0 ob : Nat) (m : List (Bs × Value)) (hm : Srt m) (hml : m.length ≤ 1000000) (hkl : ∀ p ∈ m, p.1.length ≤ 139000000000000) (hif : ∀ p ∈ m, ∃ t u, p.2 = .iface t u) (J Jx : List (Fin m.length) → World → Prop)
    (W : World) (hJ : AbidesFrom W.heap.size J)
    (hY : ∀ pre x W1, J pre W1 → pre.length < m.length → YieldAt Fence.wide (n - 1) Tryz.prog lr (encM m x) W1 fun e W' =>
      (e = .returned (.bool true) ∧ J (pre ++ [x]) W' ∧ KpS n0 ob W1 W') ∨ (e = .returned (.bool false) ∧ Jx (pre ++ [x]) W'))
    (hbx : W.heap[bx]? = some (.cells #[.map (some b)] 76)) (hbo : bx ≠ ob) (hob : ob < W.heap.size) (hown : W.ownsMap Tryz.prog 9 Rv b m.length (dm m)) (hbn : b < n0) (h0 : J [] W) :
    CallsIn Fence.wide n Tryz.prog 148 #[.func (.yield lr) #[] #[], .pointer (some ⟨bx, 0, none⟩)] W fun e W' => (∃ v, e = .returned v) ∧
      ((∃ xs, xs = List.finRange m.length ∧ J xs W') ∨ (∃ pre, True ∧ Jx pre W')) := by
  obtain ⟨cx, fx⟩ := one_cells hbx
  have hsz : Maps.size (dm m) = m.length := dm_size m
  refine callsIn_of_wp Tryz.func148 rfl trivial ?_ rfl
  simp only [Tryz.ntmps148, List.size_toArray, List.length_cons, List.length_nil, Nat.reduceAdd, Nat.reduceSub, Array.replicate_succ, Array.replicate_zero, List.push_toArray, List.append_toArray, List.nil_append, List.cons_append]
  have h1n : 1 ≤ n := by omega
  have hfK : Fence.wide.fn 150 := trivial
  have hfS : Fence.wide.fn 149 := trivial
  gi_wp2_with (first
    | (gi_at_call 150; refine (callsIn_wide.2 (callsIn_wide.1 (Tryz.maps_Keys_150 _ _))).mono ?_; rintro e w' ⟨rfl, rfl⟩)
    | (gi_at_call 149; refine (callsIn_wide.2 (callsIn_wide.1 (Tryz.slices_Sorted_keys_149_150 b m.length (dm m) Rv W hown (by rw [hsz]; unfold maxLen; omega) (by rw [hsz]; omega)))).mono ?_; rintro e w' ⟨v, ss, rfl, hS, hrow, hnil, hb⟩; obtain ⟨sa, cap, g, cur, rfl, hsa⟩ := slice_shape hrow))
  have hss : ss.length = m.length := by rw [hS.length_eq]; simp [strKeys, dm]
  rw [sorted_keys hm hS] at hsa
  have J2 : J [] w' := hJ [] _ _ none (hJ [] _ _ none h0 (World.grownBy_alloc W _ none) (fun r e => by cases e)) (below_grown hb) (fun r e => by cases e)
  have hbx2 : w'.heap[bx]? = some (.cells #[.map (some b)] 76) := (hb.block bx (by simp; have := lt_heap hbx; omega)).trans ((Below.heap_alloc _ _ _ (lt_heap hbx)).trans hbx)
  have hown2 : w'.ownsMap Tryz.prog 9 Rv b m.length (dm m) := ownsMap_heap hown ((hb.block b (by simp; have := hown.lt; omega)).trans (Below.heap_alloc _ _ _ hown.lt))
  have hgo : 0 < m.length → g ≠ ob := by
    intro h
    rw [hss] at hsa
    have := (hsa h).2.1
    simp at this
    omega
  clear hrow hnil hS
  generalize ss.length = L at *
  subst hss
  have HS := hide (And.intro hsa hgo)
  clear hsa hgo hsz cx fx hb
  gi_wp2_with fail
  have hmm : (m.length : Int) ≤ 1000000 := by omega
  gi_loopw [9] (fun i wr => ∃ k : Nat, k ≤ m.length ∧ i = .int .i64 (k : Int) ∧ J ((List.finRange m.length).take k) wr ∧ wr.heap[bx]? = some (.cells #[.map (some b)] 76) ∧ (0 < m.length → wr.heap[g]? = some (.cells cur 9)) ∧ wr.ownsMap Tryz.prog 9 Rv b m.length (dm m)) (fun i _ => m.length - (intOf i).toNat)
  case atStart => exact ⟨0, by omega, rfl, by simpa using J2, hbx2, fun h => (HS.out.1 h).2.2.1, hown2⟩
  case round =>
    obtain ⟨k, hk, rfl, hJr, hbr, hgr, hor⟩ := hrel
    by_cases hlt : k < m.length
    · obtain ⟨rfl, hg1, hg2, hcap, hcur⟩ := HS.out.1 (by omega)
      have hgr' := hgr (by omega)
      obtain ⟨tt, u, hif'⟩ := hif m[k] (List.getElem_mem hlt)
      have hck : wr.cell? ⟨g, k, none⟩ = some (.string ⟨m[k].1.toArray⟩) := by
        have e1 := hcur k hlt
        simp only [List.getElem?_map, List.getElem?_eq_getElem hlt, Option.map_some] at e1
        simp [World.cell?, hgr', e1]
      have hlook : lookK m[k].1 m = some m[k].2 := look_nth m hm k hlt
      obtain ⟨lv, lps, hlk, hlr⟩ := hor.lookup keyed Tryz.underlying76 (zeroV wr) (R := Rv) (zd := .held .nilIface) (zp := []) rfl (key_mk2 (hkl m[k] (List.getElem_mem hlt)))
      have hlv : lv = .iface tt u := by
        rw [dm_at, hlook] at hlr
        simp only [Rv, Option.some.injEq, Prod.mk.injEq, DataW.held.injEq] at hlr
        rw [hlr.1, hif']
      rw [hlv] at hlk
      obtain ⟨cx, fx⟩ := one_cells hbr
      have htl : ((List.finRange m.length).take k).length < m.length := by simp; omega
      obtain ⟨fn, tmps, assign, body, hy, hR⟩ := hY _ ⟨k, hlt⟩ wr hJr htl
      simp only [encM, Fin.getElem_fin, hif'] at hy
      generalize m[k].1 = key at *
      have hlt' : decide ((k : Int) < (m.length : Int)) = true := by simp; omega
      have HX := hide (And.intro hbr (And.intro hgr' hor))
      clear hlook hlr hlv hif' hbr hgr hgr' hor hcur hg2
      have htk : (List.finRange m.length).take (k + 1) = (List.finRange m.length).take k ++ [⟨k, hlt⟩] := by
        rw [List.take_succ_eq_append_getElem (by simpa using hlt)]
        simp
      have HT := hide htk
      clear htk
      gi_wp2
      refine hR.mono ?_
      rintro e W3 (⟨rfl, hJ3, hk3⟩ | ⟨rfl, hJx3⟩)
      · have hx1 := hk3.2.1 bx _ _ _ HX.out.1 (by decide) hbo
        have hx2 := hk3.2.1 g _ _ _ HX.out.2.1 (by decide) (HS.out.2 (by omega))
        have hx3 : W3.ownsMap Tryz.prog 9 Rv b m.length (dm m) := by
          obtain ⟨es, cl, q1, q2⟩ := HX.out.2.2
          exact ⟨es, cl, (hk3.2.2 b es cl hbn q1).trans q1, q2⟩
        have HZ := hide (And.intro (hx1.trans HX.out.1) (And.intro (hx2.trans HX.out.2.1) hx3))
        clear hx1 hx2 hx3
        gi_wp2
        go_roundw
        case rel => exact ⟨k + 1, by omega, int_i64 (by omega), by rw [HT.out]; exact hJ3, HZ.out.1, fun _ => HZ.out.2.1, HZ.out.2.2⟩
        case measure => simp [intOf]; omega
      · gi_wp2
        refine bodyPost_ret (results_none rfl _ _ _) rfl ?_
        exact ⟨⟨_, rfl⟩, .inr ⟨_, trivial, hJx3⟩⟩
    · have hlt' : decide ((k : Int) < (m.length : Int)) = false := by simp; omega
      gi_wp2
      go_end0
      refine ⟨⟨_, rfl⟩, .inl ⟨_, rfl, ?_⟩⟩
      have e1 : (List.finRange m.length).take k = List.finRange m.length := List.take_of_length_le (by simp; omega)
      rw [e1] at hJr
      exact hJr
end Go.Proofs.YtocligpfmfmihabGreatDoor
namespace Go.Proofs.YtocligpfmfmihabGreatDoor
open Go Go.RowKit Go.Maps Go.WideMaps Go.Sort Go.Shelf
attribute [local go_sem] Oper.semAt_some
theorem infoSg : (Tryz.prog.info? 120).map (fun i => (i.zero, i.size, i.bytes)) = some (some (.agg #[.string ⟨#[]⟩, .string ⟨#[]⟩]), 2, 32) := by kernel_rfl
/-- The invariant of the rounds. -/
def SIv (X0 : World) (kb : Nat) (m : List (Bs × J)) (n : Nat) (pre : List (Fin n)) (X : World) : Prop :=
  ∃ vv ys, X.heap[kb]? = some (.cells #[vv] 65) ∧ X.ownsRow X0.heap.size 120 2 vv ys.length (ys.flatMap sgC) ∧ (pre.map fun i => nthM m i.val).filterMap sgP = ys ∧ Kp (· = kb) X0 X
theorem SIv.own {X0 : World} {kb : Nat} {m : List (Bs × J)} {n : Nat} : OwnFrom X0.heap.size (SIv X0 kb m n) := by
  rintro pre X Y row ⟨vv, ks, h1, h2, h3, h4⟩ hg hr
  refine ⟨vv, ks, grown_cells hg (fun r e => (hr r e).2) h1, ownsRow_heap h2 ?_, h3, h4.gr hg (fun r e => (hr r e).1)⟩
  intro k e
  obtain ⟨_, ⟨rfl, _⟩ | ⟨g, cap, cur, rfl, _, hh, _⟩⟩ := h2
  · cases e
  · injection e with e
    subst e
    rw [grown_cells hg (fun r e => (hr r e).2) hh, hh]
theorem siv_next {X0 X1 X5 X6 : World} {kb : Nat} {m : List (Bs × J)} {n : Nat} {pre : List (Fin n)} {x : Fin n} {vv v' : Value} {ks : List (Bs × Bs)} {kk : Bs × Bs}
    (K0 : Kp (· = kb) X0 X1) (h15 : Kp (fun _ => False) X1 X5) (row : X1.ownsRow X0.heap.size 120 2 vv ks.length (ks.flatMap sgC)) (hk1 : X1.heap[kb]? = some (.cells #[vv] 65)) (hkb : kb < X0.heap.size)
    (y1 : X6.ownsRow X0.heap.size 120 2 v' (ks.length + 1) (ks.flatMap sgC ++ sgC kk)) (y2 : X5.grownBy X6 vv.ownBlock) (hF : ((pre ++ [x]).map fun i => nthM m i.val).filterMap sgP = ks ++ [kk]) :
    KeepsOthers X1 (X6.setCell ⟨kb, 0, none⟩ v') ∧ KpS X0.heap.size kb X1 (X6.setCell ⟨kb, 0, none⟩ v') ∧ SIv X0 kb m n (pre ++ [x]) (X6.setCell ⟨kb, 0, none⟩ v') := by
  have h16 : Kp (fun k => k = kb ∨ vv.ownBlock = some k) X1 (X6.setCell ⟨kb, 0, none⟩ v') :=
    Kp.setCell (S := fun k => k = kb ∨ vv.ownBlock = some k) (p := ⟨kb, 0, none⟩) ((h15.mono (fun _ _ h => h.elim)).grown y2 (fun k e _ => Or.inr e)) (fun _ => Or.inl rfl) _
  have h6 : X6.heap[kb]? = some (.cells #[vv] 65) := by
    rw [y2.block kb (Nat.lt_of_lt_of_le (lt_heap hk1) h15.size) ?_]
    · exact h15.heap hk1
    · intro e
      have := (row.lt _ e.symm).1
      omega
  refine ⟨kp_keeps h16 ?_, ⟨h16.size, ?_, ?_⟩, v', ks ++ [kk], one_set h6 _, ?_, hF, ?_⟩
  · rintro k (rfl | e)
    · exact ⟨_, _, _, hk1⟩
    · obtain ⟨c, hc⟩ := row_blk row e
      exact ⟨_, _, _, hc⟩
  · intro k c t fz h1 h2 h3
    refine h16.block k (lt_heap h1) ?_
    rintro (e | e)
    · exact h3 e
    · obtain ⟨c', hc⟩ := row_blk row e
      rw [hc] at h1
      injection h1 with h1
      injection h1 with _ h1 _
      exact h2 h1.symm
  · intro k es cl h0 h1
    refine h16.block k (lt_heap h1) ?_
    rintro (rfl | e)
    · rw [hk1] at h1; injection h1 with h1; cases h1
    · obtain ⟨c', hc⟩ := row_blk row e
      rw [hc] at h1; injection h1 with h1; cases h1
  · have e9 : List.flatMap sgC (ks ++ [kk]) = ks.flatMap sgC ++ sgC kk := by simp
    rw [e9, List.length_append]
    refine ownsRow_heap y1 ?_
    intro j hj
    have := (y1.lt j hj).1
    rw [heap_set_other (by exact (show j ≠ kb by omega))]
  · refine K0.and h16 ?_
    rintro k hk (e | e)
    · exact e
    · have := (row.lt k e).1
      omega
theorem kid_ok {d : Nat} {k : Bs} {l : List (Bs × J)} (hwf : WF (d + 2) (.obj l)) (hcl : (cJ (.obj l)).length ≤ 600) : WF (d + 1) (.obj (childF k l)) ∧ (cJ (.obj (childF k l))).length ≤ 600 := by
  refine ⟨WF_child d k l hwf, ?_⟩
  unfold childF
  split
  · rename_i m hm
    exact Nat.le_trans (child_len hm) hcl
  · simp [cJ_obj, joinC]
theorem obj_fits {d : Nat} {m : List (Bs × J)} (hw : WF (d + 1) (.obj m)) (hl : (cJ (.obj m)).length ≤ 600) : Srt m ∧ m.length ≤ 1000 ∧ ∀ p ∈ m, p.1.length ≤ 1000 := by
  have hs : Srt m := by
    simp only [WF] at hw
    exact hw.1
  have hc := cnt_le (.obj m)
  have hg := (cntm_ge m).1
  simp only [cnt] at hc
  refine ⟨hs, by omega, ?_⟩
  intro p hp
  have h1 := mem_len hp
  have h2 := cStr_geq p.1
  unfold cMem at h1
  rw [List.length_append] at h1
  omega
theorem kid2 {s : Bs} {l : List (Bs × J)} (hwf : WF 6 (.obj l)) (hcl : (cJ (.obj l)).length ≤ 600) : Srt (childF s (childF kSig l)) ∧ (childF s (childF kSig l)).length ≤ 1000 ∧ ∀ p ∈ childF s (childF kSig l), p.1.length ≤ 1000 := by
  obtain ⟨h1, h2⟩ := kid_ok (k := kSig) hwf hcl
  obtain ⟨h3, h4⟩ := kid_ok (k := s) h1 h2
  exact obj_fits h3 h4
set_option maxRecDepth 20000 in
set_option maxHeartbeats 4000000 in
theorem signaturesOf_c (w : World) (l : List (Bs × J)) (b : Nat) (ho : Oz w l b) (hwf : WF 6 (.obj l)) (hcl : (cJ (.obj l)).length ≤ 600) (s : Bs) (hs : s.length ≤ 1000) :
    Calls Tryz.prog 74 #[.map (some b), .string ⟨s.toArray⟩] w fun e w' => Kp (fun _ => False) w w' ∧ ∃ v, e = .returned v ∧ w'.ownsRow w.heap.size 120 2 v (sigF l s).length ((sigF l s).flatMap sgC) := by
  refine (callsIn_wide (n := 8)).1 ?_
  refine callsIn_of_wp_marks Tryz.func74 rfl trivial ?_ rfl
  simp only [Tryz.ntmps74, List.size_toArray, List.length_cons, List.length_nil, Nat.reduceAdd, Nat.reduceSub, Array.replicate_succ, Array.replicate_zero, List.push_toArray, List.append_toArray, List.nil_append, List.cons_append]
  have hfM : Fence.wide.fn 118 := trivial
  have hfO : Fence.wide.fn 70 := trivial
  have K0 : Kp (fun _ => False) w (w.alloc (.cells #[.slice none 0 0] 65)) := (Kp.refl _ _).alloc _
  have I0 := heap_alloc_new w (.cells #[.slice none 0 0] 65)
  have HO := hide (ho.up K0)
  have HC1 := hide (oz_child _ l b kSig (by decide) HO.out)
  clear ho
  gi_wp2_with fail
  generalize (w.alloc (.cells #[.slice none 0 0] 65)) = w0 at *
  refine (callsIn_wide.2 HC1.out).mono ?_
  rintro e w1 ⟨b1, rfl, K1, o1⟩
  have HC2 := hide (oz_child w1 (childF kSig l) b1 s (by omega) o1)
  clear HC1 o1 HO
  gi_wp2_with fail
  refine (callsIn_wide.2 HC2.out).mono ?_
  rintro e w2 ⟨b2, rfl, K2, o2⟩
  have K02 := K1.trans K2
  have I2 := K02.heap I0
  have Kw2 := K0.trans K02
  clear HC2 K1 K2
  gi_wp2_with (gi_at_call 118; refine (callsIn_wide.2 (members_c _ _)).mono ?_; rintro e w' ⟨rfl, rfl⟩)
  have KX : Kp (fun _ => False) w2 (w2.alloc (.cells #[.map (some b2)] 76)) := (Kp.refl _ _).alloc _
  have x3 := heap_alloc_new w2 (.cells #[.map (some b2)] 76)
  have hX0s : (w2.alloc (.cells #[.map (some b2)] 76)).heap.size = w2.heap.size + 1 := by simp
  generalize (w2.alloc (.cells #[.map (some b2)] 76)) = X0 at *
  have I0X := KX.heap I2
  have hlX := o2.up KX
  have KwX := Kw2.trans KX
  obtain ⟨hsl, hml, hkl⟩ := kid2 (s := s) hwf hcl
  have hsg : sigF l s = (childF s (childF kSig l)).filterMap sgP := rfl
  generalize childF s (childF kSig l) = m at *
  obtain ⟨b', mv, e', hFb, hownX, hrep⟩ := hlX.shape
  cases e'
  have hmlen := Repm.len hrep
  have hsm : Srt mv := srt_keys (Repm.keys m mv hrep) hsl
  have hkv : ∀ p ∈ mv, p.1.length ≤ 139000000000000 := by
    intro p hp
    obtain ⟨j, hj, rfl⟩ := List.getElem_of_mem hp
    obtain ⟨q, r1, r2, r3, r4⟩ := Repm.get m mv j hj hrep
    rw [r3]
    have := hkl q r2
    omega
  have hif : ∀ p ∈ mv, ∃ t u, p.2 = .iface t u := by
    intro p hp
    obtain ⟨j, hj, rfl⟩ := List.getElem_of_mem hp
    obtain ⟨q, r1, r2, r3, r4⟩ := Repm.get m mv j hj hrep
    exact Rep.iface r4
  have hbn := hownX.lt
  have hwl := lt_heap I2
  have hI0 : SIv X0 w.heap.size m mv.length [] X0 := ⟨_, [], I0X, ⟨by simp, Or.inl ⟨rfl, rfl⟩⟩, rfl, Kp.refl _ _⟩
  refine wpIn_rangeFunc_ownF (α := Fin mv.length) rfl (by decide) (gf := 148) (lb := #[.pointer (some ⟨w2.heap.size, 0, none⟩)]) rfl trivial (enters_of Tryz.func148 (by kernel_rfl) rfl)
    (encs := encM mv) (Kp := KpS X0.heap.size w.heap.size) (S := fun xs => xs = List.finRange mv.length) (Sp := fun _ => True) (N := mv.length) (w0 := X0)
    (fun lr J Jx W1 hbl hJ _ hY h0 => members3 7 (by decide) lr w2.heap.size b2 X0.heap.size w.heap.size mv hsm (by omega) hkv hif J Jx W1 hJ hY ((hbl.block _ (by omega)).trans x3) (by omega) (by have := hbl.size; omega) (ownsMap_heap hownX (hbl.block _ (by omega))) hbn h0)
    KpS.t (KpS.b (Nat.le_refl _)) (Below.refl _ _) (fun _ => rfl)
    (SIv X0 w.heap.size m mv.length) (fun _ _ _ => False) SIv.own (fun _ => fun _ _ _ _ h => h.elim) hI0
    (fun x => { tmps := #[Value.map (some b), Value.string ⟨s.toArray⟩, undef, undef, Value.slice none 0 0, Value.pointer (some ⟨w.heap.size, 0, none⟩), .string ⟨mv[x].1.toArray⟩, mv[x].2, undef, undef, Value.map (some b), Value.map (some b1), Value.string ⟨s.toArray⟩, Value.map (some b2), Value.func (Fn.func 148) #[] #[Value.pointer (some ⟨w2.heap.size, 0, none⟩)], .string ⟨mv[x].1.toArray⟩, mv[x].2, undef, undef, undef, undef, undef, undef, undef, undef, undef, undef, undef, undef, undef], defers := [] }) ?assign ?body ?done ?stop
  case assign =>
    intro l x W K hK
    simp only [encM]
    gi_wp2
    exact hK
  case body =>
    rintro lr pre x X ⟨vv, ys, i1, i2, i3, i4⟩ hpre
    obtain ⟨p, hp1, hp2, hp3, hp4⟩ := Repm.get m mv x.val x.2 hrep
    have hgx : mv[x].1 = p.1 := hp3
    have hrp : Rep X0 _ p.2 mv[x].2 := hp4
    generalize mv[x].2 = xv at *
    generalize mv[x].1 = xk at hgx ⊢
    subst hgx
    have hnth : nthM m x.val = p := by unfold nthM; rw [hp1]; rfl
    have hsn : ((pre ++ [x]).map fun i => nthM m i.val).filterMap sgP = ys ++ [p].filterMap sgP := by
      rw [List.map_append, List.filterMap_append, i3, List.map_cons, List.map_nil, hnth]
    have hud : UdV X0 (some p.2) xv := Rep.mono (fun j hj => hj) _ hrp
    obtain ⟨ck, gk⟩ := one_cells i1
    have hlen : ys.length ≤ pre.length := by
      rw [← i3]
      have := List.length_filterMap_le sgP (pre.map fun i => nthM m i.val)
      simpa using this
    have hprl : pre.length < 100000 := by omega
    obtain ⟨tt, uu, hxi⟩ : ∃ t u, xv = .iface t u := by
      rcases hud.shape with h | h
      · have := Rep.iface hrp
        rw [h] at this
        obtain ⟨_, _, e⟩ := this
        cases e
      · exact h
    rcases ud_str hud with ⟨t, ht, hta⟩ | ⟨ht, hta⟩
    · have hsp : sgP p = some (p.1, t) := by
        unfold sgP
        unfold strF at ht
        split at ht
        · rename_i q hq
          injection hq with hq
          injection ht with ht
          rw [hq, ht]
        · cases ht
      have hF : ((pre ++ [x]).map fun i => nthM m i.val).filterMap sgP = ys ++ [(p.1, t)] := by rw [hsn]; simp [hsp]
      have HF := hide hF
      clear hF hsn hsp ht hrp hp4 hud hnth i3 hp1 hp2 hp3
      rw [hxi] at hta ⊢
      have row4 := i2.alloc (.cells #[.string ⟨p.1.toArray⟩, .string ⟨t.toArray⟩] 120)
      have KB4 : Kp (fun _ => False) X (X.alloc (.cells #[.string ⟨p.1.toArray⟩, .string ⟨t.toArray⟩] 120)) := (Kp.refl _ _).alloc _
      obtain ⟨i0, hi, hz0, hz1, hz2⟩ := info_parts infoSg
      have hs1 := i4.size
      gi_wp2_with (gi_at_builtin; (refine wpListIn_append_own_at _ rfl _ _ 65 rfl X0.heap.size 120 i0 (.agg #[.string ⟨#[]⟩, .string ⟨#[]⟩]) 2 32 Tryz.underlying65 hi hz0 hz1 hz2 rfl (by decide) _ _ _ rfl row4 ⟨X.heap.size, 0, none⟩ 1 1 (sgC (p.1, t)) rfl rfl ?_ (by intro u hu; simp [sgC] at hu; rcases hu with rfl | rfl <;> rfl) (by unfold maxLen; omega) (by omega) (by simp; omega) ?_))
      · intro j u hj
        rcases j with _ | _ | j
        all_goals simp [sgC] at hj
        all_goals subst hj
        all_goals simp [Addr.add]
      intro v' X6 y1 y2 _ _
      rw [← hX0s] at y1
      obtain ⟨va', vc', rfl, _, _⟩ := own_sl y1
      have k6 : X6.heap[w.heap.size]? = some (.cells #[vv] 65) := by
        have h9 := KB4.heap i1
        rw [y2.block _ (lt_heap h9) ?_]
        · exact h9
        · intro e
          have := (i2.lt _ e.symm).1
          omega
      obtain ⟨ck6, gk6⟩ := one_cells k6
      have HFIN := hide (siv_next (m := m) (pre := pre) (x := x) i4 KB4 i2 i1 (by omega) y1 y2 HF.out)
      clear y1 y2 ck gk row4 KB4
      gi_wp2
      exact HFIN.out
    · have hsp : sgP p = none := by
        unfold sgP
        unfold strF at ht
        split
        · rename_i q hq
          rw [hq] at ht
          cases ht
        · rfl
      have hF : ((pre ++ [x]).map fun i => nthM m i.val).filterMap sgP = ys := by rw [hsn]; simp [hsp]
      have HF := hide hF
      clear hF hsn hsp ht hrp hp4 hud hnth i3 hp1 hp2 hp3
      rw [hxi] at hta ⊢
      gi_wp2
      exact ⟨KeepsOthers.refl _, ⟨Nat.le_refl _, fun _ _ _ _ _ _ _ => rfl, fun _ _ _ _ _ => rfl⟩, vv, ys, i1, i2, HF.out, i4⟩
  case done =>
    rintro D ys X hD rfl ⟨vv, ks, i1, i2, i3, i4⟩ hK
    rw [nthM_list m mv.length hmlen] at i3
    have KwX' : Kp (fun _ => False) w X := KwX.and i4 (by intro i hi e; omega)
    obtain ⟨ck, _⟩ := one_cells i1
    obtain ⟨va, vc, rfl, _, _⟩ := own_sl i2
    have HZ := hide (hsg.trans i3)
    clear hsg i3
    gi_wp2_with fail
    have hg := grownBy_putObj' X D (.deferred none)
    have hr : ∀ r, some D = some r → ∃ o : Obj, X.heap[r]? = some o ∧ o.isCells = false := fun r e => by cases e; exact ⟨_, hK, rfl⟩
    refine ⟨by simp, .inl ⟨_, _, rfl, run_takeDeferred hK, ?_⟩⟩
    refine ⟨_, results_tmp rfl _ _ _, ?_⟩
    rw [HZ.out]
    have hwX := KwX.size
    refine ⟨KwX'.gr hg (fun r e => by cases e; omega), _, rfl, own_base (by omega) (ownsRow_heap i2 ?_)⟩
    intro k' e
    obtain ⟨_, ⟨e1, _⟩ | ⟨g, cap', cur, e1, _, hh, _⟩⟩ := i2
    · rw [e1] at e; cases e
    · rw [e1] at e
      injection e with e
      subst e
      rw [grown_cells hg hr hh, hh]
  case stop =>
    rintro D c pre X hD _ h hK
    exact h.elim
end Go.Proofs.YtocligpfmfmihabGreatDoor

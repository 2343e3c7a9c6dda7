import Derived.Test.YtocligpfmfmihabGreatDoorPr2G
namespace Go.Proofs.YtocligpfmfmihabGreatDoor
open Go Go.RowKit Go.Maps Go.WideMaps Go.Sort Go.Shelf
attribute [local go_sem] Oper.semAt_some
theorem set_alloc {X : World} {q : Nat} {v : Value} {o : Obj} (h : q < X.heap.size) : (X.setCell ⟨q, 0, none⟩ v).alloc o = (X.alloc o).setCell ⟨q, 0, none⟩ v := by
  unfold World.setCell World.alloc
  congr 1
  apply Array.ext_getElem?
  intro j
  simp only [Array.getElem?_push, Array.getElem?_modify, Array.size_modify]
  by_cases hj : j = X.heap.size
  · subst hj
    have : q ≠ X.heap.size := by omega
    simp [this]
  · simp [hj]
theorem kix_drew {W w X Y : World} {q z : Nat} {old : Bool} {till : Int} {m : List (Bs × J)} {n : Nat} {pre : List (Fin n)} {ev x y : Value} (hXY : Kp (fun _ => False) X Y) (hwY : Kp (fun _ => False) w Y) (hq : X.heap[q]? = some (.cells #[x] 81)) (hz : X.heap[z]? = some (.cells #[y] 58)) (hqz : q ≠ z) (hwq : w.heap.size ≤ q) (hwz : w.heap.size ≤ z) (he : Ech W Y ev) (hn : keysF old till m = none) :
    KeepsOthers X ((Y.setCell ⟨q, 0, none⟩ (.slice none 0 0)).setCell ⟨z, 0, none⟩ ev).drew ∧ KIx W w q z old till m n .ret pre ((Y.setCell ⟨q, 0, none⟩ (.slice none 0 0)).setCell ⟨z, 0, none⟩ ev).drew :=
  kix_out (Y := Y.drew) hXY.drew hwY.drew hq hz hqz hwq hwz (he.up (Kp.refl _ _).drew) hn
theorem kix_alt {W w X : World} {o : Obj} {q z : Nat} {old : Bool} {till : Int} {m : List (Bs × J)} {n : Nat} {pre : List (Fin n)} {ev x y : Value} (hXY : Kp (fun _ => False) X (X.alloc o)) (hwY : Kp (fun _ => False) w (X.alloc o)) (hq : X.heap[q]? = some (.cells #[x] 81)) (hz : X.heap[z]? = some (.cells #[y] 58)) (hqz : q ≠ z) (hwq : w.heap.size ≤ q) (hwz : w.heap.size ≤ z) (he : Ech W (X.alloc o) ev) (hn : keysF old till m = none) :
    KeepsOthers X (((X.setCell ⟨q, 0, none⟩ (.slice none 0 0)).alloc o).setCell ⟨z, 0, none⟩ ev).drew ∧ KIx W w q z old till m n .ret pre (((X.setCell ⟨q, 0, none⟩ (.slice none 0 0)).alloc o).setCell ⟨z, 0, none⟩ ev).drew := by
  rw [set_alloc (lt_heap hq)]
  exact kix_drew hXY hwY hq hz hqz hwq hwz he hn
theorem own_cells {w : World} {B : Nat} {v : Value} {n : Nat} {xs : List Value} (h : w.ownsRow B 148 4 v n xs) {k : Nat} (hk : v.ownBlock = some k) : B ≤ k ∧ ∃ c, w.heap[k]? = some (.cells c 148) := by
  rcases h.2 with ⟨rfl, _⟩ | ⟨g, cap, cur, rfl, hB, hh, _⟩
  · cases hk
  · injection hk with hk
    subst hk
    exact ⟨hB, cur, hh⟩
theorem kiv_next {X0 X1 X5 X6 : World} {kb : Nat} {old : Bool} {till : Int} {m : List (Bs × J)} {n : Nat} {pre : List (Fin n)} {x : Fin n} {vv v' : Value} {ks : List Ky} {kk : Ky}
    (K0 : Kp (· = kb) X0 X1) (h15 : Kp (fun _ => False) X1 X5) (row : X1.ownsRow X0.heap.size 148 4 vv ks.length (ks.flatMap kyC)) (hk1 : X1.heap[kb]? = some (.cells #[vv] 81)) (hkb : kb < X0.heap.size)
    (y1 : X6.ownsRow X0.heap.size 148 4 v' (ks.length + 1) (ks.flatMap kyC ++ kyC kk)) (y2 : X5.grownBy X6 vv.ownBlock) (hF : keysF old till ((pre ++ [x]).map fun i => nthM m i.val) = some (ks ++ [kk])) :
    KeepsOthers X1 (X6.setCell ⟨kb, 0, none⟩ v') ∧ KpT X0.heap.size kb X1 (X6.setCell ⟨kb, 0, none⟩ v') ∧ KIv X0 kb old till m n (pre ++ [x]) (X6.setCell ⟨kb, 0, none⟩ v') := by
  have h16 : Kp (fun k => k = kb ∨ vv.ownBlock = some k) X1 (X6.setCell ⟨kb, 0, none⟩ v') :=
    Kp.setCell (S := fun k => k = kb ∨ vv.ownBlock = some k) (p := ⟨kb, 0, none⟩) ((h15.mono (fun _ _ h => h.elim)).grown y2 (fun k e _ => Or.inr e)) (fun _ => Or.inl rfl) _
  have h6 : X6.heap[kb]? = some (.cells #[vv] 81) := by
    rw [y2.block kb (Nat.lt_of_lt_of_le (lt_heap hk1) h15.size) ?_]
    · exact h15.heap hk1
    · intro e
      have := (own_cells row e.symm).1
      omega
  refine ⟨kp_keeps h16 ?_, ⟨h16.size, ?_, ?_⟩, v', ks ++ [kk], one_set h6 _, ?_, hF, ?_⟩
  · rintro k (rfl | e)
    · exact ⟨_, _, _, hk1⟩
    · obtain ⟨_, c, hc⟩ := own_cells row e
      exact ⟨_, _, _, hc⟩
  · intro k c t fz h1 h2 h3
    refine h16.block k (lt_heap h1) ?_
    rintro (e | e)
    · exact h3 e
    · obtain ⟨_, c', hc⟩ := own_cells row e
      rw [hc] at h1
      injection h1 with h1
      injection h1 with _ h1 _
      exact h2 h1.symm
  · intro k es cl h0 h1
    refine h16.block k (lt_heap h1) ?_
    rintro (rfl | e)
    · rw [hk1] at h1; injection h1 with h1; cases h1
    · obtain ⟨_, c', hc⟩ := own_cells row e
      rw [hc] at h1; injection h1 with h1; cases h1
  · have e9 : List.flatMap kyC (ks ++ [kk]) = ks.flatMap kyC ++ kyC kk := by simp
    rw [e9, List.length_append]
    refine ownsRow_heap y1 ?_
    intro j hj
    have := (own_cells y1 hj).1
    rw [heap_set_other (by exact (show j ≠ kb by omega))]
  · refine K0.and h16 ?_
    rintro k hk (e | e)
    · exact e
    · have := (own_cells row e).1
      omega
set_option maxRecDepth 20000 in
set_option maxHeartbeats 4000000 in
theorem keysUnder_c (W : World) (hN : NG2 W) (w : World) (hW : Below W.heap.size W w) (l : List (Bs × J)) (b : Nat) (k : Bs) (hk : k.length ≤ 139000000000000) (ho : Oz w l b)
    (fn : Nat) (cap : Array Value) (P : World → Prop) (old : Bool) (till : Int) (hone : OneC W fn cap P old till) (hent : ∀ args w, (callFunc fn args).run Tryz.prog w = .ok (.enter fn args) w) (hPs : ∀ w w', P w → Kp (fun _ => False) w w' → P w') (hP : P w)
    (hch : ∀ m, objF (lookK k l) = some m → Srt m ∧ m.length ≤ 1000 ∧ ∀ p ∈ m, p.1.length ≤ 1000) :
    Calls Tryz.prog 135 #[.map (some b), .string ⟨k.toArray⟩, .func (.func fn) #[] cap] w fun e w' => KuR W w ((objF (lookK k l)).bind (keysF old till)) e w' := by
  obtain ⟨en, hen, hpn⟩ := hN.sml 12 (by simp)
  refine (callsIn_wide (n := 8)).1 ?_
  refine callsIn_of_wp_marks Tryz.func135 rfl trivial ?_ rfl
  simp only [Tryz.ntmps135, List.size_toArray, List.length_cons, List.length_nil, Nat.reduceAdd, Nat.reduceSub, Array.replicate_succ, Array.replicate_zero, List.push_toArray, List.append_toArray, List.nil_append, List.cons_append]
  have hfM : Fence.wide.fn 118 := trivial
  have hfO : Fence.wide.fn 166 := trivial
  have K0 : Kp (fun _ => False) w ((((w.alloc (.cells #[.string ⟨k.toArray⟩] 9)).alloc (.cells #[.func (.func fn) #[] cap] 267)).alloc (.cells #[.slice none 0 0] 81)).alloc (.cells #[.nilIface] 58)) := ((((Kp.refl _ w).alloc _).alloc _).alloc _).alloc _
  obtain ⟨n0, f0, q0, z0⟩ := four_new w (.cells #[.string ⟨k.toArray⟩] 9) (.cells #[.func (.func fn) #[] cap] 267) (.cells #[.slice none 0 0] 81) (.cells #[.nilIface] 58)
  have HOB := hide (objectUnder_c W hN _ (below_kp hW K0) l b k hk (ho.up K0))
  gi_wp2_with fail
  generalize ((((w.alloc (.cells #[.string ⟨k.toArray⟩] 9)).alloc (.cells #[.func (.func fn) #[] cap] 267)).alloc (.cells #[.slice none 0 0] 81)).alloc (.cells #[.nilIface] 58)) = w0 at *
  refine (callsIn_wide.2 HOB.out).mono ?_
  rintro e w1 ⟨K1, h1⟩
  have HK1 := hide (K0.trans K1)
  have n1 := K1.heap n0
  have f1 := K1.heap f0
  have q1 := K1.heap q0
  have z1 := K1.heap z0
  have hz1 := lt_heap z1
  clear HOB K1 n0 f0 q0 z0 K0
  cases hof : objF (lookK k l) with
  | none =>
    rw [hof] at h1
    obtain ⟨ev, rfl, he⟩ := h1
    obtain ⟨tt, u, rfl⟩ := he.iface
    have Ka : Kp (fun _ => False) w1 (w1.alloc (.cells #[.map none] 76)) := (Kp.refl _ _).alloc _
    have q2 := Ka.heap q1
    have z2 := Ka.heap z1
    obtain ⟨cq2, fq2⟩ := one_cells q2
    obtain ⟨cz2, fz2⟩ := one_cells z2
    have HZ := hide (And.intro hof (And.intro (he.up Ka) (HK1.out.trans Ka)))
    clear hof he hch
    gi_wp2_with fail
    obtain ⟨s1, s2⟩ := set_two (a := .slice none 0 0) (b := .iface tt u) q2 z2 (by omega)
    refine ⟨_, ku_results _ rfl rfl s1 s2, ?_⟩
    rw [HZ.out.1]
    exact ⟨set_kp2 HZ.out.2.2 (by omega) (by omega), _, rfl, ech2 HZ.out.2.1 q2 z2 (by decide) (by decide)⟩
  | some m =>
    rw [hof] at h1
    obtain ⟨lb, rfl, hlb⟩ := h1
    obtain ⟨hsl, hml, hkl⟩ := hch m hof
    gi_wp2_with (gi_at_call 118; refine (callsIn_wide.2 (members_c _ _)).mono ?_; rintro e w' ⟨rfl, rfl⟩)
    have KX : Kp (fun _ => False) w1 (((w1.alloc (.cells #[.map (some lb)] 76)).alloc (.cells #[.slice none 0 0] 81)).alloc (.cells #[.map (some lb)] 76)) := (((Kp.refl _ _).alloc _).alloc _).alloc _
    obtain ⟨x1, x2, x3⟩ := three_new w1 (.cells #[.map (some lb)] 76) (.cells #[.slice none 0 0] 81) (.cells #[.map (some lb)] 76)
    have hX0s : (((w1.alloc (.cells #[.map (some lb)] 76)).alloc (.cells #[.slice none 0 0] 81)).alloc (.cells #[.map (some lb)] 76)).heap.size = w1.heap.size + 3 := by simp
    generalize (((w1.alloc (.cells #[.map (some lb)] 76)).alloc (.cells #[.slice none 0 0] 81)).alloc (.cells #[.map (some lb)] 76)) = X0 at *
    have nX := KX.heap n1
    have fX := KX.heap f1
    have qX := KX.heap q1
    have zX := KX.heap z1
    have hlX := hlb.up KX
    have KwX := HK1.out.trans KX
    obtain ⟨b', mv, e', hFb, hownX, hrep⟩ := hlX.shape
    cases e'
    have hmlen := Repm.len hrep
    have hsm : Srt mv := srt_keys (Repm.keys m mv hrep) hsl
    have hkv : ∀ p ∈ mv, p.1.length ≤ 139000000000000 := by
      intro p hp
      obtain ⟨j, hj, rfl⟩ := List.getElem_of_mem hp
      obtain ⟨q, r1, r2, r3, r4⟩ := Repm.get m mv j hj hrep
      rw [r3]
      have := hkl q r2
      omega
    have hif : ∀ p ∈ mv, ∃ t u, p.2 = .iface t u := by
      intro p hp
      obtain ⟨j, hj, rfl⟩ := List.getElem_of_mem hp
      obtain ⟨q, r1, r2, r3, r4⟩ := Repm.get m mv j hj hrep
      exact Rep.iface r4
    have hbn := hownX.lt
    clear n1 f1 q1 z1
    have hI0 : KIv X0 (w1.heap.size + 1) old till m mv.length [] X0 := ⟨_, [], x2, ⟨by simp, Or.inl ⟨rfl, rfl⟩⟩, rfl, Kp.refl _ _⟩
    refine wpIn_rangeFunc_ownF (α := Fin mv.length) rfl (by decide) (gf := 148) (lb := #[.pointer (some ⟨w1.heap.size + 1 + 1, 0, none⟩)]) rfl trivial (enters_of Tryz.func148 (by kernel_rfl) rfl)
      (encs := encM mv) (Kp := KpT X0.heap.size (w1.heap.size + 1)) (S := fun xs => xs = List.finRange mv.length) (Sp := fun _ => True) (N := mv.length) (w0 := X0)
      (fun lr J Jx W1 hbl hJ _ hY h0 => members2 7 (by decide) lr (w1.heap.size + 1 + 1) lb X0.heap.size (w1.heap.size + 1) mv hsm (by omega) hkv hif J Jx W1 hJ hY ((hbl.block _ (by omega)).trans x3) (by omega) (by have := hbl.size; omega) (ownsMap_heap hownX (hbl.block _ (by omega))) hbn h0)
      KpT.t (KpT.b (Nat.le_refl _)) (Below.refl _ _) (fun _ => rfl)
      (KIv X0 (w1.heap.size + 1) old till m mv.length) (KIx W w (w.heap.size + 1 + 1) (w.heap.size + 1 + 1 + 1) old till m mv.length) KIv.own (fun c => KIx.own c KwX.size) hI0
      (fun x => { tmps := #[Value.map (some b), Value.string ⟨k.toArray⟩, Value.func (Fn.func fn) #[] cap, undef, Value.pointer (some ⟨w.heap.size, 0, none⟩), Value.pointer (some ⟨w.heap.size + 1, 0, none⟩), Value.pointer (some ⟨w.heap.size + 1 + 1, 0, none⟩), Value.pointer (some ⟨w.heap.size + 1 + 1 + 1, 0, none⟩), Value.pointer (some ⟨w1.heap.size, 0, none⟩), Value.nilIface, Value.pointer (some ⟨w1.heap.size + 1, 0, none⟩), .string ⟨mv[x].1.toArray⟩, undef, undef, undef, Value.tuple #[Value.map (some lb), Value.nilIface], Value.map (some b), Value.string ⟨k.toArray⟩, Value.tuple #[Value.map (some lb), Value.nilIface], Value.map (some lb), Value.nilIface, Value.nilIface, Value.bool false, undef, Value.map (some lb), Value.func (Fn.func 148) #[] #[Value.pointer (some ⟨w1.heap.size + 1 + 1, 0, none⟩)], .string ⟨mv[x].1.toArray⟩, mv[x].2, undef, undef, undef, undef, undef, undef, undef, undef, undef, undef, undef, undef, undef, undef, undef, undef, undef, undef, undef, undef, undef, undef, undef, undef, undef, undef, undef, undef, undef, undef, undef, undef, undef, undef, undef, undef], defers := [] }) ?assign ?body ?done ?stop
    case assign =>
      intro l x W K hK
      simp only [encM]
      gi_wp2
      exact hK
    case body =>
      rintro lr pre x X ⟨vv, ks, i1, i2, i3, i4⟩ hpre
      have hlq := Repm.get m mv x.val x.2 hrep
      obtain ⟨p, hp1, hp2, hp3, hp4⟩ := hlq
      have hgx : mv[x].1 = p.1 := hp3
      generalize mv[x].2 = xv
      generalize mv[x].1 = xk at hgx ⊢
      subst hgx
      clear hp3 hp4
      have hnth : nthM m x.val = p := by unfold nthM; rw [hp1]; rfl
      have hlk := look_nthJ m hsl x.val p hp1
      have hkf := keyF_one old till p.1 p.2
      have hsn : keysF old till ((pre ++ [x]).map fun i => nthM m i.val) = (some ks).bind fun r => (keyF old till p.1 p.2).map fun k => r ++ [k] := by
        rw [List.map_append, List.map_cons, List.map_nil, hnth, ← i3]
        exact keysF_snoc old till _ p.1 p.2
      have hno : keyF old till p.1 p.2 = none → keysF old till m = none := keysF_none hp2
      have hkp : p.1.length ≤ 139000000000000 := by have := hkl p hp2; omega
      have KwX' : Kp (fun _ => False) w X := KwX.and i4 (by intro i hi e; omega)
      have eN : ∀ j o, j ≠ w1.heap.size + 1 → X0.heap[j]? = some o → X.heap[j]? = some o := fun j o hj h => (i4.block j (lt_heap h) hj).trans h
      have nY := eN _ _ (by omega) nX
      have fY := eN _ _ (by omega) fX
      have qY := eN _ _ (by omega) qX
      have zY := eN _ _ (by omega) zX
      have lY := eN _ _ (by omega) x1
      obtain ⟨cn, _⟩ := one_cells nY
      obtain ⟨cf, _⟩ := one_cells fY
      obtain ⟨cq, gq⟩ := one_cells qY
      obtain ⟨cz, gz⟩ := one_cells zY
      obtain ⟨cl, _⟩ := one_cells lY
      have olX : Oz X m lb := Rep.mono (fun j hj => by have := i4.size; have := KX.size; omega) _ (Rep.frame (w := w1) (fun j hj => (i4.block j (by have := KX.size; omega) (by omega)).trans (KX.block j hj (by simp))) _ hlb)
      have hc := Below.cl (below_kp hW KwX') hen
      have HE : Hid (Ech W X (errV en)) := Ech.base en hpn
      unfold errV at hc HE
      have HS := hide (And.intro hsn (And.intro hno (And.intro hkf hlk)))
      have HR := hide (And.intro i2 (And.intro i4 (And.intro KwX' olX)))
      have HQ := hide (And.intro qY zY)
      have hlen : ks.length = pre.length := by
        have := congrArg List.length (keysF_ids i3).1
        simpa using this
      clear hsn hno hkf hlk i3 hnth
      gi_wp2_with fail
      refine ⟨trivial, ?_⟩
      refine (CallsIn.inRound lr (callsIn_wide.2 (isName_c p.1 X))).mono ?_
      rintro e X1 ⟨rfl, rfl⟩
      cases hnm : isNm p.1 with
      | false =>
        have HNO := hide (HS.out.2.1 (by rw [HS.out.2.2.1, hnm]; rfl))
        clear hnm
        have KB : Kp (fun _ => False) X1 (X1.alloc (.cells #[.string ⟨k.toArray⟩, .iface 350 (.pointer (some en))] 190)) := (Kp.refl _ _).alloc _
        have hqz : w.heap.size + 1 + 1 ≠ w.heap.size + 1 + 1 + 1 := by omega
        obtain ⟨cq2, gq2⟩ := one_cells (KB.heap HQ.out.1)
        obtain ⟨cz2, gz2⟩ := one_cells (KB.heap HQ.out.2)
        have hz3 : ((X1.setCell ⟨w.heap.size + 1 + 1, 0, none⟩ (.slice none 0 0)).alloc (.cells #[.string ⟨k.toArray⟩, .iface 350 (.pointer (some en))] 190)).heap[w.heap.size + 1 + 1 + 1]? = some (.cells #[.nilIface] 58) := by
          rw [Below.heap_alloc _ _ _ (by rw [World.size_setCell]; exact lt_heap HQ.out.2), heap_set_other (by exact hqz.symm)]
          exact HQ.out.2
        obtain ⟨cz3, gz3⟩ := one_cells hz3
        have hcg : (X1.setCell ⟨w.heap.size + 1 + 1, 0, none⟩ (.slice none 0 0)).cell? ⟨12, 0, none⟩ = some (.iface 350 (.pointer (some en))) := by
          have hG0 : 12 < W.heap.size := lt_cell hen
          have hG1 := hW.size
          simp only [World.cell?] at hc ⊢
          rw [heap_set_other (by exact (show 12 ≠ w.heap.size + 1 + 1 by omega))]
          exact hc
        have hcn : (X1.setCell ⟨w.heap.size + 1 + 1, 0, none⟩ (.slice none 0 0)).cell? ⟨w.heap.size, 0, none⟩ = some (.string ⟨k.toArray⟩) := by
          simp only [World.cell?] at cn ⊢
          rw [heap_set_other (by exact (show w.heap.size ≠ w.heap.size + 1 + 1 by omega))]
          exact cn
        gi_wp2
        gi_region
        all_goals gi_wp2
        all_goals first
          | exact kix_drew KB (HR.out.2.2.1.trans KB) HQ.out.1 HQ.out.2 hqz (by omega) (by omega) (.mem _ _ _ (heap_alloc_new X1 _) (HE.out.up KB)) HNO.out
          | exact kix_alt KB (HR.out.2.2.1.trans KB) HQ.out.1 HQ.out.2 hqz (by omega) (by omega) (.mem _ _ _ (heap_alloc_new X1 _) (HE.out.up KB)) HNO.out
      | true =>
        have HNM := hide hnm
        clear hnm
        have HOB := hide (objectUnder_c W hN X1 (below_kp hW HR.out.2.2.1) m lb p.1 hkp HR.out.2.2.2)
        gi_wp2_with fail
        refine (CallsIn.inRound lr (callsIn_wide.2 HOB.out)).mono ?_
        rintro e X2 ⟨K2, h2⟩
        rw [HS.out.2.2.2] at h2
        have nZ := K2.heap nY
        have fZ := K2.heap fY
        have HQ2 := hide (And.intro (K2.heap HQ.out.1) (K2.heap HQ.out.2))
        have kZ := K2.heap i1
        obtain ⟨cn2, _⟩ := one_cells nZ
        obtain ⟨cf2, _⟩ := one_cells fZ
        obtain ⟨cq2, gq2⟩ := one_cells HQ2.out.1
        obtain ⟨cz2, gz2⟩ := one_cells HQ2.out.2
        obtain ⟨ck2, gk2⟩ := one_cells kZ
        clear HOB cn cf cq gq cz gz cl hc HE
        have HKX2 := hide (HR.out.2.2.1.trans K2)
        have HK2 := hide K2
        clear K2 nY fY qY zY
        cases hob : objF (some p.2) with
        | none =>
          rw [hob] at h2
          obtain ⟨ev, rfl, he⟩ := h2
          obtain ⟨tt, u, rfl⟩ := he.iface
          have HNO := hide (HS.out.2.1 (by rw [HS.out.2.2.1, hob]; simp))
          have HEE := hide he
          clear he hob
          gi_wp2
          exact kix_out HK2.out HKX2.out HQ.out.1 HQ.out.2 (by omega) (by omega) (by omega) HEE.out HNO.out
        | some mm =>
          rw [hob] at h2
          obtain ⟨mb, rfl, hmb⟩ := h2
          have HC := hide (hone X2 mm mb p.1 (below_kp hW HKX2.out) (hPs _ _ hP HKX2.out) hmb)
          gi_wp2_with fail
          refine ⟨trivial, ?_⟩
          refine (CallsIn.inRound lr (callsIn_wide.2 HC.out)).mono ?_
          rintro e X3 ⟨K3, h3⟩
          have HQ3 := hide (And.intro (K3.heap HQ2.out.1) (K3.heap HQ2.out.2))
          have kZ3 := K3.heap kZ
          clear HC ck2 gk2 cq2 gq2 cz2 gz2 cn2 cf2 nZ fZ kZ
          obtain ⟨cq2, gq2⟩ := one_cells HQ3.out.1
          obtain ⟨cz2, gz2⟩ := one_cells HQ3.out.2
          obtain ⟨ck2, gk2⟩ := one_cells kZ3
          have HKX3 := hide (HKX2.out.trans K3)
          have HK3 := hide (HK2.out.trans K3)
          clear K3
          cases hon : oneF old till p.1 mm with
          | none =>
            rw [hon] at h3
            obtain ⟨a1, a2, a3, a4, ev, rfl, he⟩ := h3
            obtain ⟨tt, u, rfl⟩ := he.iface
            have HNO := hide (HS.out.2.1 (by rw [HS.out.2.2.1, HNM.out, hob]; simpa using hon))
            have HEE := hide he
            clear he hob hon cq2 gq2 cz2 gz2 ck2 gk2
            have KB3 : Kp (fun _ => False) X3 ((X3.alloc (.cells #[.string a1, .string a2, .bool a3, .int .i64 a4] 148)).alloc (.cells #[.string ⟨p.1.toArray⟩, .iface tt u] 190)) := ((Kp.refl _ _).alloc _).alloc _
            obtain ⟨cq3, gq3⟩ := one_cells (KB3.heap HQ3.out.1)
            obtain ⟨cz3, gz3⟩ := one_cells (KB3.heap HQ3.out.2)
            gi_wp2
            exact kix_out (HK3.out.trans KB3) (HKX3.out.trans KB3) HQ.out.1 HQ.out.2 (by omega) (by omega) (by omega) (.mem _ _ _ (by have h := heap_alloc_new (X3.alloc (.cells #[.string a1, .string a2, .bool a3, .int .i64 a4] 148)) (.cells #[.string ⟨p.1.toArray⟩, .iface tt u] 190); rw [World.size_alloc] at h; exact h) (HEE.out.up KB3)) HNO.out
          | some kk =>
            rw [hon] at h3
            replace h3 : e = .returned (.tuple #[.agg #[.string ⟨kk.id.toArray⟩, .string ⟨kk.key.toArray⟩, .bool kk.old, .int .i64 kk.till], .nilIface]) := h3
            subst h3
            have HYE := hide (show keyF old till p.1 p.2 = some kk by rw [HS.out.2.2.1, HNM.out, hob]; simpa using hon)
            clear hob hon ck2 gk2 cq2 gq2 cz2 gz2
            have row1 := HR.out.1
            have row3 : X3.ownsRow X0.heap.size 148 4 vv ks.length (ks.flatMap kyC) := ownsRow_heap row1 (fun j hj => HK3.out.block j (row1.lt j hj).2 (by simp))
            have KB3 : Kp (fun _ => False) X3 (X3.alloc (.cells #[.string ⟨kk.id.toArray⟩, .string ⟨kk.key.toArray⟩, .bool kk.old, .int .i64 kk.till] 148)) := (Kp.refl _ _).alloc _
            have KB4 : Kp (fun _ => False) X3 ((X3.alloc (.cells #[.string ⟨kk.id.toArray⟩, .string ⟨kk.key.toArray⟩, .bool kk.old, .int .i64 kk.till] 148)).alloc (.cells #[.string ⟨kk.id.toArray⟩, .string ⟨kk.key.toArray⟩, .bool kk.old, .int .i64 kk.till] 148)) := KB3.alloc _
            have row4 := (row3.alloc (.cells #[.string ⟨kk.id.toArray⟩, .string ⟨kk.key.toArray⟩, .bool kk.old, .int .i64 kk.till] 148)).alloc (.cells #[.string ⟨kk.id.toArray⟩, .string ⟨kk.key.toArray⟩, .bool kk.old, .int .i64 kk.till] 148)
            obtain ⟨ck2, gk2⟩ := one_cells (KB3.heap kZ3)
            obtain ⟨i0, hi, hz0, hz1, hz2⟩ := info_parts infoKey
            have hs3 := HK3.out.size
            have hs1 := HR.out.2.1.size
            have hprl : pre.length < 100000 := by omega
            gi_wp2_with (gi_at_builtin; (refine wpListIn_append_own_at _ rfl _ _ 81 rfl X0.heap.size 148 i0 (.agg #[.string ⟨#[]⟩, .string ⟨#[]⟩, .bool false, .int .i64 0]) 4 48 Tryz.underlying81 hi hz0 hz1 hz2 rfl (by decide) _ _ _ rfl row4 ⟨X3.heap.size + 1, 0, none⟩ 1 1 (kyC kk) rfl rfl ?c1 (by intro u hu; simp [kyC] at hu; rcases hu with rfl | rfl | rfl | rfl <;> rfl) (by unfold maxLen; omega) (by omega) (by simp; omega) ?_))
            case c1 =>
              intro j u hj
              rcases j with _ | _ | _ | _ | j
              all_goals simp [kyC] at hj
              all_goals subst hj
              all_goals simp [Addr.add]
            intro v' X6 y1 y2 _ _
            rw [← hX0s, ← hlen] at y1
            obtain ⟨va', vc', rfl, _⟩ := own_slice4 y1
            have k6 : X6.heap[w1.heap.size + 1]? = some (.cells #[vv] 81) := by
              have h9 := KB4.heap kZ3
              rw [y2.block _ (lt_heap h9) ?_]
              · exact h9
              · intro e
                have := (own_cells row3 e.symm).1
                omega
            obtain ⟨ck6, gk6⟩ := one_cells k6
            have HFIN := hide (kiv_next (m := m) (old := old) (till := till) (pre := pre) (x := x) HR.out.2.1 (HK3.out.trans KB4) row1 i1 (by omega) y1 y2 (by rw [HS.out.1, HYE.out]; rfl))
            clear y1 y2 ck2 gk2 row4 row3 row1 KB3 KB4
            gi_wp2
            have hfin := HFIN.out
            rw [hX0s, hlen] at hfin
            exact hfin
    case done =>
      rintro D ys X hD rfl ⟨vv, ks, i1, i2, i3, i4⟩ hK
      rw [nthM_list m mv.length hmlen] at i3
      have KwX' : Kp (fun _ => False) w X := KwX.and i4 (by intro i hi e; omega)
      have qY := (i4.block _ (lt_heap qX) (by omega)).trans qX
      have zY := (i4.block _ (lt_heap zX) (by omega)).trans zX
      obtain ⟨ck, _⟩ := one_cells i1
      obtain ⟨cq, gq⟩ := one_cells qY
      obtain ⟨cz, gz⟩ := one_cells zY
      obtain ⟨va, vc, rfl, _⟩ := own_slice4 i2
      have HZ := hide (And.intro hof i3)
      clear hof i3
      gi_wp2_with fail
      obtain ⟨s1, s2⟩ := set_two (a := .slice va ks.length vc) (b := .nilIface) qY zY (by omega)
      have hqD := lt_heap qX
      have hzD := lt_heap zX
      have hKY : ((X.setCell ⟨w.heap.size + 1 + 1, 0, none⟩ (.slice va ks.length vc)).setCell ⟨w.heap.size + 1 + 1 + 1, 0, none⟩ .nilIface).heap[D]? = some (.deferred (some [])) := by
        rw [heap_set_other (by exact (show D ≠ w.heap.size + 1 + 1 + 1 by omega)), heap_set_other (by exact (show D ≠ w.heap.size + 1 + 1 by omega))]
        exact hK
      have row2 : ((X.setCell ⟨w.heap.size + 1 + 1, 0, none⟩ (.slice va ks.length vc)).setCell ⟨w.heap.size + 1 + 1 + 1, 0, none⟩ .nilIface).ownsRow X0.heap.size 148 4 (.slice va ks.length vc) ks.length (ks.flatMap kyC) := by
        refine ownsRow_heap i2 ?_
        intro j hj
        have := (i2.lt j hj).1
        rw [heap_set_other (by exact (show j ≠ w.heap.size + 1 + 1 + 1 by omega)), heap_set_other (by exact (show j ≠ w.heap.size + 1 + 1 by omega))]
      have KY := set_kp2 (a := .slice va ks.length vc) (b := .nilIface) (q := w.heap.size + 1 + 1) (z := w.heap.size + 1 + 1 + 1) KwX' (by omega) (by omega)
      generalize ((X.setCell ⟨w.heap.size + 1 + 1, 0, none⟩ (.slice va ks.length vc)).setCell ⟨w.heap.size + 1 + 1 + 1, 0, none⟩ .nilIface) = Y at *
      have hg := grownBy_putObj' Y D (.deferred none)
      have hr : ∀ r, some D = some r → ∃ o : Obj, Y.heap[r]? = some o ∧ o.isCells = false := fun r e => by cases e; exact ⟨_, hKY, rfl⟩
      refine ⟨by simp, .inl ⟨_, _, rfl, run_takeDeferred hKY, ?_⟩⟩
      refine ⟨_, ku_results _ rfl rfl (grown_cells hg hr s1) (grown_cells hg hr s2), ?_⟩
      rw [HZ.out.1]
      show KuR W w (keysF old till m) _ _
      rw [HZ.out.2]
      have hwX := KwX.size
      refine ⟨KY.gr hg (fun r e => by cases e; omega), _, rfl, own_base (by omega) (ownsRow_heap row2 ?_)⟩
      intro k' e
      obtain ⟨_, ⟨e1, _⟩ | ⟨g, cap', cur, e1, _, hh, _⟩⟩ := row2
      · rw [e1] at e; cases e
      · rw [e1] at e
        injection e with e
        subst e
        rw [grown_cells hg hr hh, hh]
    case stop =>
      rintro D c pre X hD _ ⟨rfl, ev, i1, i2, i3, i4, i5⟩ hK
      gi_wp2_with fail
      have hg := grownBy_putObj' X D (.deferred none)
      have hr : ∀ r, some D = some r → ∃ o : Obj, X.heap[r]? = some o ∧ o.isCells = false := fun r e => by cases e; exact ⟨_, hK, rfl⟩
      have hwX := KwX.size
      refine ⟨by simp, .inl ⟨_, _, rfl, run_takeDeferred hK, ?_⟩⟩
      refine ⟨_, ku_results _ rfl rfl (grown_cells hg hr i1) (grown_cells hg hr i2), ?_⟩
      rw [hof]
      show KuR W w (keysF old till m) _ _
      rw [i4]
      exact ⟨i5.gr hg (fun r e => by cases e; omega), _, rfl, i3.old (fun k c hk => (grown_cells hg hr hk).trans hk.symm)⟩
end Go.Proofs.YtocligpfmfmihabGreatDoor

import Derived.Test.YtocligpfmfmihabGreatDoorChn6wG
import Derived.Test.YtocligpfmfmihabGreatDoorPr11G
import Derived.Test.YtocligpfmfmihabGreatDoorVr1G
import Derived.Test.YtocligpfmfmihabGreatDoorSemG
namespace Go.Proofs.YtocligpfmfmihabGreatDoor
open Go Go.RowKit Go.Maps Go.WideMaps Go.MuLone
attribute [local go_sem] Oper.semAt_some

/-- What check comes to. -/
def CkR (W w : World) (o : Nat × Bs) (e : Ending) (w' : World) : Prop := Kp (fun _ => False) w w' ∧
  ((o.1 = 0 ∧ e = .returned .nilIface) ∨ (∃ q a, e = .returned (.iface 114 (.pointer (some ⟨q, 0, none⟩))) ∧ w'.heap[q]? = some (.cells #[.string ⟨o.2.toArray⟩, errV a] 118) ∧
    ((o.1 = 8 ∧ W.cell? ⟨1, 0, none⟩ = some (errV a)) ∨ (o.1 = 5 ∧ Plain W a))))
set_option maxRecDepth 20000 in
set_option maxHeartbeats 4000000 in
theorem kcheck_c (W : World) (hN : NG3 W) (w : World) (hW : Below W.heap.size W w) (F : Nat → Prop) (kb : Nat) (st : Ldg) (c : Nat) (h : KN w F kb st c) (hkl : ∀ s i p, st.keys s i = some p → p.1.length ≤ 600) (cl : Clm) (hcl : ClK cl) (B : Nat) (sv : Value) (row : w.ownsRow B 120 2 sv cl.sigs.length (cl.sigs.flatMap sgC)) :
    Calls Tryz.prog 28 #[.pointer (some ⟨kb, 0, none⟩), clV cl sv] w fun e w' => CkR W w (signS st cl) e w' := by
  obtain ⟨eu, hun⟩ : ∃ ea, W.cell? ⟨1, 0, none⟩ = some (errV ea) := by
    obtain ⟨a, _, _, h, _⟩ := hN.n2.lay 1 (by simp [four])
    exact ⟨a, h⟩
  obtain ⟨es, hes, hpl⟩ := hN.n2.sml 2 (by simp)
  obtain ⟨sa, sc, rfl, hsm, hsa⟩ := own_sl row
  have K0 : Kp (fun _ => False) w (w.alloc (clObj cl (.slice sa cl.sigs.length sc))) := (Kp.refl _ _).alloc _
  have I0 := heap_alloc_new w (clObj cl (.slice sa cl.sigs.length sc))
  have HWT := hide (wants_c (w.alloc (clObj cl (.slice sa cl.sigs.length sc))) F kb st c (h.kp2 K0) cl hcl B _ (ownsRow_kp row K0 (by simp)))
  obtain ⟨e0, e1, e2, e3, heb⟩ := cl_facts I0
  have HR := hide (And.intro row (And.intro hsa (And.intro h (And.intro hcl hkl))))
  have HK0 := hide (And.intro K0 I0)
  clear row hsa h hcl K0 I0 hkl
  unfold clV at *
  unfold clObj at *
  go_enter Tryz.func28, Tryz.ntmps28
  go_wp2_with fail
  generalize (w.alloc (.cells #[.string ⟨cl.server.toArray⟩, .int .i64 cl.ts, .string ⟨cl.msg.toArray⟩, .slice sa cl.sigs.length sc] 67)) = w0 at *
  refine HWT.out.mono ?_
  rintro e w1 ⟨rfl, K1⟩
  clear e0 e1 e2 e3 heb
  have I1 := K1.heap HK0.out.2
  have Kw1 := HK0.out.1.trans K1
  have HK1 := hide (And.intro Kw1 I1)
  obtain ⟨e0, e1, e2, e3, heb⟩ := cl_facts (c := cl) (sv := .slice sa cl.sigs.length sc) I1
  have hcu := Below.cl (below_kp hW Kw1) hun
  unfold errV at hcu
  have HSN : Hid (signS st cl = if rightS st cl then (0, []) else if wantS st cl then (8, cl.server) else (5, cl.server)) := rfl
  clear K1 I1 Kw1 HWT HK0
  cases hw : wantS st cl with
  | true =>
    have hr : rightS st cl = false := by
      unfold wantS at hw
      simp only [Bool.and_eq_true, Bool.not_eq_true'] at hw
      have h2 := hw.2
      unfold hasS at h2
      rw [List.any_eq_false] at h2
      unfold rightS
      rw [List.any_eq_false]
      intro p hp
      have := h2 p hp
      cases hm : mayS st cl.server p.1 cl.ts with
      | none => rw [okS_none hm]; simp
      | some k => rw [hm] at this; simp at this
    have HC : Hid (signS st cl = (8, cl.server)) := by show _ = _; rw [HSN.out, hr, hw]; rfl
    clear hr hw
    go_wp2
    go_ret
    rw [HC.out]
    exact ⟨HK1.out.1.alloc _, Or.inr ⟨_, eu, rfl, heap_alloc_new w1 _, Or.inl ⟨rfl, hun⟩⟩⟩
  | false =>
    have HWF := hide hw
    clear hw hcu
    go_wp2_with fail
    go_loopg [21] cl.sigs.length (fun gg a wx => ∃ (i : Nat), gg = cl.sigs.length - i ∧ i ≤ cl.sigs.length ∧ a = .int .i64 (i : Int) ∧ Kp (fun _ => False) w1 wx ∧ ∀ (j : Nat) (p : Bs × Bs), j < i → cl.sigs[j]? = some p → okS st cl p = false)
    case atStart => exact ⟨0, rfl, by omega, rfl, Kp.refl _ _, fun _ _ h => absurd h (by omega)⟩
    case round =>
      obtain ⟨i, hgg, hin, rfl, Kr, hall⟩ := hrel
      have Kw := HK1.out.1.trans Kr
      have HG := hide (And.intro hgg (And.intro hall (And.intro Kr Kw)))
      clear e0 e1 e2 e3 heb
      obtain ⟨e0, e1, e2, e3, heb⟩ := cl_facts (c := cl) (sv := .slice sa cl.sigs.length sc) (Kr.heap HK1.out.2)
      clear hgg hall
      by_cases hlt : i < cl.sigs.length
      · have hlt' : (i : Int) < (cl.sigs.length : Int) := by omega
        obtain ⟨p, hp⟩ : ∃ p, cl.sigs[i]? = some p := ⟨cl.sigs[i], List.getElem?_eq_getElem hlt⟩
        obtain ⟨g, rfl, hg⟩ := HR.out.2.1 (by omega)
        obtain ⟨s0, s1⟩ := sg_cells (ownsRow_kp HR.out.1 Kw (by simp)) i p hp
        have Ka : Kp (fun _ => False) wr (wr.alloc (.cells #[.string ⟨p.1.toArray⟩, .string ⟨p.2.toArray⟩] 120)) := (Kp.refl _ _).alloc _
        have Ia := heap_alloc_new wr (.cells #[.string ⟨p.1.toArray⟩, .string ⟨p.2.toArray⟩] 120)
        have HF := hide HR.out.2.2.1
        have HM := hide (keyAt_c (wr.alloc (.cells #[.string ⟨p.1.toArray⟩, .string ⟨p.2.toArray⟩] 120)) F kb st c (HF.out.kp2 (Kw.trans Ka)) cl.server p.1 (by have := HR.out.2.2.2.1.srv; omega) (by have := HR.out.2.2.2.1.ids p (List.mem_of_getElem? hp); omega) cl.ts)
        have next : okS st cl p = false → ∀ (j : Nat) (q : Bs × Bs), j < i + 1 → cl.sigs[j]? = some q → okS st cl q = false := by
          intro hno j q hj hq
          rcases Nat.lt_or_ge j i with h | h
          · exact HG.out.2.1 j q h hq
          · have : j = i := by omega
            subst this
            rw [hp] at hq
            injection hq with hq
            subst hq
            exact hno
        have good : okS st cl p = true → signS st cl = (0, []) := by
          intro hyes
          have : rightS st cl = true := by
            unfold rightS
            rw [List.any_eq_true]
            exact ⟨p, List.mem_of_getElem? hp, hyes⟩
          rw [HSN.out, this]
          rfl
        have hkk : ∀ k, mayS st cl.server p.1 cl.ts = some k → k.length ≤ 600 := by
          intro k hk
          unfold mayS at hk
          cases hq : st.keys cl.server p.1 with
          | none => rw [hq] at hk; cases hk
          | some q =>
            have := HR.out.2.2.2.2 _ _ q hq
            rw [hq] at hk
            simp only [Option.bind_some] at hk
            split at hk
            · cases hk
            · injection hk with hk
              subst hk
              exact this
        have hml := HR.out.2.2.2.1.msg
        have HN := hide (And.intro next (And.intro good hkk))
        have HKa := hide (And.intro Ka Ia)
        clear next good hkk hp Kr Kw
        go_wp2_with fail
        generalize (wr.alloc (.cells #[.string ⟨p.1.toArray⟩, .string ⟨p.2.toArray⟩] 120)) = wa at *
        clear Ka Ia
        refine HM.out.mono ?_
        rintro e X ⟨rfl, KX⟩
        have HX := hide (And.intro (HKa.out.1.trans KX) (And.intro (KX.heap HKa.out.2) KX))
        clear KX HM
        cases hm : mayS st cl.server p.1 cl.ts with
        | none =>
          simp only [Option.isSome_none]
          have HN1 := hide (HN.out.1 (okS_none hm))
          clear HN hm
          go_wp2
          go_quiet (fail)
          go_wp2
          go_roundg (cl.sigs.length - (i + 1))
          all_goals first
            | (rw [HG.out.1]; omega)
            | exact ⟨i + 1, rfl, by omega, int_i64 (by omega), (HG.out.2.2.1.trans HX.out.1).drewN _, HN1.out⟩
        | some k =>
          have hkl := HN.out.2.2 k hm
          obtain ⟨tl, htl⟩ : ∃ tl : Bs, sealF ⟨k.toArray⟩ ⟨cl.msg.toArray⟩ = ⟨tl.toArray⟩ := ⟨_, rfl⟩
          have hok := okS_some hm htl
          simp only [Option.getD_some, Option.isSome_some]
          have hseal := seal_any ⟨k.toArray⟩ ⟨cl.msg.toArray⟩ X.drew (by rw [mk_size2]; omega) (by rw [mk_size2]; omega)
          rw [htl] at hseal
          have HSL := hide hseal
          have HOK := hide hok
          clear hm hseal htl hok
          clear e0 e1 e2 e3 heb
          obtain ⟨e0, e1, e2, e3, heb⟩ := cl_facts (c := cl) (sv := .slice (some ⟨g, 0, none⟩) cl.sigs.length sc) ((HG.out.2.2.1.trans HX.out.1).heap HK1.out.2)
          have x1 : X.cell? ⟨wr.heap.size, 1, none⟩ = some (.string ⟨p.2.toArray⟩) := by simp [World.cell?, HX.out.2.1]
          go_wp2_with fail
          refine wp_md ?_ (fun Y => Kp (fun _ => False) X.drew Y) ?_ ?_
          rotate_left
          · go_region_law (refine step_callG (by rfl) 19 _ _ rfl #[.string ⟨k.toArray⟩, .string ⟨cl.msg.toArray⟩] (by go_simp) ?_; refine HSL.out.mono ?_; rintro e w2 ⟨rfl, hq⟩; have y1 := (Kp.of_below hq).cel (show X.drew.cell? ⟨wr.heap.size, 1, none⟩ = some (.string ⟨p.2.toArray⟩) from x1))
            all_goals exact md_normal (Kp.of_below hq)
          intro Y KY
          have HY := hide (And.intro (HG.out.2.2.1.trans (HX.out.1.drew.trans KY)) (HG.out.2.2.2.trans (HX.out.1.drew.trans KY)))
          clear KY
          by_cases ht : p.2 = tl
          · have ht' : (p.2 == tl) = true := by simpa using ht
            have HN1 := hide (HN.out.2.1 (by rw [HOK.out]; simpa using ht))
            clear HN ht
            simp only [ht']
            go_wp2
            go_ret
            rw [HN1.out]
            exact ⟨HY.out.2, Or.inl ⟨rfl, rfl⟩⟩
          · have ht' : (p.2 == tl) = false := by simpa using ht
            have HN1 := hide (HN.out.1 (by rw [HOK.out]; simpa using ht))
            clear HN ht
            simp only [ht']
            go_wp2
            go_roundg (cl.sigs.length - (i + 1))
            case measure => rw [HG.out.1]; omega
            case rel => exact ⟨i + 1, rfl, by omega, int_i64 (by omega), HY.out.1, HN1.out⟩
      · have hlt' : ¬ (i : Int) < (cl.sigs.length : Int) := by omega
        have HC : Hid (signS st cl = (5, cl.server)) := by
          show _ = _
          have : rightS st cl = false := by
            unfold rightS
            rw [List.any_eq_false]
            intro p hp
            obtain ⟨j, hj, he⟩ := List.mem_iff_getElem.1 hp
            have := HG.out.2.1 j p (by omega) (by rw [List.getElem?_eq_getElem hj, he])
            rw [this]
            simp
          rw [HSN.out, this, HWF.out]
          rfl
        have hcs := Below.cl (below_kp hW Kw) hes
        unfold errV at hcs
        clear Kr Kw
        go_wp2
        go_ret
        rw [HC.out]
        exact ⟨HG.out.2.2.2.alloc _, Or.inr ⟨_, es, rfl, heap_alloc_new wr _, Or.inr ⟨rfl, hpl⟩⟩⟩
end Go.Proofs.YtocligpfmfmihabGreatDoor
namespace Go.Proofs.YtocligpfmfmihabGreatDoor
open Go Go.RowKit Go.Maps Go.WideMaps
attribute [local go_sem] Oper.semAt_some

theorem Ech.evnt {W w : World} {b : Nat} {ev : Value} (h : Ech W w ev) (hb : w.heap[b]? = some (.cells #[ev] 113)) : Chd W w (.iface 111 (.pointer (some ⟨b, 0, none⟩))) 7 := by
  obtain ⟨a, ks, h1, h2, h3⟩ := h.chain
  exact ⟨a, (.evt, ⟨#[]⟩) :: ks, .cons .evt ks b ⟨#[]⟩ ev hb h1, h2.1, h2.2 _ (by simp [four]), h2.2 _ (by simp [four]), .evt (.evt, ⟨#[]⟩) (by
    rw [List.find?_cons]
    simp only [show ((Lk.evt, (⟨#[]⟩ : ByteArray)).1 == Lk.doc) = false from rfl]
    exact find_mem h3 _ (by decide)) (h2.2 _ (by simp [four])) (by simp)⟩
/-- An error that is no fault of a server, with its number. -/
def Evr (W w : World) (ev : Value) (n : Nat) : Prop := EV W w ev n ∨ ∃ a ks, Chn w a ks ev ∧ ks.find? (fun p => p.1 == Lk.srv) = none ∧ Chd W w ev n
/-- What readEvent comes to. -/
def ReR (W w : World) (o : Except Nat (List Clm)) (e : Ending) (w' : World) : Prop := Kp (fun _ => False) w w' ∧ match o with
  | .ok cs => ∃ v ps, e = .returned (.tuple #[v, .nilIface]) ∧ ps.map (·.1) = cs ∧ ClR w' w.heap.size v ps
  | .error n => ∃ tt uu, e = .returned (.tuple #[.slice none 0 0, .iface tt uu]) ∧ Evr W w' (.iface tt uu) n
set_option maxRecDepth 20000 in
set_option maxHeartbeats 4000000 in
theorem readEvent_c (W : World) (hN : NG2 W) (text : Bs) (w : World) (hW : Below W.heap.size W w) :
    Calls Tryz.prog 22 #[.string ⟨text.toArray⟩] w fun e w' => ReR W w (takeF text) e w' := by
  have HX := hide (readObject_c W hN.ng ⟨text.toArray⟩ w hW)
  have e9 : (⟨text.toArray⟩ : ByteArray).data.toList = text := by simp
  rw [e9] at HX
  clear e9
  go_enter Tryz.func22, Tryz.ntmps22
  go_wp2_with fail
  refine HX.out.mono ?_
  rintro e w1 ⟨K1, ⟨l, b, hof, rfl, hr⟩ | ⟨n, ev, hof, rfl, he, tt, u, rfl⟩⟩
  · have oz : Oz w1 l b := Rep.mono (fun j hj => hj.2) _ hr
    obtain ⟨hp, hl⟩ := object_ok hof
    obtain ⟨hwf, hle⟩ := parse_ok hp
    have hcl : (cJ (.obj l)).length ≤ 600 := Nat.le_trans hle hl
    have HCO := hide (claimsOf_c W hN w1 (below_kp hW K1) l b oz hwf hcl)
    have HF := hide hof
    have HK1 := hide K1
    clear HX hof hr oz hp hl hwf hle hcl K1
    go_wp2_with fail
    refine HCO.out.mono ?_
    rintro e w2 ⟨K2, h2⟩
    have HK2 := hide (HK1.out.trans K2)
    have hs1 := HK1.out.size
    clear K2 HCO
    cases hcm : clmF l with
    | none =>
      rw [hcm] at h2
      obtain ⟨ev, rfl, he⟩ := h2
      obtain ⟨tt, uu, rfl⟩ := he.iface
      have HT : Hid (takeF text = .error 7) := by show _ = _; unfold takeF; rw [HF.out]; simp only [hcm]
      have Ka : Kp (fun _ => False) w2 (w2.alloc (.cells #[.iface tt uu] 113)) := (Kp.refl _ _).alloc _
      have hch := (he.up Ka).evnt (heap_alloc_new w2 (.cells #[.iface tt uu] 113))
      obtain ⟨a, ks, c1, c2, c3⟩ := (he.up Ka).chain
      have hcn : Chn (w2.alloc (.cells #[.iface tt uu] 113)) a ((.evt, ⟨#[]⟩) :: ks) (.iface 111 (.pointer (some ⟨w2.heap.size, 0, none⟩))) := .cons .evt ks _ ⟨#[]⟩ _ (heap_alloc_new w2 (.cells #[.iface tt uu] 113)) c1
      have hfs : ((Lk.evt, (⟨#[]⟩ : ByteArray)) :: ks).find? (fun p => p.1 == Lk.srv) = none := by
        rw [List.find?_cons]
        simp only [show ((Lk.evt, (⟨#[]⟩ : ByteArray)).1 == Lk.srv) = false from rfl]
        exact find_mem c3 _ (by decide)
      have HE := hide (And.intro (HK2.out.trans Ka) (And.intro hch (And.intro hcn hfs)))
      clear he hcm hch hcn hfs c1 c2 c3 Ka
      go_wp2
      go_ret2
      rw [HT.out]
      exact ⟨HE.out.1, _, _, rfl, Or.inr ⟨_, _, HE.out.2.2.1, HE.out.2.2.2, HE.out.2.1⟩⟩
    | some cs =>
      rw [hcm] at h2
      obtain ⟨v, ps, rfl, hpm, hC⟩ := h2
      obtain ⟨va, vc, rfl, _, _⟩ := own_sl hC.1
      have HT : Hid (takeF text = .ok cs) := by show _ = _; unfold takeF; rw [HF.out]; simp only [hcm]
      have HC := hide (And.intro hpm hC)
      clear hcm hpm hC
      go_wp2
      go_ret2
      rw [HT.out]
      exact ⟨HK2.out, _, ps, rfl, HC.out.1, own_base hs1 HC.out.2.1, fun p hp => own_base hs1 (HC.out.2.2 p hp)⟩
  · have HT : Hid (takeF text = .error n) := by show _ = _; unfold takeF; rw [hof]
    have HE := hide (And.intro K1 he)
    clear hof he K1 HX
    go_wp2
    go_ret2
    rw [HT.out]
    exact ⟨HE.out.1, _, _, rfl, Or.inl HE.out.2⟩
end Go.Proofs.YtocligpfmfmihabGreatDoor
namespace Go.Proofs.YtocligpfmfmihabGreatDoor
open Go Go.RowKit Go.Maps Go.WideMaps
attribute [local go_sem] Oper.semAt_some

theorem oc_results {w : World} {rb : Nat} {a b : Value} (tmps : Array Value) (h2 : tmps[2]?.getD undef = .pointer (some ⟨rb, 0, none⟩)) (hb : w.heap[rb]? = some (.cells #[a, b] 32)) :
    (results Tryz.f23 tmps).run Tryz.prog w = .ok (.agg #[a, b]) w := by
  obtain ⟨⟨c0, c1⟩, _⟩ := pair_facts hb
  simp [results, Tryz.results23, go_sem, h2, c0, c1]
/-- errors.As does not find a server's fault. -/
theorem as_none (W : World) (hN : NG2 W) (w w0 : World) (K0 : Kp (fun _ => False) w w0) (hW0 : Below W.heap.size W w0) (ev : Value) (n tb : Nat) (hh : Evr W w ev n) (ht : w0.heap[tb]? = some (.cells #[.pointer none] 114)) :
    Calls Tryz.prog 46 #[ev, .iface 116 (.pointer (some ⟨tb, 0, none⟩))] w0 fun e w' => AsR Lk.srv 114 w0 tb none e w' := by
  have hg := Below.cl hW0 hN.ng.ety
  rcases hh with (⟨_, h⟩ | ⟨_, fb, rfl, k, g, cb, hf, _⟩ | ⟨_, h⟩) | ⟨a, ks, hc, hf, _⟩
  · obtain ⟨a, c, t, h1, _⟩ := hN.ng.lon
    rw [h1] at h
    injection h with h
    subst h
    exact as_srv w0 a [] _ .nil tb _ hg ht
  · exact as_srvF w0 fb _ cb (K0.heap hf) tb _ hg ht
  · obtain ⟨a, c, t, h1, _⟩ := hN.ng.obj
    rw [h1] at h
    injection h with h
    subst h
    exact as_srv w0 a [] _ .nil tb _ hg ht
  · have := as_srv w0 a ks ev (hc.kp K0) tb _ hg ht
    rw [hf] at this
    exact this
theorem Evr.enr {W w w' : World} {ev : Value} {n : Nat} (h : Evr W w ev n) (K : Kp (fun _ => False) w w') : Enr W w' ev n := by
  rcases h with h | ⟨_, _, _, _, h⟩
  · exact Or.inl (h.up K)
  · exact Or.inr (h.up K)
set_option maxRecDepth 20000 in
set_option maxHeartbeats 4000000 in
/-- outcome of an error that is no server's. -/
theorem outcome_ev (W : World) (hN : NG2 W) (w : World) (hW : Below W.heap.size W w) (tt : TypeId) (uu : Value) (n : Nat) (hh : Evr W w (.iface tt uu) n) :
    Calls Tryz.prog 23 #[.iface tt uu] w fun e w' => e = .returned (outV (n, [])) ∧ Kp (fun _ => False) w w' := by
  have K0 : Kp (fun _ => False) w ((w.alloc (.cells #[.int .i64 0, .string ⟨#[]⟩] 32)).alloc (.cells #[.pointer none] 114)) := ((Kp.refl _ _).alloc _).alloc _
  have I0 : ((w.alloc (.cells #[.int .i64 0, .string ⟨#[]⟩] 32)).alloc (.cells #[.pointer none] 114)).heap[w.heap.size]? = some (.cells #[.int .i64 0, .string ⟨#[]⟩] 32) := ((Kp.refl (fun _ => False) _).alloc _).heap (heap_alloc_new w _)
  have I1 : ((w.alloc (.cells #[.int .i64 0, .string ⟨#[]⟩] 32)).alloc (.cells #[.pointer none] 114)).heap[w.heap.size + 1]? = some (.cells #[.pointer none] 114) := by
    have := heap_alloc_new (w.alloc (.cells #[.int .i64 0, .string ⟨#[]⟩] 32)) (.cells #[.pointer none] 114)
    rwa [World.size_alloc] at this
  have HAS := hide (as_none W hN w _ K0 (below_kp hW K0) _ n _ hh I1)
  have HH := hide (And.intro hh (And.intro K0 I0))
  clear hh K0 I0 I1
  go_enter Tryz.func23, Tryz.ntmps23
  go_wp2_with fail
  generalize ((w.alloc (.cells #[.int .i64 0, .string ⟨#[]⟩] 32)).alloc (.cells #[.pointer none] 114)) = w0 at *
  refine HAS.out.mono ?_
  rintro e w1 ⟨K1, he⟩
  replace he : e = .returned (.bool false) := he
  subst he
  have Kw1 : Kp (fun _ => False) w w1 := HH.out.2.1.and K1 (fun q hq e => by omega)
  have Iw1 : w1.heap[w.heap.size]? = some (.cells #[.int .i64 0, .string ⟨#[]⟩] 32) := (K1.block _ (lt_heap HH.out.2.2) (by omega)).trans HH.out.2.2
  have HER := hide (errno_a W hN w1 (below_kp hW Kw1) _ n (HH.out.1.enr Kw1))
  have HK1 := hide (And.intro Kw1 Iw1)
  clear K1 Kw1 Iw1 HAS
  go_wp2_with fail
  refine HER.out.mono ?_
  rintro e w2 ⟨rfl, K2⟩
  have I2 := K2.heap HK1.out.2
  obtain ⟨⟨b0, b1⟩, b2, b3⟩ := pair_facts I2
  have HK2 := hide (And.intro (HK1.out.1.trans K2) I2)
  clear K2 I2 HER
  go_wp2
  refine bodyPost_ret (oc_results _ rfl (set_pair HK2.out.2)) rfl ?_
  exact ⟨rfl, set_kp HK2.out.1 (Nat.le_refl _)⟩
theorem as_nil (t : TypeId) (u : Value) (w : World) : Calls Tryz.prog 46 #[.nilIface, .iface t u] w fun e w' => e = .returned (.bool false) ∧ w' = w := by
  go_enter Tryz.func46, Tryz.ntmps46
  go_wp2
  go_ret
  exact ⟨rfl, rfl⟩
set_option maxRecDepth 20000 in
set_option maxHeartbeats 4000000 in
/-- outcome of no error. -/
theorem outcome_nil (w : World) : Calls Tryz.prog 23 #[.nilIface] w fun e w' => e = .returned (outV (0, [])) ∧ Kp (fun _ => False) w w' := by
  have K0 : Kp (fun _ => False) w ((w.alloc (.cells #[.int .i64 0, .string ⟨#[]⟩] 32)).alloc (.cells #[.pointer none] 114)) := ((Kp.refl _ _).alloc _).alloc _
  have I0 : ((w.alloc (.cells #[.int .i64 0, .string ⟨#[]⟩] 32)).alloc (.cells #[.pointer none] 114)).heap[w.heap.size]? = some (.cells #[.int .i64 0, .string ⟨#[]⟩] 32) := ((Kp.refl (fun _ => False) _).alloc _).heap (heap_alloc_new w _)
  have HAS := hide (as_nil 116 (.pointer (some ⟨w.heap.size + 1, 0, none⟩)) ((w.alloc (.cells #[.int .i64 0, .string ⟨#[]⟩] 32)).alloc (.cells #[.pointer none] 114)))
  have HK0 := hide (And.intro K0 I0)
  clear K0 I0
  go_enter Tryz.func23, Tryz.ntmps23
  go_wp2_with fail
  generalize ((w.alloc (.cells #[.int .i64 0, .string ⟨#[]⟩] 32)).alloc (.cells #[.pointer none] 114)) = w0 at *
  refine HAS.out.mono ?_
  rintro e w1 ⟨rfl, rfl⟩
  have HER := hide (errno_nil w1)
  clear HAS
  go_wp2_with fail
  refine HER.out.mono ?_
  rintro e w2 ⟨rfl, K2⟩
  have I2 := K2.heap HK0.out.2
  obtain ⟨⟨b0, b1⟩, b2, b3⟩ := pair_facts I2
  have HK2 := hide (And.intro (HK0.out.1.trans K2) I2)
  clear K2 I2 HER
  go_wp2
  refine bodyPost_ret (oc_results _ rfl (set_pair HK2.out.2)) rfl ?_
  exact ⟨rfl, set_kp HK2.out.1 (Nat.le_refl _)⟩
def OcC (w1 : World) (n : Nat) (o : Nat × Bs) (Y : World) : Prop := ∃ X, Kp (fun _ => False) w1.drew X ∧ Y = (X.setCell ⟨n, 0, none⟩ (.int .i64 (o.1 : Int))).setCell ⟨n, 1, none⟩ (.string ⟨o.2.toArray⟩)
set_option maxRecDepth 20000 in
set_option maxHeartbeats 4000000 in
/-- outcome of a server's fault. -/
theorem outcome_srv (W : World) (hN : NG3 W) (w : World) (hW : Below W.heap.size W w) (o : Nat × Bs) (q : Nat) (a : Addr) (hq : w.heap[q]? = some (.cells #[.string ⟨o.2.toArray⟩, errV a] 118)) (hh : (o.1 = 8 ∧ W.cell? ⟨1, 0, none⟩ = some (errV a)) ∨ (o.1 = 5 ∧ Plain W a)) :
    Calls Tryz.prog 23 #[.iface 114 (.pointer (some ⟨q, 0, none⟩))] w fun e w' => e = .returned (outV o) ∧ Kp (fun _ => False) w w' := by
  have K0 : Kp (fun _ => False) w ((w.alloc (.cells #[.int .i64 0, .string ⟨#[]⟩] 32)).alloc (.cells #[.pointer none] 114)) := ((Kp.refl _ _).alloc _).alloc _
  have I0 : ((w.alloc (.cells #[.int .i64 0, .string ⟨#[]⟩] 32)).alloc (.cells #[.pointer none] 114)).heap[w.heap.size]? = some (.cells #[.int .i64 0, .string ⟨#[]⟩] 32) := ((Kp.refl (fun _ => False) _).alloc _).heap (heap_alloc_new w _)
  have I1 : ((w.alloc (.cells #[.int .i64 0, .string ⟨#[]⟩] 32)).alloc (.cells #[.pointer none] 114)).heap[w.heap.size + 1]? = some (.cells #[.pointer none] 114) := by
    have := heap_alloc_new (w.alloc (.cells #[.int .i64 0, .string ⟨#[]⟩] 32)) (.cells #[.pointer none] 114)
    rwa [World.size_alloc] at this
  have hch : ∀ X, Kp (fun _ => False) w X → Chn X a [(.srv, ⟨o.2.toArray⟩)] (.iface 114 (.pointer (some ⟨q, 0, none⟩))) := fun X hX => .cons .srv [] q ⟨o.2.toArray⟩ (errV a) (hX.heap hq) .nil
  have hchd : ∀ X, Kp (fun _ => False) w X → Chd W X (.iface 114 (.pointer (some ⟨q, 0, none⟩))) o.1 := by
    intro X hX
    rcases hh with ⟨h1, hu⟩ | ⟨h1, hp⟩
    · rw [h1]
      obtain ⟨a', c, t, e1, e2⟩ := hN.n2.lay 1 (by simp [four])
      rw [hu] at e1
      unfold errV at e1
      injection e1 with e1
      injection e1 with _ e1
      injection e1 with e1
      injection e1 with e1
      subst e1
      exact ⟨a, _, hch X hX, ⟨c, t, e2⟩, hN.dis _ (by simp [four]) _ (by simp [four]) (by decide) a hu, hN.dis _ (by simp [four]) _ (by simp [four]) (by decide) a hu, .unk (by simp) (hN.dis _ (by simp [four]) _ (by simp [four]) (by decide) a hu) (by simp) hu⟩
    · rw [h1]
      exact ⟨a, _, hch X hX, hp.1, hp.2 _ (by simp [four]), hp.2 _ (by simp [four]), .other (by simp) (hp.2 _ (by simp [four])) (by simp) (hp.2 _ (by simp [four]))⟩
  have HAS := hide (as_srv _ a _ _ (hch _ K0) (w.heap.size + 1) _ (Below.cl (below_kp hW K0) hN.n2.ng.ety) I1)
  have HH := hide (And.intro hchd (And.intro K0 I0))
  clear hh K0 I0 I1 hch hchd hq
  go_enter Tryz.func23, Tryz.ntmps23
  go_wp2_with fail
  generalize ((w.alloc (.cells #[.int .i64 0, .string ⟨#[]⟩] 32)).alloc (.cells #[.pointer none] 114)) = w0 at *
  refine HAS.out.mono ?_
  rintro e w1 ⟨K1, h1⟩
  have h1' : e = .returned (.bool true) ∧ ∃ b ev, w1.heap[w.heap.size + 1]? = some (.cells #[.pointer (some ⟨b, 0, none⟩)] 114) ∧ w1.heap[b]? = some (.cells #[.string ⟨o.2.toArray⟩, ev] 118) := h1
  obtain ⟨rfl, b, ev, hb1, hb2⟩ := h1'
  clear h1
  have Kw1 : Kp (fun _ => False) w w1 := HH.out.2.1.and K1 (fun q hq e => by omega)
  have Iw1 : w1.heap[w.heap.size]? = some (.cells #[.int .i64 0, .string ⟨#[]⟩] 32) := (K1.block _ (lt_heap HH.out.2.2) (by omega)).trans HH.out.2.2
  have HER := hide (errno_a W hN.n2 w1.drew (below_kp hW Kw1.drew) _ o.1 (Or.inr (HH.out.1 w1.drew Kw1.drew)))
  obtain ⟨p0, p1⟩ := one_cells hb1
  obtain ⟨⟨s0, s1⟩, _⟩ := pair_facts hb2
  have HK1 := hide (And.intro Kw1 (And.intro Iw1 (And.intro hb1 hb2)))
  clear K1 Kw1 Iw1 HAS hb1 hb2
  go_wp2_with fail
  refine wp_md ?_ (OcC w1 w.heap.size o) ?_ ?_
  rotate_left
  · go_region_law (refine step_callF rfl 30 _ _ rfl #[.iface 114 (.pointer (some ⟨q, 0, none⟩))] (by go_simp) ?_; refine HER.out.mono ?_; rintro e w2 ⟨rfl, hq⟩; have t0 := hq.cel (show w1.drew.cell? ⟨w.heap.size + 1, 0, none⟩ = _ from p0); have t1 := hq.cel (show w1.drew.cell? ⟨b, 0, none⟩ = _ from s0); obtain ⟨⟨r0, r1⟩, r2, r3⟩ := pair_facts (hq.heap (show w1.drew.heap[w.heap.size]? = _ from HK1.out.2.1)))
    all_goals exact md_normal (C := OcC w1 w.heap.size o) ⟨_, hq, rfl⟩
  rintro _ ⟨X, KX, rfl⟩
  have HKX := hide (And.intro (HK1.out.1.drew.trans KX) (KX.heap (show w1.drew.heap[w.heap.size]? = _ from HK1.out.2.1)))
  clear KX
  go_wp2
  refine bodyPost_ret (oc_results _ rfl (set_pair HKX.out.2)) rfl ?_
  exact ⟨rfl, set_kp HKX.out.1 (Nat.le_refl _)⟩
end Go.Proofs.YtocligpfmfmihabGreatDoor
namespace Go.Proofs.YtocligpfmfmihabGreatDoor
open Go Go.RowKit Go.Maps Go.WideMaps
attribute [local go_sem] Oper.semAt_some

set_option maxRecDepth 20000 in
theorem answering_c (w : World) (v : Value) (hv : ∃ a n c, v = .slice a n c) : Calls Tryz.prog 24 #[v] w fun e w' => e = .returned (.func (.func 47) #[] #[.pointer (some ⟨w.heap.size, 0, none⟩)]) ∧ w' = w.alloc (.cells #[v] 37) := by
  obtain ⟨a, n, c, rfl⟩ := hv
  go_enter Tryz.func24, Tryz.ntmps24
  go_wp2
  go_ret
  exact ⟨rfl, rfl⟩
set_option maxRecDepth 20000 in
set_option maxHeartbeats 4000000 in
theorem asked_c (W : World) (hN : NG3 W) (w : World) (hW : Below W.heap.size W w) (rs : List Rpl) (ra : Option Addr) (rc cb : Nat) (hI : RpI w rs ra) (hrl : rs.length ≤ 1100000000) (hcb : w.heap[cb]? = some (.cells #[.slice ra rs.length rc] 37)) (src srv : Bs) :
    Calls Tryz.prog 47 #[.string ⟨src.toArray⟩, .string ⟨srv.toArray⟩, .pointer (some ⟨cb, 0, none⟩)] w fun e w' => Kp (fun _ => False) w w' ∧ ((∃ t, fetF rs src srv = some t ∧ e = .returned (.tuple #[.string ⟨t.toArray⟩, .nilIface])) ∨ (∃ a, fetF rs src srv = none ∧ e = .returned (.tuple #[.string ⟨#[]⟩, errV a]))) := by
  obtain ⟨ef, hef, _⟩ := hN.oth 0 (by simp)
  obtain ⟨cc, _⟩ := one_cells hcb
  have HI := hide hI
  clear hI
  go_enter Tryz.func47, Tryz.ntmps47
  go_wp2_with fail
  go_loopg [11] rs.length (fun gg q wx => ∃ (i : Nat), gg = rs.length - i ∧ i ≤ rs.length ∧ q = .int .i64 (i : Int) ∧ Kp (fun _ => False) w wx ∧ ∀ (j : Nat) (p : Rpl), j < i → rs[j]? = some p → isR src srv p = false)
  case atStart => exact ⟨0, rfl, by omega, rfl, Kp.refl _ _, fun _ _ h => absurd h (by omega)⟩
  case round =>
    obtain ⟨i, hgg, hin, rfl, Kr, hall⟩ := hrel
    have HY := hide (And.intro hgg (And.intro Kr hall))
    have hce := Below.cl (below_kp hW Kr) hef
    unfold errV at hce
    clear hgg hall
    by_cases hlt : i < rs.length
    · have hlt' : (i : Int) < (rs.length : Int) := by omega
      obtain ⟨p, hp⟩ : ∃ p, rs[i]? = some p := ⟨rs[i], List.getElem?_eq_getElem hlt⟩
      obtain ⟨g, o, rfl, c0, c1, c2, c3⟩ := HI.out.cells hp
      replace c0 := Kr.cel c0
      replace c1 := Kr.cel c1
      replace c2 := Kr.cel c2
      replace c3 := Kr.cel c3
      have Ka : Kp (fun _ => False) wr (wr.alloc (.cells #[.string ⟨p.src.toArray⟩, .string ⟨p.srv.toArray⟩, .string ⟨p.text.toArray⟩, .bool p.fails] 36)) := (Kp.refl _ _).alloc _
      have hcea := Ka.cel hce
      have HKa := hide (And.intro Ka (HY.out.2.1.trans Ka))
      clear Kr Ka
      have next : isR src srv p = false → ∀ (j : Nat) (q : Rpl), j < i + 1 → rs[j]? = some q → isR src srv q = false := by
        intro hno j q hj hq
        rcases Nat.lt_or_ge j i with h | h
        · exact HY.out.2.2 j q h hq
        · have : j = i := by omega
          subst this
          rw [hp] at hq
          injection hq with hq
          subst hq
          exact hno
      have HNX := hide (And.intro next hp)
      clear next hp
      by_cases h1 : p.src = src
      · have h1' : (p.src == src) = true := by simpa using h1
        by_cases h2 : p.srv = srv
        · have h2' : (p.srv == srv) = true := by simpa using h2
          have hf := fet_hit HNX.out.2 (show isR src srv p = true by simp [isR, h1, h2]) HY.out.2.2
          have HF := hide hf
          clear hf h1 h2
          cases hfa : p.fails with
          | true =>
            rw [hfa] at HF c3 HKa hcea
            clear hfa
            go_wp2
            go_region
            all_goals go_wp2
            all_goals go_ret2
            all_goals exact ⟨HKa.out.2.drew, Or.inr ⟨ef, HF.out, rfl⟩⟩
          | false =>
            rw [hfa] at HF c3 HKa hcea
            clear hfa
            go_wp2
            go_ret2
            exact ⟨HKa.out.2, Or.inl ⟨p.text, HF.out, rfl⟩⟩
        · have h2' : (p.srv == srv) = false := by simpa using h2
          have HN := hide (HNX.out.1 (by simp [isR, h2]))
          clear h1 h2
          go_wp2
          go_roundg (rs.length - (i + 1))
          case measure => rw [HY.out.1]; omega
          case rel => exact ⟨i + 1, rfl, by omega, int_i64 (by omega), HKa.out.2, HN.out⟩
      · have h1' : (p.src == src) = false := by simpa using h1
        have HN := hide (HNX.out.1 (by simp [isR, h1]))
        clear h1
        go_wp2
        go_roundg (rs.length - (i + 1))
        case measure => rw [HY.out.1]; omega
        case rel => exact ⟨i + 1, rfl, by omega, int_i64 (by omega), HKa.out.2, HN.out⟩
    · have hlt' : ¬ (i : Int) < (rs.length : Int) := by omega
      have HF := hide (fet_miss (rs := rs) (a := src) (b := srv) (fun j q hj hq => HY.out.2.2 j q (by omega) hq))
      clear Kr
      go_wp2
      go_region
      all_goals go_wp2
      all_goals go_ret2
      all_goals exact ⟨HY.out.2.1.drew, Or.inr ⟨ef, HF.out, rfl⟩⟩
set_option maxRecDepth 20000 in
set_option maxHeartbeats 4000000 in
theorem sourcesFor_c (w : World) (F Fk : Nat → Prop) (nb kb : Nat) (nm id ky : Bs) (so : Value) (xs : List Bs) (st : Ldg) (c : Nat) (hP : PNs w F Fk nb kb nm id ky so xs st c) (hxl : xs.length ≤ 1100000000) (s : Bs) :
    Calls Tryz.prog 49 #[.pointer (some ⟨nb, 0, none⟩), .string ⟨s.toArray⟩] w fun e w' => ∃ v, e = .returned v ∧ Kp (fun _ => False) w w' ∧ w'.ownsRow w.heap.size 9 1 v (srcsF s xs).length ((srcsF s xs).map fun x => .string ⟨x.toArray⟩) := by
  obtain ⟨i0, hi0, hz0, hz1, hz2⟩ := info_parts infoStr
  obtain ⟨va, vc, rfl, hvm, hva⟩ := own_sl hP.rso
  obtain ⟨n0, n1, n2, n3, n4⟩ := nt_facts hP.nblk
  have r0 := World.ownsRow_lit (base := w.heap.size) (e := 9) (size := 1) w #[.string ⟨s.toArray⟩] 1 (Nat.le_refl _) (by unfold maxLen; omega) rfl
  have HH := hide (And.intro hP.rso (And.intro hva (And.intro r0 hP.nblk)))
  clear hP hva r0
  have Ka : Kp (fun _ => False) w (w.alloc (.cells #[.string ⟨s.toArray⟩] 9)) := (Kp.refl _ _).alloc _
  have n3a := Ka.cel n3
  go_enter Tryz.func49, Tryz.ntmps49
  go_wp2_with fail
  go_loopg [5, 15] xs.length (fun gg a bb wx => ∃ (i : Nat) (ys : List Bs), gg = xs.length - i ∧ i ≤ xs.length ∧ bb = .int .i64 (i : Int) ∧ Kp (fun _ => False) w wx ∧ ys = s :: (xs.take i).filter (fun x => decide (x ≠ s)) ∧ ys.length ≤ i + 1 ∧ wx.ownsRow w.heap.size 9 1 a ys.length (ys.map fun x => .string ⟨x.toArray⟩))
  case atStart => exact ⟨0, [s], rfl, by omega, rfl, Ka, rfl, by simp, HH.out.2.2.1⟩
  case round =>
    obtain ⟨i, ys, hgg, hin, rfl, Kr, hys, hyl, row⟩ := hrel
    have HG1 := hide (And.intro hgg (And.intro Kr hys))
    clear hgg hys
    by_cases hlt : i < xs.length
    · have hlt' : (i : Int) < (xs.length : Int) := by omega
      obtain ⟨x, hx⟩ : ∃ x, xs[i]? = some x := ⟨xs[i], List.getElem?_eq_getElem hlt⟩
      obtain ⟨g, rfl, hg⟩ := HH.out.2.1 (by omega)
      have cg1 : wr.cell? ⟨g, i, none⟩ = some (.string ⟨x.toArray⟩) := own_cell (ownsRow_kp HH.out.1 Kr (by simp)) i _ (by rw [List.getElem?_map, hx]; rfl)
      have htk : (xs.take (i + 1)).filter (fun x => decide (x ≠ s)) = (xs.take i).filter (fun x => decide (x ≠ s)) ++ [x].filter (fun x => decide (x ≠ s)) := by
        rw [take_succ hx, List.filter_append]
      have HTK := hide htk
      have hsz := Kr.size
      clear hx htk Kr
      by_cases he : x = s
      · have he' : (x == s) = true := by simpa using he
        have HE := hide he
        clear he
        go_wp2
        go_roundg (xs.length - (i + 1))
        case measure => rw [HG1.out.1]; omega
        case rel => exact ⟨i + 1, ys, rfl, by omega, int_i64 (by omega), HG1.out.2.1, by rw [HTK.out, HE.out, HG1.out.2.2]; simp, by omega, row⟩
      · have he' : (x == s) = false := by simpa using he
        have HE := hide he
        clear he
        go_wp2_with (at_builtin; (refine wpList_append_own_at _ rfl _ _ 26 rfl w.heap.size 9 i0 (.string ⟨#[]⟩) 1 16 Tryz.underlying26 hi0 hz0 hz1 hz2 rfl (by decide) _ _ _ rfl (by exact World.ownsRow.alloc row _) ⟨wr.heap.size, 0, none⟩ 1 1 [.string ⟨x.toArray⟩] rfl rfl ?_ (by intro u hu; simp at hu; subst hu; rfl) (by unfold maxLen; omega) (by omega) (by simp; omega) ?_))
        · intro j u hj
          rcases j with _ | j
          all_goals simp at hj
          subst hj
          simp [Addr.add]
        intro v3 w3 y1 y2 _ y3
        obtain ⟨v3a, v3c, rfl⟩ := own_slice y1
        have K3 : Kp (fun _ => False) w w3 := (HG1.out.2.1.alloc _).gr y2 (fun r e => (row.lt r e).1)
        have H3 := hide (And.intro K3 y1)
        clear K3 y1 y2 y3
        go_wp2
        go_roundg (xs.length - (i + 1))
        case measure => rw [HG1.out.1]; omega
        case rel => exact ⟨i + 1, ys ++ [x], rfl, by omega, int_i64 (by omega), H3.out.1, by rw [HTK.out, HG1.out.2.2]; simp [HE.out], by simp; omega, by rw [List.map_append, List.length_append]; exact H3.out.2⟩
    · have hlt' : ¬ (i : Int) < (xs.length : Int) := by omega
      have hfr : ys = srcsF s xs := by
        rw [HG1.out.2.2, List.take_of_length_le (by omega)]
        rfl
      have HF := hide (And.intro hfr row)
      clear hfr row Kr
      go_wp2
      go_ret
      rw [← HF.out.1]
      exact ⟨_, rfl, HG1.out.2.1, HF.out.2⟩
end Go.Proofs.YtocligpfmfmihabGreatDoor

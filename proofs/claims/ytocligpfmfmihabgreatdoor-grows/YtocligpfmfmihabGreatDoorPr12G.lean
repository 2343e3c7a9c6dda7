import Derived.Test.YtocligpfmfmihabGreatDoorPr9G
import Derived.Test.YtocligpfmfmihabGreatDoorRea10G
import Derived.Test.YtocligpfmfmihabGreatDoorHon5G
import Derived.Test.YtocligpfmfmihabGreatDoorPr11G
namespace Go.Proofs.YtocligpfmfmihabGreatDoor
open Go Go.RowKit Go.Maps Go.WideMaps Go.Sort Go.Shelf
attribute [local go_sem] Oper.semAt_some

theorem bare_fits {l : List (Bs × J)} (h : WF 6 (.obj l)) (hl : (cJ (.obj l)).length ≤ 600) : WF 6 (.obj (bareL l)) ∧ cnt (.obj (bareL l)) ≤ 1000000 ∧ (cnt (.obj (bareL l)) + 1) * ((bareF l).length + 2) ≤ 139000000000000 ∧ (bareF l).length ≤ 602 := by
  have hcl := cnt_le (.obj l)
  have c1 := cntm_del kSig l
  have c2 := cntm_del kUns (delK kSig l)
  have t1 := tot_del kSig l
  have t2 := tot_del kUns (delK kSig l)
  have t3 := (cJ_tot l).2
  have t4 := (cJ_tot (bareL l)).1
  have hcb : cnt (.obj (bareL l)) ≤ 600 := by
    simp only [cnt] at hcl ⊢
    show cntm (delK kUns (delK kSig l)) ≤ 600
    omega
  have hbl : (bareF l).length ≤ 602 := by
    show (cJ (.obj (bareL l))).length ≤ 602
    have : tot (bareL l) ≤ tot l := by show tot (delK kUns (delK kSig l)) ≤ tot l; omega
    omega
  have hm : (cnt (.obj (bareL l)) + 1) * ((bareF l).length + 2) ≤ 601 * 604 := Nat.mul_le_mul (by omega) (by omega)
  exact ⟨WF_delK 5 kUns _ (WF_delK 5 kSig l h), by omega, by omega, hbl⟩
theorem mem_child (k s : Bs) (m : List (Bs × J)) : memF k (lookK s m) = lookK k (childF s m) := by
  unfold childF
  cases lookK s m with
  | none => rfl
  | some j => cases j <;> rfl
theorem sgOk_eq (l : List (Bs × J)) (s : Bs) (k : Ky) : sgOk l s k = (k.old || match strF (lookK k.id (childF s (childF kSig l))) with | some t => decide (t = (sealF ⟨k.key.toArray⟩ ⟨(bareF l).toArray⟩).data.toList) | none => false) := by
  unfold sgOk
  have e : memF k.id (memF s (memF kSig (some (.obj l)))) = lookK k.id (childF s (childF kSig l)) := by
    show memF k.id (memF s (lookK kSig l)) = _
    rw [mem_child, mem_child]
  rw [e]
  cases lookK k.id (childF s (childF kSig l)) with
  | none => rfl
  | some j => cases j <;> rfl
/-- What checkSignatures comes to. -/
def CsR (W w : World) (b : Bool) (e : Ending) (w' : World) : Prop := Kp (fun _ => False) w w' ∧ ((b = true ∧ e = .returned .nilIface) ∨ (b = false ∧ ∃ ev, e = .returned ev ∧ Ech W w' ev))
set_option maxRecDepth 20000 in
set_option maxHeartbeats 4000000 in
theorem checkSignatures_c (W : World) (hN : NG2 W) (w : World) (hW : Below W.heap.size W w) (l : List (Bs × J)) (b : Nat) (ho : Oz w l b) (hwf : WF 6 (.obj l)) (hcl : (cJ (.obj l)).length ≤ 600) (sn : Bs) (u : Int) (hsn : sn.length ≤ 1000) (B : Nat) (v : Value) (ks : List Ky) (row : w.ownsRow B 148 4 v ks.length (ks.flatMap kyC)) (hkl : ∀ k ∈ ks, k.id.length ≤ 1000 ∧ k.key.length ≤ 1000) :
    Calls Tryz.prog 59 #[.map (some b), .agg #[.string ⟨sn.toArray⟩, .int .i64 u, v]] w fun e w' => CsR W w (ks.all (sgOk l sn)) e w' := by
  obtain ⟨ea, hea, hpa⟩ := hN.sml 2 (by simp)
  obtain ⟨f1, f2, f3, f4⟩ := bare_fits hwf hcl
  obtain ⟨va, vc, rfl, hva⟩ := own_slice4 row
  have K0 : Kp (fun _ => False) w (w.alloc (.cells #[.string ⟨sn.toArray⟩, .int .i64 u, .slice va ks.length vc] 83)) := (Kp.refl _ _).alloc _
  have I0 := heap_alloc_new w (.cells #[.string ⟨sn.toArray⟩, .int .i64 u, .slice va ks.length vc] 83)
  have HMS := hide (messageOf_c W hN.ng _ (below_kp hW K0) _ l b (ho.up K0) (fun _ h => h) f1 f2 f3)
  clear f1 f2 f3
  go_enter Tryz.func59, Tryz.ntmps59
  go_wp2_with fail
  generalize (w.alloc (.cells #[.string ⟨sn.toArray⟩, .int .i64 u, .slice va ks.length vc] 83)) = w0 at *
  refine HMS.out.mono ?_
  rintro e w1 ⟨rfl, K1'⟩
  have K1 := K0.trans K1'
  have I1 := K1'.heap I0
  clear K1' I0
  obtain ⟨d0, d1, d2, df0, df1, df2, hdb⟩ := dfacts I1
  have HC := hide (ho.up K1)
  have HS := hide hsn
  clear HMS hsn
  go_wp2_with fail
  go_region_law (first
    | (refine step_callF rfl 70 _ _ rfl #[.map (some b), .string ⟨#[115, 105, 103, 110, 97, 116, 117, 114, 101, 115]⟩] (by go_simp) ?_; refine (oz_child _ l b kSig (by decide) (HC.out.up (Kp.refl _ w1).drew)).mono ?_; rintro e w2 ⟨b1, rfl, K2', o1⟩; have K2 := hide (((Kp.refl (fun _ => False) w1).drew).trans K2'); have I2 := K2.out.heap I1; have O1 := hide o1; clear o1 K2'; obtain ⟨d0, d1, d2, df0, df1, df2, hdb⟩ := dfacts I2)
    | (refine step_callF rfl 70 _ _ rfl #[.map (some b1), .string ⟨sn.toArray⟩] (by go_simp) ?_; refine (oz_child _ (childF kSig l) b1 sn (by have := HS.out; omega) O1.out).mono ?_; rintro e w3 ⟨b2, rfl, K3', o2⟩; have K3 := hide K3'; have I3 := K3.out.heap I2; have O2 := hide o2; clear o2 K3'))
  all_goals
    obtain ⟨d0, d1, d2, df0, df1, df2, hdb⟩ := dfacts I3
    have K03 := (K1.trans K2.out).trans K3.out
    have hgv : ∀ i, i < ks.length → ∃ g, va = some ⟨g, 0, none⟩ := fun i hi => by
      obtain ⟨g, hg, _⟩ := hva (by omega)
      exact ⟨g, hg⟩
    have hkm := own_max4 row
    have HV := hide (And.intro hgv (And.intro row hkl))
    have HO := hide (And.intro O2.out K03)
    clear hgv row hkl hva K1 K2 K3 O1 O2 K03 HC
    go_wp2_with fail
    go_loopg [21] ks.length (fun gg a wr => ∃ (i : Nat), gg = ks.length - i ∧ i ≤ ks.length ∧ a = .int .i64 (i : Int) ∧ Kp (fun _ => False) w3 wr ∧ ∀ (j : Nat) (k : Ky), j < i → ks[j]? = some k → sgOk l sn k = true)
    case atStart => exact ⟨0, rfl, by omega, rfl, Kp.refl _ _, fun _ _ h => absurd h (by omega)⟩
    case round =>
      obtain ⟨i, hgg, hin, rfl, Kr, hall⟩ := hrel
      have HG := hide (And.intro hgg hall)
      clear hgg hall
      by_cases hlt : i < ks.length
      · have hlt' : decide ((i : Int) < (ks.length : Int)) = true := by simp; omega
        obtain ⟨k, hk⟩ : ∃ k, ks[i]? = some k := ⟨ks[i], List.getElem?_eq_getElem hlt⟩
        obtain ⟨g, rfl⟩ := HV.out.1 i hlt
        have Kw := HO.out.2.trans Kr
        obtain ⟨c0, c1, c2, c3⟩ := ky_cells (ownsRow_kp HV.out.2.1 Kw (by simp)) i k hk
        have hkk := HV.out.2.2 k (List.mem_of_getElem? hk)
        have Ka : Kp (fun _ => False) wr (wr.alloc (.cells #[.string ⟨k.id.toArray⟩, .string ⟨k.key.toArray⟩, .bool k.old, .int .i64 k.till] 148)) := (Kp.refl _ _).alloc _
        have Ia := heap_alloc_new wr (.cells #[.string ⟨k.id.toArray⟩, .string ⟨k.key.toArray⟩, .bool k.old, .int .i64 k.till] 148)
        have hsg := sgOk_eq l sn k
        have next : sgOk l sn k = true → ∀ (j : Nat) (q : Ky), j < i + 1 → ks[j]? = some q → sgOk l sn q = true := by
          intro hok j q hj hq
          rcases Nat.lt_or_ge j i with h | h
          · exact HG.out.2 j q h hq
          · have : j = i := by omega
            subst this
            rw [hk] at hq
            injection hq with hq
            subst hq
            exact hok
        have bad : sgOk l sn k = false → ks.all (sgOk l sn) = false := by
          intro hno
          rw [List.all_eq_false]
          exact ⟨k, List.mem_of_getElem? hk, by rw [hno]; decide⟩
        have NB := hide (And.intro next (And.intro bad hsg))
        have HK := hide (And.intro Kw (And.intro Kr Ka))
        clear next bad hk hsg Kw Kr
        have HTU := hide (textUnder_c W hN _ (below_kp hW (HK.out.1.trans Ka)) (childF sn (childF kSig l)) b2 k.id (by omega) (HO.out.1.up (HK.out.2.1.trans Ka)))
        cases hko : k.old with
        | true =>
          rw [hko] at c2 Ka
          have HN := hide (NB.out.1 (by rw [NB.out.2.2, hko]; rfl))
          have HA := hide (HK.out.2.1.trans Ka)
          clear hko Ka Ia HTU
          go_wp2
          go_roundg (ks.length - (i + 1))
          case measure => rw [HG.out.1]; omega
          case rel => exact ⟨i + 1, rfl, by omega, int_i64 (by omega), HA.out, HN.out⟩
        | false =>
          rw [hko] at c2 Ka Ia HTU
          have HA := hide (And.intro (HK.out.1.trans Ka) (And.intro (HK.out.2.1.trans Ka) hko))
          clear hko Ka
          go_wp2_with fail
          generalize (wr.alloc (.cells #[.string ⟨k.id.toArray⟩, .string ⟨k.key.toArray⟩, .bool false, .int .i64 k.till] 148)) = wa at *
          refine HTU.out.mono ?_
          rintro e w5 ⟨K5, h5⟩
          obtain ⟨e0, e1, e2, e3, _, _, _, _, heb⟩ := kfacts (K5.heap Ia)
          have hce := Below.cl (below_kp hW (HA.out.1.trans K5)) hea
          unfold errV at hce
          have H5 := hide K5
          have HI5 := hide (K5.heap Ia)
          clear K5 HTU Ia
          cases hst : strF (lookK k.id (childF sn (childF kSig l))) with
          | none =>
            rw [hst] at h5
            obtain ⟨ev, rfl, he⟩ := h5
            obtain ⟨tt, uu, rfl⟩ := he.iface
            have HB := hide (NB.out.2.1 (by rw [NB.out.2.2, HA.out.2.2, hst]; rfl))
            clear he hst
            go_wp2
            go_ret
            exact ⟨(HA.out.1.trans H5.out).alloc _, Or.inr ⟨HB.out, _, rfl, .mem _ _ _ (heap_alloc_new w5 _) (Ech.base ea hpa)⟩⟩
          | some t =>
            rw [hst] at h5
            replace h5 : e = .returned (.tuple #[.string ⟨t.toArray⟩, .nilIface]) := h5
            subst h5
            obtain ⟨tl, htl⟩ : ∃ tl : Bs, sealF ⟨k.key.toArray⟩ ⟨(bareF l).toArray⟩ = ⟨tl.toArray⟩ := ⟨_, rfl⟩
            have hseal := seal_any ⟨k.key.toArray⟩ ⟨(bareF l).toArray⟩ w5 (by rw [mk_size2]; omega) (by rw [mk_size2]; omega)
            rw [htl] at hseal
            have hsg : sgOk l sn k = decide (t = tl) := by
              rw [NB.out.2.2, HA.out.2.2, hst, htl]
              simp
            have HSL := hide (And.intro hseal hsg)
            clear hseal hsg htl hst
            go_wp2_with fail
            refine HSL.out.1.mono ?_
            rintro e w6 ⟨rfl, B6⟩
            have K6 := Kp.of_below B6
            have H6 := hide (H5.out.trans K6)
            have hce := Below.cl (below_kp hW (HA.out.1.trans H6.out)) hea
            unfold errV at hce
            obtain ⟨e0, e1, e2, e3, _, _, _, _, heb⟩ := kfacts (K6.heap (by exact HI5.out))
            clear B6 K6
            by_cases ht : t = tl
            · have ht' : (t == tl) = true := by simpa using ht
              have HN := hide (NB.out.1 (by rw [HSL.out.2]; simpa using ht))
              clear ht
              go_wp2
              go_roundg (ks.length - (i + 1))
              case measure => rw [HG.out.1]; omega
              case rel => exact ⟨i + 1, rfl, by omega, int_i64 (by omega), HA.out.2.1.trans H6.out, HN.out⟩
            · have ht' : (t == tl) = false := by simpa using ht
              have HB := hide (NB.out.2.1 (by rw [HSL.out.2]; simpa using ht))
              clear ht
              go_wp2
              go_ret
              exact ⟨(HA.out.1.trans H6.out).alloc _, Or.inr ⟨HB.out, _, rfl, .mem _ _ _ (heap_alloc_new w6 _) (Ech.base ea hpa)⟩⟩
      · have hlt' : decide ((i : Int) < (ks.length : Int)) = false := by simp; omega
        have HE : Hid (ks.all (sgOk l sn) = true) := by
          show _ = _
          rw [List.all_eq_true]
          intro k hk
          obtain ⟨j, hj, he⟩ := List.mem_iff_getElem.1 hk
          exact HG.out.2 j k (by omega) (by rw [List.getElem?_eq_getElem hj, he])
        have HK := hide (HO.out.2.trans Kr)
        clear Kr
        go_wp2
        go_ret
        exact ⟨HK.out, Or.inl ⟨HE.out, rfl⟩⟩
end Go.Proofs.YtocligpfmfmihabGreatDoor
namespace Go.Proofs.YtocligpfmfmihabGreatDoor
open Go Go.RowKit Go.Maps Go.WideMaps Go.Sort Go.Shelf
attribute [local go_sem] Oper.semAt_some

theorem Chn.three {w : World} {a : Addr} {ks : List (Lk × ByteArray)} {ev x y z p q r : Value} {k : Nat} (h : Chn w a ks ev) (hk : w.heap[k]? = some (.cells #[x, y, z] 83)) : Chn (((w.setCell ⟨k, 0, none⟩ p).setCell ⟨k, 1, none⟩ q).setCell ⟨k, 2, none⟩ r) a ks ev := by
  refine h.up ?_
  intro j c t hj ht
  have : j ≠ k := by
    rintro rfl
    rw [hk] at hj
    injection hj with hj
    injection hj with _ h2 _
    subst h2
    revert ht
    decide
  rw [heap_set_other (by exact this), heap_set_other (by exact this), heap_set_other (by exact this)]
  exact hj
theorem Enr.three {W w : World} {ev x y z p q r : Value} {n k : Nat} (h : Enr W w ev n) (hk : w.heap[k]? = some (.cells #[x, y, z] 83)) : Enr W (((w.setCell ⟨k, 0, none⟩ p).setCell ⟨k, 1, none⟩ q).setCell ⟨k, 2, none⟩ r) ev n := by
  rcases h with h | ⟨a, ks, h1, h2⟩
  · refine Or.inl ?_
    rcases h with h | ⟨h1, fb, h2, k', g, cb, h3, h4⟩ | h
    · exact Or.inl h
    · refine Or.inr (Or.inl ⟨h1, fb, h2, k', g, cb, ?_, h4⟩)
      have : fb ≠ k := by
        rintro rfl
        rw [hk] at h3
        injection h3 with h3
        injection h3 with _ h2 _
        revert h2
        decide
      rw [heap_set_other (by exact this), heap_set_other (by exact this), heap_set_other (by exact this)]
      exact h3
    · exact Or.inr (Or.inr h)
  · exact Or.inr ⟨a, ks, h1.three hk, h2⟩
theorem EV.up {W w w' : World} {ev : Value} {n : Nat} (h : EV W w ev n) (hk : Kp (fun _ => False) w w') : EV W w' ev n := by
  rcases h with h | ⟨h1, fb, h2, k', g, cb, h3, h4⟩ | h
  · exact Or.inl h
  · exact Or.inr (Or.inl ⟨h1, fb, h2, k', g, cb, hk.heap h3, h4⟩)
  · exact Or.inr (Or.inr h)
theorem Enr.up {W w w' : World} {ev : Value} {n : Nat} (h : Enr W w ev n) (hk : Kp (fun _ => False) w w') : Enr W w' ev n := by
  rcases h with h | h
  · exact Or.inl (h.up hk)
  · exact Or.inr (h.up hk)
/-- What readDocument comes to. -/
def RdD (W w : World) (o : Except Nat (Bs × Int × List Ky)) (e : Ending) (w' : World) : Prop := Kp (fun _ => False) w w' ∧ match o with
  | .error n => ∃ ev, e = .returned (.tuple #[.agg #[.string ⟨#[]⟩, .int .i64 0, .slice none 0 0], ev]) ∧ Enr W w' ev n ∧ ∃ t u, ev = .iface t u
  | .ok (s, u, ks) => ∃ v, e = .returned (.tuple #[.agg #[.string ⟨s.toArray⟩, .int .i64 u, v], .nilIface]) ∧ w'.ownsRow w.heap.size 148 4 v ks.length (ks.flatMap kyC)
theorem rdd_results {w : World} {rb : Nat} {a b c d : Value} (tmps : Array Value) (h2 : tmps[2]?.getD undef = .pointer (some ⟨rb, 0, none⟩)) (h3 : tmps[3]?.getD undef = d) (hb : w.heap[rb]? = some (.cells #[a, b, c] 83)) :
    (results Tryz.f35 tmps).run Tryz.prog w = .ok (.tuple #[.agg #[a, b, c], d]) w := by
  obtain ⟨c0, c1, c2, _⟩ := dfacts hb
  simp [results, Tryz.results35, go_sem, h2, h3, c0, c1, c2]
theorem rdd_no {W w w6 : World} {o : Except Nat (Bs × Int × List Ky)} {n : Nat} {x y z : Value} {t : TypeId} {u : Value} (h : Kp (fun _ => False) w w6) (hq : w6.heap[w.heap.size]? = some (.cells #[x, y, z] 83)) (he : Enr W w6 (.iface t u) n) (ho : o = .error n) :
    RdD W w o (.returned (.tuple #[.agg #[.string ⟨#[]⟩, .int .i64 0, .slice none 0 0], .iface t u])) (((w6.setCell ⟨w.heap.size, 0, none⟩ (.string ⟨#[]⟩)).setCell ⟨w.heap.size, 1, none⟩ (.int .i64 0)).setCell ⟨w.heap.size, 2, none⟩ (.slice none 0 0)) := by
  subst ho
  exact ⟨kp3 h, _, rfl, he.three hq, _, _, rfl⟩
theorem rdd_yes {W w w6 : World} {B : Nat} {o : Except Nat (Bs × Int × List Ky)} {s : Bs} {u : Int} {ks : List Ky} {v : Value} (h : Kp (fun _ => False) w w6) (hB : w.heap.size < B) (row : w6.ownsRow B 148 4 v ks.length (ks.flatMap kyC)) (ho : o = .ok (s, u, ks)) :
    RdD W w o (.returned (.tuple #[.agg #[.string ⟨s.toArray⟩, .int .i64 u, v], .nilIface])) (((w6.setCell ⟨w.heap.size, 0, none⟩ (.string ⟨s.toArray⟩)).setCell ⟨w.heap.size, 1, none⟩ (.int .i64 u)).setCell ⟨w.heap.size, 2, none⟩ v) := by
  subst ho
  refine ⟨kp3 h, _, rfl, own_base (Nat.le_of_lt hB) (ownsRow_heap row ?_)⟩
  intro k hk
  have := (own_cells row hk).1
  have hne : k ≠ w.heap.size := by omega
  rw [heap_set_other (by exact hne), heap_set_other (by exact hne), heap_set_other (by exact hne)]
theorem rdd_doc {W w w6 : World} {o : Except Nat (Bs × Int × List Ky)} {x y z : Value} {D : Obj} {t : TypeId} {u : Value} (h : Kp (fun _ => False) w w6) (hq : w6.heap[w.heap.size]? = some (.cells #[x, y, z] 83)) (he : Ech W w6 (.iface t u)) (ho : o = .error 4) :
    RdD W w o (.returned (.tuple #[.agg #[.string ⟨#[]⟩, .int .i64 0, .slice none 0 0], .iface 131 (.pointer (some ⟨w6.heap.size + 1, 0, none⟩))])) (((((w6.setCell ⟨w.heap.size, 0, none⟩ (.string ⟨#[]⟩)).setCell ⟨w.heap.size, 1, none⟩ (.int .i64 0)).setCell ⟨w.heap.size, 2, none⟩ (.slice none 0 0)).alloc D).alloc (.cells #[.iface t u] 144)) := by
  subst ho
  have e3 := ech3 (a := .string ⟨#[]⟩) (b := .int .i64 0) (c := .slice none 0 0) he hq (by decide)
  have hsz : (((w6.setCell ⟨w.heap.size, 0, none⟩ (.string ⟨#[]⟩)).setCell ⟨w.heap.size, 1, none⟩ (.int .i64 0)).setCell ⟨w.heap.size, 2, none⟩ (.slice none 0 0)).heap.size = w6.heap.size := by simp
  refine ⟨((kp3 h).alloc _).alloc _, _, rfl, Or.inr (Ech.docu (e3.up (((Kp.refl _ _).alloc _).alloc _)) ?_), _, _, rfl⟩
  have := heap_alloc_new ((((w6.setCell ⟨w.heap.size, 0, none⟩ (.string ⟨#[]⟩)).setCell ⟨w.heap.size, 1, none⟩ (.int .i64 0)).setCell ⟨w.heap.size, 2, none⟩ (.slice none 0 0)).alloc D) (.cells #[.iface t u] 144)
  rw [World.size_alloc, hsz] at this
  exact this
theorem doc_kids {k : Bs} {l : List (Bs × J)} (hwf : WF 6 (.obj l)) (hcl : (cJ (.obj l)).length ≤ 600) : ∀ m, objF (lookK k l) = some m → Srt m ∧ m.length ≤ 1000 ∧ ∀ p ∈ m, p.1.length ≤ 1000 := by
  intro m hm
  have hlk : lookK k l = some (.obj m) := by
    cases h : lookK k l with
    | none => rw [h] at hm; cases hm
    | some j =>
      rw [h] at hm
      cases j with
      | obj m' => injection hm with hm; subst hm; rfl
      | _ => cases hm
  have hl := child_len hlk
  have hw : WF 5 (.obj m) := by
    have h2 := hwf
    simp only [WF, WFm_iff] at h2
    exact (h2.2 _ (lookK_mem hlk)).2
  have hs : Srt m := by
    simp only [WF] at hw
    exact hw.1
  have hc := cnt_le (.obj m)
  have hg := (cntm_ge m).1
  simp only [cnt] at hc
  refine ⟨hs, by omega, ?_⟩
  intro p hp
  have h1 := mem_len hp
  have h2 := cStr_geq p.1
  unfold cMem at h1
  rw [List.length_append] at h1
  omega
theorem docF_ids {l : List (Bs × J)} {s : Bs} {u : Int} {ks : List Ky} (h : docF l = some (s, u, ks)) : s.length ≤ 20 ∧ (∀ k ∈ ks, k.id.length ≤ 20) ∧ (ks.map (·.id)).Nodup := by
  rw [docF_eq] at h
  simp only [Option.bind_eq_some_iff, Option.map_eq_some_iff, Prod.mk.injEq] at h
  obtain ⟨s', hs, u', hu, a, ha, b, hb, q, hq, rfl, rfl, rfl⟩ := h
  refine ⟨?_, ?_⟩
  · unfold nameF at hs
    simp only [Option.bind_eq_some_iff] at hs
    obtain ⟨t, _, hs⟩ := hs
    split at hs
    · rename_i hn
      injection hs with hs
      subst hs
      simp [isNm] at hn
      exact hn.2
    · cases hs
  · have hida : ∀ k ∈ a, isNm k.id = true := by
      unfold inF at ha
      simp only [Option.bind_eq_some_iff] at ha
      obtain ⟨m, _, ha⟩ := ha
      split at ha
      · exact fun k hk => ((keysF_ids ha).2 k hk).2
      · cases ha
    have hidb : ∀ k ∈ b, isNm k.id = true := by
      rw [oldF_eq] at hb
      split at hb
      · injection hb with hb
        subst hb
        intro k hk
        cases hk
      · simp only [Option.bind_eq_some_iff] at hb
        obtain ⟨m, _, hb⟩ := hb
        exact fun k hk => ((keysF_ids hb).2 k hk).2
    unfold joinF at hq
    split at hq
    · rename_i hn
      injection hq with hq
      subst hq
      refine ⟨?_, ?_⟩
      · intro k hk
        obtain ⟨p, hp, rfl⟩ := List.mem_map.1 hk
        obtain ⟨k2, hk2, rfl⟩ := List.mem_map.1 (mem_ofL hp)
        have : isNm k2.id = true := by
          rcases List.mem_append.1 hk2 with h | h
          · exact hida k2 h
          · exact hidb k2 h
        simp [isNm] at this
        exact this.2
      · have hsr := srt_ofL ((a ++ b).map fun k => (k.id, k))
        have hkk : ∀ p ∈ ofL ((a ++ b).map fun k => (k.id, k)), p.2.id = p.1 := by
          intro p hp
          obtain ⟨k2, _, rfl⟩ := List.mem_map.1 (mem_ofL hp)
          rfl
        rw [List.map_map]
        have he : (ofL ((a ++ b).map fun k => (k.id, k))).map ((fun k => k.id) ∘ fun p => p.2) = (ofL ((a ++ b).map fun k => (k.id, k))).map (·.1) := List.map_congr_left (fun p hp => hkk p hp)
        rw [he]
        unfold List.Nodup
        rw [List.pairwise_map]
        exact hsr.imp fun {x y} h e => by rw [e] at h; exact lt_irr _ h
    · cases hq
set_option maxRecDepth 20000 in
set_option maxHeartbeats 4000000 in
theorem readDocument_c (W : World) (hN : NG2 W) (s : ByteArray) (w : World) (hW : Below W.heap.size W w) :
    Calls Tryz.prog 35 #[.string s] w fun e w' => RdD W w (readF s.data.toList) e w' := by
  have K0 : Kp (fun _ => False) w (w.alloc (.cells #[.string ⟨#[]⟩, .int .i64 0, .slice none 0 0] 83)) := (Kp.refl _ _).alloc _
  have I0 := heap_alloc_new w (.cells #[.string ⟨#[]⟩, .int .i64 0, .slice none 0 0] 83)
  have HX := hide (readObject_c W hN.ng s _ (below_kp hW K0))
  have hs0 : (w.alloc (.cells #[.string ⟨#[]⟩, .int .i64 0, .slice none 0 0] 83)).heap.size = w.heap.size + 1 := by simp
  go_enter Tryz.func35, Tryz.ntmps35
  go_wp2_with fail
  generalize (w.alloc (.cells #[.string ⟨#[]⟩, .int .i64 0, .slice none 0 0] 83)) = w0 at *
  refine HX.out.mono ?_
  rintro e w1 ⟨K1, ⟨l, b, hof, rfl, hr⟩ | ⟨n, ev, hof, rfl, he, tt, u, rfl⟩⟩
  · have HK1 := hide (K0.trans K1)
    have I1 := K1.heap I0
    have hs1 := K1.size
    have oz : Oz w1 l b := Rep.mono (fun j hj => hj.2) _ hr
    obtain ⟨hp, hl⟩ := object_ok hof
    obtain ⟨hwf, hle⟩ := parse_ok hp
    have hcl : (cJ (.obj l)).length ≤ 600 := Nat.le_trans hle hl
    have hrf : readF s.data.toList = readO l := by unfold readF; rw [hof]
    have HX2 := hide (documentOf_c W hN w1 (below_kp hW HK1.out) l b oz (doc_kids hwf hcl) (doc_kids hwf hcl))
    have HF := hide (And.intro hrf (And.intro oz (And.intro hwf hcl)))
    clear HX hof hr oz hp hl hwf hle hcl hrf K1 I0
    go_wp2_with fail
    refine HX2.out.mono ?_
    rintro e w2 ⟨K2, h2⟩
    have HK2 := hide (HK1.out.trans K2)
    have I2 := K2.heap I1
    have hs2 := K2.size
    have oz2 := HF.out.2.1.up K2
    clear HX2 K2 I1
    obtain ⟨r0, r1, r2, rf0, rf1, rf2, hrb⟩ := dfacts I2
    cases hdf : docF l with
    | none =>
      rw [hdf] at h2
      obtain ⟨ev, rfl, he⟩ := h2
      obtain ⟨tt, u, rfl⟩ := he.iface
      have HE := hide (show readF s.data.toList = .error 4 by rw [HF.out.1]; unfold readO; rw [hdf])
      have HEE := hide he
      clear he hdf
      go_wp2
      exact bodyPost_ret (rdd_results _ rfl rfl (by rw [Below.heap_alloc _ _ _ (by simp only [World.size_alloc, World.size_setCell]; omega), Below.heap_alloc _ _ _ (by simp only [World.size_setCell]; omega)]; exact set3 I2)) rfl (rdd_doc HK2.out I2 HEE.out HE.out)
    | some d =>
      obtain ⟨sn, un, ks⟩ := d
      rw [hdf] at h2
      obtain ⟨v, rfl, row⟩ := h2
      obtain ⟨hsn, hid, hnd⟩ := docF_ids hdf
      have hkl := docF_len hdf
      have hlen := HF.out.2.2.2
      obtain ⟨va, vc, rfl, _⟩ := own_slice4 row
      have Kd : Kp (fun _ => False) w2 (w2.alloc (.cells #[.string ⟨sn.toArray⟩, .int .i64 un, .slice va ks.length vc] 83)) := (Kp.refl _ _).alloc _
      have HCS := hide (checkSignatures_c W hN _ (below_kp hW (HK2.out.trans Kd)) l b (oz2.up Kd) HF.out.2.2.1 HF.out.2.2.2 sn un (by omega) _ _ ks (row.alloc _) (fun k hk => ⟨by have := hid k hk; omega, by have := hkl k hk; omega⟩))
      have HR := hide row
      have hrf := HF.out.1
      unfold readO at hrf
      rw [hdf] at hrf
      have HRF := hide hrf
      clear row hdf hsn hid hnd hkl hrf
      go_wp2_with fail
      have Id := heap_alloc_new w2 (.cells #[.string ⟨sn.toArray⟩, .int .i64 un, .slice va ks.length vc] 83)
      generalize (w2.alloc (.cells #[.string ⟨sn.toArray⟩, .int .i64 un, .slice va ks.length vc] 83)) = wd at *
      refine HCS.out.mono ?_
      rintro e w3 ⟨K3, h3⟩
      have HK3 := hide (HK2.out.trans (Kd.trans K3))
      have I3 := (Kd.trans K3).heap I2
      have Id3 := K3.heap Id
      have HR3 := hide (ownsRow_kp HR.out (Kd.trans K3) (by simp))
      clear HCS K3 Kd Id r0 r1 r2 rf0 rf1 rf2 hrb I2
      obtain ⟨r0, r1, r2, rf0, rf1, rf2, hrb⟩ := dfacts I3
      obtain ⟨q0, q1, q2, qf0, qf1, qf2, hqb⟩ := dfacts Id3
      rcases h3 with ⟨hb, rfl⟩ | ⟨hb, ev, rfl, he⟩
      · have HE := hide (show readF s.data.toList = .ok (sn, un, ks) by rw [HRF.out, if_pos hb])
        clear hb
        go_wp2
        exact bodyPost_ret (rdd_results _ rfl rfl (set3 I3)) rfl (rdd_yes HK3.out (by omega) HR3.out HE.out)
      · obtain ⟨tt, u, rfl⟩ := he.iface
        have HE := hide (show readF s.data.toList = .error 5 by rw [HRF.out, if_neg (by rw [hb]; decide)])
        have HEE := hide he
        clear hb he
        go_wp2
        exact bodyPost_ret (rdd_results _ rfl rfl (set3 I3)) rfl (rdd_no HK3.out I3 (Or.inr HEE.out.sig) HE.out)
  · have HK1 := hide (K0.trans K1)
    have I1 := K1.heap I0
    obtain ⟨r0, r1, r2, rf0, rf1, rf2, hrb⟩ := dfacts I1
    have HE := hide (show readF s.data.toList = .error n by unfold readF; rw [hof])
    have HEE := hide he
    clear he hof HX K1 I0
    go_wp2
    exact bodyPost_ret (rdd_results _ rfl rfl (set3 I1)) rfl (rdd_no HK1.out I1 (Or.inl HEE.out) HE.out)
end Go.Proofs.YtocligpfmfmihabGreatDoor

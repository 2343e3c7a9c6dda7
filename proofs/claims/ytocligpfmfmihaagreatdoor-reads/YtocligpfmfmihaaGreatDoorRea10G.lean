import Derived.Test.YtocligpfmfmihaaGreatDoorSortFG
import Derived.Test.YtocligpfmfmihaaGreatDoorMpG
namespace Go.Proofs.YtocligpfmfmihaaGreatDoor
open Go Go.RowKit Go.Maps

theorem own_max4 {w : World} {B : Nat} {e : TypeId} {v : Value} {n : Nat} {xs : List Value} (h : w.ownsRow B e 4 v n xs) : n ≤ 9223372036854775807 := by
  obtain ⟨_, ⟨_, rfl⟩ | ⟨g, cap, cur, _, _, _, h3, h4, _⟩⟩ := h
  · omega
  · unfold maxLen at h4; omega
set_option maxRecDepth 20000 in
set_option maxHeartbeats 4000000 in
/-- Read, where it is a document. -/
theorem rread_yes (W : World) (hG : GL W) (s : ByteArray) (w : World) (ho : Below W.heap.size W w) (o : List (Bs × J)) (hof : objectF s.data.toList = .ok o) (sn : Bs) (u : Int) (ks : List Ky) (hdf : docF o = some (sn, u, ks)) :
    Calls Tryz.prog 21 #[.string s] w fun e w' => RdR w (readF s.data.toList) e w' := by
  have HN : Hid (readF s.data.toList = if ks.all (sgOk o sn) then .ok (sn, u, ks) else .error 5) := by show _ = _; unfold readF; rw [hof]; show readO o = _; unfold readO; rw [hdf]
  have hkl := docF_len hdf
  have K0 : Kp (fun _ => False) w (w.alloc (.cells #[.string ⟨#[]⟩, .int .i64 0, .slice none 0 0] 30)) := (Kp.refl _ _).alloc _
  have I0 := heap_alloc_new w (.cells #[.string ⟨#[]⟩, .int .i64 0, .slice none 0 0] 30)
  have hob := robject_c W hG s _ (below_kp ho K0)
  have HOB := hide (And.intro hob (And.intro hof hdf))
  clear hob hof hdf
  go_enter Tryz.func21, Tryz.ntmps21
  go_wp2_with fail
  generalize (w.alloc (.cells #[.string ⟨#[]⟩, .int .i64 0, .slice none 0 0] 30)) = w0 at *
  refine HOB.out.1.mono ?_
  rintro e w1 ⟨K1, ⟨n, hn, hof, rfl⟩ | ⟨o', b, hof, hle, rfl, hr⟩⟩
  · rw [HOB.out.2.1] at hof; cases hof
  have hoo : o' = o := by
    rw [HOB.out.2.1] at hof
    injection hof with hof
    exact hof.symm
  subst hoo
  have K01 := K0.trans K1
  have I1 := (K1.block _ (lt_heap I0) (by simp)).trans I0
  have hr1 : RR w1 (fun c => c < w1.heap.size) (.obj o') b := hr.frame (fun _ _ => rfl) (fun c hc => hc.2)
  have PJ : PoJ w1 (some ⟨b, 0, none⟩) (some (.obj o')) := Or.inr ⟨b, _, rfl, rfl, hle, hr1⟩
  clear hof hr
  go_wp2_with fail
  refine (rdoc_c w1 b o' PJ).mono ?_
  rintro e w2 ⟨K2, hd⟩
  have K02 := K01.trans K2
  have I2 := (K2.block _ (lt_heap I1) (by simp)).trans I1
  rw [HOB.out.2.2] at hd
  obtain ⟨v, rfl, row⟩ := hd
  obtain ⟨va, vc, rfl, hva⟩ := own_slice4 row
  have K3 : Kp (fun _ => False) w2 (w2.alloc (.cells #[.string ⟨sn.toArray⟩, .int .i64 u, .slice va ks.length vc] 30)) := (Kp.refl _ _).alloc _
  have I3 := heap_alloc_new w2 (.cells #[.string ⟨sn.toArray⟩, .int .i64 u, .slice va ks.length vc] 30)
  have PJ3 := (PJ.kp K2).kp K3
  have hr3 : RR (w2.alloc (.cells #[.string ⟨sn.toArray⟩, .int .i64 u, .slice va ks.length vc] 30)) (fun c => c < (w2.alloc (.cells #[.string ⟨sn.toArray⟩, .int .i64 u, .slice va ks.length vc] 30)).heap.size) (.obj o') b :=
    hr1.frame (fun k hk => ((K2.trans K3).block k hk (by simp))) (fun k hk => Nat.lt_of_lt_of_le hk (K2.trans K3).size)
  have HB := hide (rbareJ hr3 (fun k hk => hk) (by omega) (Kp.refl _ _))
  have I23 := (K3.block _ (lt_heap I2) (by simp)).trans I2
  have row3 := ownsRow_kp row K3 (by simp)
  have K03 := K02.trans K3
  have hw1 : w.heap.size < w1.heap.size := lt_heap I1
  clear hr3 hr1 PJ row
  go_wp2_with fail
  generalize (w2.alloc (.cells #[.string ⟨sn.toArray⟩, .int .i64 u, .slice va ks.length vc] 30)) = w3 at *
  refine HB.out.mono ?_
  rintro e w4 ⟨rfl, K4⟩
  have I24 := (K4.block _ (lt_heap I23) (by simp)).trans I23
  have Id4 := (K4.block _ (lt_heap I3) (by simp)).trans I3
  have row4 := ownsRow_kp row3 K4 (by simp)
  have K04 := K03.trans K4
  have PJ4 := PJ3.kp K4
  obtain ⟨r0, r1, r2, rf0, rf1, rf2, hrb⟩ := dfacts I24
  obtain ⟨d0, d1, d2, df0, df1, df2, hdb⟩ := dfacts Id4
  clear HB row3 PJ3 I3 I23
  go_wp2_with fail
  refine (getJ w4 _ _ PJ4 kSig).mono ?_
  rintro e w5 ⟨pa, rfl, rfl, PA⟩
  go_wp2_with fail
  refine (getJ w5 _ _ PA sn).mono ?_
  rintro e w6 ⟨pm, rfl, rfl, PM⟩
  have hgv : ∀ i, i < ks.length → ∃ g, va = some ⟨g, 0, none⟩ := fun i hi => by
    obtain ⟨g, hg, _⟩ := hva (by omega)
    exact ⟨g, hg⟩
  have hkm := own_max4 row4
  have HV := hide (And.intro hgv (And.intro row4 hkl))
  clear hgv row4 hkl hva
  have hbl : (bareF o').length ≤ 600 := Nat.le_trans (bare_len o') hle
  generalize hM : memF sn (memF kSig (some (.obj o'))) = M at *
  have HM := hide hM
  clear hM
  go_wp2_with fail
  go_loopg [11] ks.length (fun gg a wr => ∃ (i : Nat), gg = ks.length - i ∧ i ≤ ks.length ∧ a = .int .i64 (i : Int) ∧ wr = w6 ∧ ∀ j k, j < i → ks[j]? = some k → sgOk o' sn k = true)
  case atStart => exact ⟨0, rfl, by omega, rfl, rfl, fun _ _ h => absurd h (by omega)⟩
  case round =>
    obtain ⟨i, hg, hin, rfl, rfl, hall⟩ := hrel
    have HG := hide (And.intro hg hall)
    clear hg hall
    by_cases hlt : i < ks.length
    · have hlt' : (i : Int) < (ks.length : Int) := by omega
      obtain ⟨k, hk⟩ : ∃ k, ks[i]? = some k := ⟨ks[i], List.getElem?_eq_getElem hlt⟩
      obtain ⟨g, rfl⟩ := HV.out.1 i hlt
      obtain ⟨c0, c1, c2, c3⟩ := ky_cells HV.out.2.1 i k hk
      have hkk := HV.out.2.2 k (List.mem_of_getElem? hk)
      obtain ⟨tl, htl⟩ : ∃ tl : Bs, sealF ⟨k.key.toArray⟩ ⟨(bareF o').toArray⟩ = ⟨tl.toArray⟩ := ⟨_, rfl⟩
      have hseal := refSeal_any ⟨k.key.toArray⟩ ⟨(bareF o').toArray⟩ wr (by rw [mk_size2]; omega) (by rw [mk_size2]; omega)
      have HSL : Hid (Calls Tryz.prog 49 #[.string ⟨k.key.toArray⟩, .string ⟨(bareF o').toArray⟩] wr fun e w' => e = .returned (.string ⟨tl.toArray⟩) ∧ w' = wr) := by
        refine hseal.mono ?_
        rintro e w' ⟨rfl, rfl⟩
        exact ⟨congrArg (fun q => Ending.returned (.string q)) htl, rfl⟩
      have hsg : sgOk o' sn k = (k.old || match memF k.id M with | some (.str t) => decide (t = tl) | _ => false) := by
        unfold sgOk
        have e9 : (⟨tl.toArray⟩ : ByteArray).data.toList = tl := by simp
        rw [HM.out, htl, e9]
        cases memF k.id M with
        | none => rfl
        | some j => cases j <;> rfl
      have HS := hide (And.intro hsg hk)
      clear hsg hk hseal htl hkk
      go_wp2_with fail
      refine (getJ wr _ _ PM k.id).mono ?_
      rintro e w7 ⟨px, rfl, rfl, PX⟩
      generalize memF k.id M = X at *
      go_wp2_with fail
      refine HSL.out.mono ?_
      rintro e w8 ⟨rfl, rfl⟩
      have next : sgOk o' sn k = true → ∀ j q, j < i + 1 → ks[j]? = some q → sgOk o' sn q = true := by
        intro hok j q hj hq
        rcases Nat.lt_or_ge j i with h | h
        · exact HG.out.2 j q h hq
        · have : j = i := by omega
          subst this
          rw [HS.out.2] at hq
          injection hq with hq
          subst hq
          exact hok
      have bad : sgOk o' sn k = false → readF s.data.toList = .error 5 := by
        intro hno
        rw [HN.out, if_neg]
        intro hall
        have := List.all_eq_true.1 hall k (List.mem_of_getElem? HS.out.2)
        rw [hno] at this
        cases this
      have NB := hide (And.intro next bad)
      clear next bad
      cases hko : k.old with
      | true =>
        rw [hko] at c2
        have hok : sgOk o' sn k = true := by rw [HS.out.1, hko]; rfl
        have HK := hide hok
        clear hko hok
        go_wp2
        go_roundg (ks.length - (i + 1))
        case measure => rw [HG.out.1]; omega
        case rel => exact ⟨i + 1, rfl, by omega, int_i64 (by omega), rfl, NB.out.1 HK.out⟩
      | false =>
        rw [hko] at c2
        rcases PX with ⟨rfl, rfl⟩ | ⟨xb, jx, rfl, rfl, _, hrx⟩
        · have HE := hide (NB.out.2 (by rw [HS.out.1, hko]; rfl))
          clear hko
          go_wp2
          exact bodyPost_ret (rd_results _ rfl rfl (set3 I24)) rfl (rd_err K04 HE.out)
        · by_cases hkd : rkind jx = 34
          · obtain ⟨t, rfl⟩ := kind_str hkd
            clear hkd
            cases hrx with
            | str t hFx hxb =>
              obtain ⟨x0, x1, x2, x3, x4, xz0, xz1, xz2, xz3, xz4, hxbl⟩ := vfacts hxb
              by_cases ht : t = tl
              · have ht' : (t == tl) = true := by simpa using ht
                have hok : sgOk o' sn k = true := by rw [HS.out.1, hko]; simp [ht]
                have HK := hide hok
                clear hko hok ht
                go_wp2
                go_roundg (ks.length - (i + 1))
                case measure => rw [HG.out.1]; omega
                case rel => exact ⟨i + 1, rfl, by omega, int_i64 (by omega), rfl, NB.out.1 HK.out⟩
              · have ht' : (t == tl) = false := by simpa using ht
                have HE := hide (NB.out.2 (by rw [HS.out.1, hko]; simp [ht]))
                clear hko ht
                go_wp2
                exact bodyPost_ret (rd_results _ rfl rfl (set3 I24)) rfl (rd_err K04 HE.out)
          · obtain ⟨nn, tt, K2', L2', hb2⟩ := hrx.kind
            obtain ⟨x0, x1, x2, x3, x4, xz0, xz1, xz2, xz3, xz4, hxbl⟩ := vfacts hb2
            have hkn : (((rkind jx : Nat) : Int) != 34) = true := by simp; omega
            have HE := hide (NB.out.2 (by
              rw [HS.out.1, hko]
              cases jx with
              | str t => exact absurd rfl hkd
              | _ => rfl))
            clear hrx hb2 hkd hko HS NB
            generalize rkind jx = kd at *
            go_wp2
            exact bodyPost_ret (rd_results _ rfl rfl (set3 I24)) rfl (rd_err K04 HE.out)
    · have hlt' : ¬ (i : Int) < (ks.length : Int) := by omega
      have HE : Hid (readF s.data.toList = .ok (sn, u, ks)) := by
        show _ = _
        rw [HN.out, if_pos]
        rw [List.all_eq_true]
        intro k hk
        obtain ⟨j, hj, he⟩ := List.mem_iff_getElem.1 hk
        exact HG.out.2 j k (by omega) (by rw [List.getElem?_eq_getElem hj, he])
      go_wp2
      exact bodyPost_ret (rd_results _ rfl rfl (set3 I24)) rfl (rd_ok K04 hw1 HV.out.2.1 HE.out)
theorem rread_c (W : World) (hG : GL W) (s : ByteArray) (w : World) (ho : Below W.heap.size W w) :
    Calls Tryz.prog 21 #[.string s] w fun e w' => RdR w (readF s.data.toList) e w' := by
  cases hof : objectF s.data.toList with
  | error n => exact rread_no W hG s w ho (fun o h => by rw [hof] at h; cases h)
  | ok o =>
    cases hdf : docF o with
    | none => exact rread_no W hG s w ho (fun o' h => by rw [hof] at h; injection h with h; subst h; exact hdf)
    | some d =>
      obtain ⟨sn, u, ks⟩ := d
      exact rread_yes W hG s w ho o hof sn u ks hdf
end Go.Proofs.YtocligpfmfmihaaGreatDoor
namespace Go.Proofs.YtocligpfmfmihaaGreatDoor
open Go Go.RowKit

/-- A call of a function, and of nothing else. -/
theorem step_callF {P : Program} {ops : Array Oper} {o : Oper} {a : Act} {w : World} {K : Act → World → Prop} {Q : Exit → Act → World → Prop} {E : Prop} (hgd : o.guard = none) (f : FuncId) (xs : Array Operand) (ts : Array TypeId) (_ : o.op = .call { callee := .value (.func f), args := xs, argTypes := ts }) (args : Array Value)
    (hrun : (execOp a.eval o).run P w = .ok (.enter f args) w)
    (h : Calls P f args w fun | .returned v, w'' => K (a.put o.dst v) w'' | .panicked chain, w'' => Q (.panic chain) a w'' | .outgrown, _ => LetsOut Q) :
    if Region.wanted o (yielded ops a.tmps) = true then Oper.wp P o a w K Q else E := step_call hgd f args hrun h
end Go.Proofs.YtocligpfmfmihaaGreatDoor
namespace Go.Proofs.YtocligpfmfmihaaGreatDoor
open Go Go.RowKit Go.Maps Go.WideMaps Go.Sort Go.Shelf
attribute [local go_sem] Oper.semAt_some

theorem bare_fits {l : List (Bs × J)} (h : WF 6 (.obj l)) (hl : (cJ (.obj l)).length ≤ 600) : WF 6 (.obj (bareL l)) ∧ cnt (.obj (bareL l)) ≤ 1000000 ∧ (cnt (.obj (bareL l)) + 1) * ((bareF l).length + 2) ≤ 139000000000000 ∧ (bareF l).length ≤ 602 := by
  have hcl := cnt_le (.obj l)
  have c1 := cntm_del kSig l
  have c2 := cntm_del kUns (delK kSig l)
  have t1 := tot_del kSig l
  have t2 := tot_del kUns (delK kSig l)
  have t3 := (cJ_tot l).2
  have t4 := (cJ_tot (bareL l)).1
  have hcb : cnt (.obj (bareL l)) ≤ 600 := by
    simp only [cnt] at hcl ⊢
    show cntm (delK kUns (delK kSig l)) ≤ 600
    omega
  have hbl : (bareF l).length ≤ 602 := by
    show (cJ (.obj (bareL l))).length ≤ 602
    have : tot (bareL l) ≤ tot l := by show tot (delK kUns (delK kSig l)) ≤ tot l; omega
    omega
  have hm : (cnt (.obj (bareL l)) + 1) * ((bareF l).length + 2) ≤ 601 * 604 := Nat.mul_le_mul (by omega) (by omega)
  exact ⟨WF_delK 5 kUns _ (WF_delK 5 kSig l h), by omega, by omega, hbl⟩
theorem mem_child (k s : Bs) (m : List (Bs × J)) : memF k (lookK s m) = lookK k (childF s m) := by
  unfold childF
  cases lookK s m with
  | none => rfl
  | some j => cases j <;> rfl
theorem sgOk_eq (l : List (Bs × J)) (s : Bs) (k : Ky) : sgOk l s k = (k.old || match strF (lookK k.id (childF s (childF kSig l))) with | some t => decide (t = (sealF ⟨k.key.toArray⟩ ⟨(bareF l).toArray⟩).data.toList) | none => false) := by
  unfold sgOk
  have e : memF k.id (memF s (memF kSig (some (.obj l)))) = lookK k.id (childF s (childF kSig l)) := by
    show memF k.id (memF s (lookK kSig l)) = _
    rw [mem_child, mem_child]
  rw [e]
  cases lookK k.id (childF s (childF kSig l)) with
  | none => rfl
  | some j => cases j <;> rfl
/-- What checkSignatures comes to. -/
def CsR (W w : World) (b : Bool) (e : Ending) (w' : World) : Prop := Kp (fun _ => False) w w' ∧ ((b = true ∧ e = .returned .nilIface) ∨ (b = false ∧ ∃ ev, e = .returned ev ∧ Ech W w' ev))
theorem cs_new {W w0 w : World} {b : Bool} {s : ByteArray} {ev : Value} (hk : Kp (fun _ => False) w0 w) (h : Ech W w ev) (hb : b = false) : CsR W w0 b (.returned (.iface 250 (.pointer (some ⟨w.heap.size, 0, none⟩)))) (w.alloc (.cells #[.string s, ev] 252)).drew :=
  ⟨(hk.alloc _).drew, Or.inr ⟨hb, _, rfl, ech_box h⟩⟩
set_option maxRecDepth 20000 in
set_option maxHeartbeats 4000000 in
theorem checkSignatures_c (W : World) (hN : NG2 W) (w : World) (hW : Below W.heap.size W w) (l : List (Bs × J)) (b : Nat) (ho : Oz w l b) (hwf : WF 6 (.obj l)) (hcl : (cJ (.obj l)).length ≤ 600) (sn : Bs) (u : Int) (hsn : sn.length ≤ 1000) (B : Nat) (v : Value) (ks : List Ky) (row : w.ownsRow B 35 4 v ks.length (ks.flatMap kyC)) (hkl : ∀ k ∈ ks, k.id.length ≤ 1000 ∧ k.key.length ≤ 1000) :
    Calls Tryz.prog 79 #[.map (some b), .agg #[.string ⟨sn.toArray⟩, .int .i64 u, v]] w fun e w' => CsR W w (ks.all (sgOk l sn)) e w' := by
  obtain ⟨ea, hea, hpa⟩ := hN.sml 7 (by simp)
  obtain ⟨f1, f2, f3, f4⟩ := bare_fits hwf hcl
  obtain ⟨va, vc, rfl, hva⟩ := own_slice4 row
  have K0 : Kp (fun _ => False) w (w.alloc (.cells #[.string ⟨sn.toArray⟩, .int .i64 u, .slice va ks.length vc] 30)) := (Kp.refl _ _).alloc _
  have I0 := heap_alloc_new w (.cells #[.string ⟨sn.toArray⟩, .int .i64 u, .slice va ks.length vc] 30)
  have HMS := hide (messageOf_c W hN.ng _ (below_kp hW K0) _ l b (ho.up K0) (fun _ h => h) f1 f2 f3)
  clear f1 f2 f3
  go_enter Tryz.func79, Tryz.ntmps79
  go_wp2_with fail
  generalize (w.alloc (.cells #[.string ⟨sn.toArray⟩, .int .i64 u, .slice va ks.length vc] 30)) = w0 at *
  refine HMS.out.mono ?_
  rintro e w1 ⟨rfl, K1'⟩
  have K1 := K0.trans K1'
  have I1 := K1'.heap I0
  clear K1' I0
  obtain ⟨d0, d1, d2, df0, df1, df2, hdb⟩ := dfacts I1
  have HC := hide (ho.up K1)
  have HS := hide hsn
  clear HMS hsn
  go_wp2_with fail
  go_region_law (first
    | (refine step_callF rfl 75 _ _ rfl #[.map (some b), .string ⟨#[115, 105, 103, 110, 97, 116, 117, 114, 101, 115]⟩] (by go_simp) ?_; refine (oz_child _ l b kSig (by decide) (HC.out.up (Kp.refl _ w1).drew)).mono ?_; rintro e w2 ⟨b1, rfl, K2', o1⟩; have K2 := hide (((Kp.refl (fun _ => False) w1).drew).trans K2'); have I2 := K2.out.heap I1; have O1 := hide o1; clear o1 K2'; obtain ⟨d0, d1, d2, df0, df1, df2, hdb⟩ := dfacts I2)
    | (refine step_callF rfl 75 _ _ rfl #[.map (some b1), .string ⟨sn.toArray⟩] (by go_simp) ?_; refine (oz_child _ (childF kSig l) b1 sn (by have := HS.out; omega) O1.out).mono ?_; rintro e w3 ⟨b2, rfl, K3', o2⟩; have K3 := hide K3'; have I3 := K3.out.heap I2; have O2 := hide o2; clear o2 K3'))
  all_goals
    obtain ⟨d0, d1, d2, df0, df1, df2, hdb⟩ := dfacts I3
    have K03 := (K1.trans K2.out).trans K3.out
    have hgv : ∀ i, i < ks.length → ∃ g, va = some ⟨g, 0, none⟩ := fun i hi => by
      obtain ⟨g, hg, _⟩ := hva (by omega)
      exact ⟨g, hg⟩
    have hkm := own_max4 row
    have HV := hide (And.intro hgv (And.intro row hkl))
    have HO := hide (And.intro O2.out K03)
    clear hgv row hkl hva K1 K2 K3 O1 O2 K03 HC
    go_wp2_with fail
    go_loopg [21] ks.length (fun gg a wr => ∃ (i : Nat), gg = ks.length - i ∧ i ≤ ks.length ∧ a = .int .i64 (i : Int) ∧ Kp (fun _ => False) w3 wr ∧ ∀ (j : Nat) (k : Ky), j < i → ks[j]? = some k → sgOk l sn k = true)
    case atStart => exact ⟨0, rfl, by omega, rfl, Kp.refl _ _, fun _ _ h => absurd h (by omega)⟩
    case round =>
      obtain ⟨i, hgg, hin, rfl, Kr, hall⟩ := hrel
      have HG := hide (And.intro hgg hall)
      clear hgg hall
      by_cases hlt : i < ks.length
      · have hlt' : decide ((i : Int) < (ks.length : Int)) = true := by simp; omega
        obtain ⟨k, hk⟩ : ∃ k, ks[i]? = some k := ⟨ks[i], List.getElem?_eq_getElem hlt⟩
        obtain ⟨g, rfl⟩ := HV.out.1 i hlt
        have Kw := HO.out.2.trans Kr
        obtain ⟨c0, c1, c2, c3⟩ := ky_cells (ownsRow_kp HV.out.2.1 Kw (by simp)) i k hk
        have hkk := HV.out.2.2 k (List.mem_of_getElem? hk)
        have Ka : Kp (fun _ => False) wr (wr.alloc (.cells #[.string ⟨k.id.toArray⟩, .string ⟨k.key.toArray⟩, .bool k.old, .int .i64 k.till] 35)) := (Kp.refl _ _).alloc _
        have Ia := heap_alloc_new wr (.cells #[.string ⟨k.id.toArray⟩, .string ⟨k.key.toArray⟩, .bool k.old, .int .i64 k.till] 35)
        have hsg := sgOk_eq l sn k
        have next : sgOk l sn k = true → ∀ (j : Nat) (q : Ky), j < i + 1 → ks[j]? = some q → sgOk l sn q = true := by
          intro hok j q hj hq
          rcases Nat.lt_or_ge j i with h | h
          · exact HG.out.2 j q h hq
          · have : j = i := by omega
            subst this
            rw [hk] at hq
            injection hq with hq
            subst hq
            exact hok
        have bad : sgOk l sn k = false → ks.all (sgOk l sn) = false := by
          intro hno
          rw [List.all_eq_false]
          exact ⟨k, List.mem_of_getElem? hk, by rw [hno]; decide⟩
        have NB := hide (And.intro next (And.intro bad hsg))
        have HK := hide (And.intro Kw (And.intro Kr Ka))
        clear next bad hk hsg Kw Kr
        have HTU := hide (textUnder_c W hN _ (below_kp hW (HK.out.1.trans Ka)) (childF sn (childF kSig l)) b2 k.id (by omega) (HO.out.1.up (HK.out.2.1.trans Ka)))
        cases hko : k.old with
        | true =>
          rw [hko] at c2 Ka
          have HN := hide (NB.out.1 (by rw [NB.out.2.2, hko]; rfl))
          have HA := hide (HK.out.2.1.trans Ka)
          clear hko Ka Ia HTU
          go_wp2
          go_roundg (ks.length - (i + 1))
          case measure => rw [HG.out.1]; omega
          case rel => exact ⟨i + 1, rfl, by omega, int_i64 (by omega), HA.out, HN.out⟩
        | false =>
          rw [hko] at c2 Ka Ia HTU
          have HA := hide (And.intro (HK.out.1.trans Ka) (And.intro (HK.out.2.1.trans Ka) hko))
          clear hko Ka
          go_wp2_with fail
          generalize (wr.alloc (.cells #[.string ⟨k.id.toArray⟩, .string ⟨k.key.toArray⟩, .bool false, .int .i64 k.till] 35)) = wa at *
          refine HTU.out.mono ?_
          rintro e w5 ⟨K5, h5⟩
          obtain ⟨e0, e1, e2, e3, _, _, _, _, heb⟩ := kfacts (K5.heap Ia)
          have hce := Below.cl (below_kp hW (HA.out.1.trans K5)) hea
          unfold errV at hce
          have H5 := hide K5
          have HI5 := hide (K5.heap Ia)
          clear K5 HTU Ia
          cases hst : strF (lookK k.id (childF sn (childF kSig l))) with
          | none =>
            rw [hst] at h5
            obtain ⟨ev, rfl, he⟩ := h5
            obtain ⟨tt, uu, rfl⟩ := he.iface
            have HB := hide (NB.out.2.1 (by rw [NB.out.2.2, HA.out.2.2, hst]; rfl))
            clear he hst
            go_wp2
            go_ret
            exact ⟨(HA.out.1.trans H5.out).alloc _, Or.inr ⟨HB.out, _, rfl, .mem _ _ _ (heap_alloc_new w5 _) (Ech.base ea hpa)⟩⟩
          | some t =>
            rw [hst] at h5
            replace h5 : e = .returned (.tuple #[.string ⟨t.toArray⟩, .nilIface]) := h5
            subst h5
            obtain ⟨tl, htl⟩ : ∃ tl : Bs, sealF ⟨k.key.toArray⟩ ⟨(bareF l).toArray⟩ = ⟨tl.toArray⟩ := ⟨_, rfl⟩
            have hseal := seal_any ⟨k.key.toArray⟩ ⟨(bareF l).toArray⟩ w5 (by rw [mk_size2]; omega) (by rw [mk_size2]; omega)
            rw [htl] at hseal
            have hsg : sgOk l sn k = decide (t = tl) := by
              rw [NB.out.2.2, HA.out.2.2, hst, htl]
              simp
            have HSL := hide (And.intro hseal hsg)
            clear hseal hsg htl hst
            go_wp2_with fail
            refine HSL.out.1.mono ?_
            rintro e w6 ⟨rfl, B6⟩
            have K6 := Kp.of_below B6
            have H6 := hide (H5.out.trans K6)
            have hce := Below.cl (below_kp hW (HA.out.1.trans H6.out)) hea
            unfold errV at hce
            obtain ⟨e0, e1, e2, e3, _, _, _, _, heb⟩ := kfacts (K6.heap (by exact HI5.out))
            clear B6 K6
            by_cases ht : t = tl
            · have ht' : (t == tl) = true := by simpa using ht
              have HN := hide (NB.out.1 (by rw [HSL.out.2]; simpa using ht))
              clear ht
              go_wp2
              go_roundg (ks.length - (i + 1))
              case measure => rw [HG.out.1]; omega
              case rel => exact ⟨i + 1, rfl, by omega, int_i64 (by omega), HA.out.2.1.trans H6.out, HN.out⟩
            · have ht' : (t == tl) = false := by simpa using ht
              have HB := hide (NB.out.2.1 (by rw [HSL.out.2]; simpa using ht))
              clear ht
              go_wp2
              go_ret
              exact ⟨(HA.out.1.trans H6.out).alloc _, Or.inr ⟨HB.out, _, rfl, .mem _ _ _ (heap_alloc_new w6 _) (Ech.base ea hpa)⟩⟩
      · have hlt' : decide ((i : Int) < (ks.length : Int)) = false := by simp; omega
        have HE : Hid (ks.all (sgOk l sn) = true) := by
          show _ = _
          rw [List.all_eq_true]
          intro k hk
          obtain ⟨j, hj, he⟩ := List.mem_iff_getElem.1 hk
          exact HG.out.2 j k (by omega) (by rw [List.getElem?_eq_getElem hj, he])
        have HK := hide (HO.out.2.trans Kr)
        clear Kr
        go_wp2
        go_ret
        exact ⟨HK.out, Or.inl ⟨HE.out, rfl⟩⟩
end Go.Proofs.YtocligpfmfmihaaGreatDoor

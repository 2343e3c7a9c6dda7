import Derived.Test.YtocligpfmfmihabGreatDoorPr6G
import Derived.Test.YtocligpfmfmihabGreatDoorSortFG
namespace Go.Proofs.YtocligpfmfmihabGreatDoor
open Go Go.RowKit Go.Maps Go.WideMaps Go.Sort Go.Shelf
attribute [local go_sem] Oper.semAt_some

instance : Inhabited Ky := ⟨⟨[], [], false, 0⟩⟩
set_option maxHeartbeats 1000000 in
theorem join1_c (x y : Ky) (w : World) : Calls Tryz.prog 140 #[.agg (kyC x).toArray, .agg (kyC y).toArray] w fun e w' => e = .returned (.int .i64 (kyLt x y)) ∧ ∃ q os', w' = grow (w.drewN q) os' := by
  have hcon := fun w' => Tryz.strings_Compare ⟨x.id.toArray⟩ ⟨y.id.toArray⟩ w'
  have e1 : (⟨x.id.toArray⟩ : ByteArray).data.toList = x.id := rfl
  have e2 : (⟨y.id.toArray⟩ : ByteArray).data.toList = y.id := rfl
  rw [e1, e2] at hcon
  unfold kyLt kyC
  generalize Lib.compareBytes x.id y.id = r at hcon ⊢
  have HC := hide hcon
  clear hcon e1 e2
  go_enter Tryz.func140, Tryz.ntmps140
  go_wp2_with fail
  refine (HC.out _).mono ?_
  rintro e w' ⟨rfl, rfl⟩
  go_wp2
  go_ret
  exact ⟨rfl, 0, _, by rw [alloc_eq_grow, alloc_eq_grow, grow_grow]; rfl⟩
theorem perm_list {d d' : Array Ky} (h : PermIn 0 d.size d d') : d'.toList.Perm d.toList := by
  obtain ⟨h1, _, h3⟩ := h
  rw [← h1] at h3
  have e1 : d'.extract 0 d'.size = d' := by simp
  have e2 : d.extract 0 d'.size = d := by rw [h1]; simp
  rwa [e1, e2] at h3
theorem sorted_list {d' : Array Ky} {n : Nat} (hn : d'.size = n) (h : SortedIn (ltOf kyLt) 0 n d') (i j : Nat) (hij : i < j) (x y : Ky) (hx : d'.toList[i]? = some x) (hy : d'.toList[j]? = some y) : ¬ y.id < x.id := by
  have hj : j < d'.size := by
    rcases Nat.lt_or_ge j d'.size with h | h
    · exact h
    · rw [List.getElem?_eq_none (by simpa using h)] at hy; cases hy
  have h1 := h i j (Nat.zero_le _) hij (by omega)
  rw [Array.getElem?_toList] at hx hy
  rw [getElem!_def, getElem!_def, hx, hy] at h1
  simpa only [ltOf, kyLt, cmp_lt, decide_eq_false_iff_not] using h1
/-- slices.SortFunc of keys, by their names. -/
theorem sortKeys_c (w : World) (B g c : Nat) (ks : List Ky) (row : w.ownsRow B 148 4 (.slice (some ⟨g, 0, none⟩) ks.length c) ks.length (ks.flatMap kyC)) (hl : ks.length ≤ 100000) :
    Calls Tryz.prog 139 #[.slice (some ⟨g, 0, none⟩) ks.length c, .func (.func 140) #[] #[]] w fun e w' => e = .returned (.tuple #[]) ∧
      ∃ L : List Ky, L.Perm ks ∧ (∀ (i j : Nat), i < j → ∀ (x y : Ky), L[i]? = some x → L[j]? = some y → ¬ y.id < x.id) ∧ Kp (· = g) w w' ∧ w'.ownsRow B 148 4 (.slice (some ⟨g, 0, none⟩) ks.length c) ks.length (L.flatMap kyC) := by
  have hda : ks.toArray.size = ks.length := List.size_toArray
  have h := AnyQ.slices_SortFunc Tryz.sortKey 4 Tryz.isAgg148 Tryz.sizeOf148 kyC (fun _ => rfl) (fun x v hv => by simp [kyC] at hv; rcases hv with rfl | rfl | rfl | rfl <;> rfl) kyLt ky_swo 140 #[] g 0 c ks.toArray w (enters_of Tryz.func140 (by kernel_rfl) rfl) (fun _ _ _ _ x y => join1_c x y _) (row_holds ks.toArray (by exact row) hda) (row.lt g rfl).2 (by rw [hda]; omega)
  rw [hda] at h
  refine Calls.mono (show Calls Tryz.prog 139 _ _ _ from h) ?_
  rintro e w' ⟨rfl, d', nn, os, hpm, hsd, rfl⟩
  rw [← hda] at hpm hsd
  have hdz : d'.size = ks.length := hpm.1.trans hda
  exact ⟨rfl, d'.toList, perm_list hpm, sorted_list (hpm.1) hsd, sort_kp kyC 4 w g nn d' os, sort_row nn d' os row hdz⟩
end Go.Proofs.YtocligpfmfmihabGreatDoor
namespace Go.Proofs.YtocligpfmfmihabGreatDoor
open Go Go.RowKit Go.Maps Go.WideMaps Go.Sort Go.Shelf
attribute [local go_sem] Oper.semAt_some
set_option maxRecDepth 20000 in
set_option maxHeartbeats 4000000 in
theorem joinKeys_c (W : World) (hN : NG2 W) (w : World) (hW : Below W.heap.size W w) (B1 B2 : Nat) (v1 v2 : Value) (ks1 ks2 : List Ky) (row1 : w.ownsRow B1 148 4 v1 ks1.length (ks1.flatMap kyC)) (row2 : w.ownsRow B2 148 4 v2 ks2.length (ks2.flatMap kyC)) (hpos : 0 < ks1.length) (hl1 : ks1.length ≤ 1000) (hl2 : ks2.length ≤ 1000) :
    Calls Tryz.prog 93 #[v1, v2] w fun e w' => KuR W w (joinF ks1 ks2) e w' := by
  obtain ⟨ea, hea, hpa⟩ := hN.sml 14 (by simp)
  obtain ⟨a1, c1, rfl, _⟩ := own_slice4 row1
  obtain ⟨a2, c2, rfl, _⟩ := own_slice4 row2
  have K0 : Kp (fun _ => False) w (w.alloc (.cells #[.slice a1 ks1.length c1, .slice a2 ks2.length c2] 81)) := (Kp.refl _ _).alloc _
  have HCC := hide (concat_c _ B1 B2 _ _ ks1 ks2 (row1.alloc _) (row2.alloc _) w.heap.size (heap_alloc_new w (.cells #[.slice a1 ks1.length c1, .slice a2 ks2.length c2] 81)) hpos hl1 hl2)
  have hs0 := K0.size
  clear row1 row2
  go_enter Tryz.func93, Tryz.ntmps93
  go_wp2_with fail
  generalize (w.alloc (.cells #[.slice a1 ks1.length c1, .slice a2 ks2.length c2] 81)) = w0 at *
  refine HCC.out.mono ?_
  rintro e w1 ⟨K1, v, rfl, row⟩
  obtain ⟨a3, c3, rfl, hg⟩ := own_slice4 row
  obtain ⟨g, rfl, hgl⟩ := hg (by rw [List.length_append]; omega)
  have hgb := (row.lt g rfl).1
  have HSF := hide (sortKeys_c w1 _ g c3 (ks1 ++ ks2) row (by rw [List.length_append]; omega))
  have HK := hide (K0.trans K1)
  clear HCC row K1 hg K0
  have hnn : (ks1 ++ ks2).length ≤ 100000 ∧ 0 < (ks1 ++ ks2).length := by rw [List.length_append]; omega
  generalize hks : ks1 ++ ks2 = ks at *
  have HKS := hide hks
  clear hks
  go_wp2_with fail
  refine HSF.out.mono ?_
  rintro e w2 ⟨rfl, L, hperm, hsrt, KS, rowS⟩
  have K2 : Kp (fun _ => False) w w2 := HK.out.and KS (by intro i hi e; omega)
  have hLl : L.length = ks.length := hperm.length_eq
  have hcell : ∀ (j : Nat) (k : Ky), L[j]? = some k → w2.cell? ⟨g, j * 4, none⟩ = some (.string ⟨k.id.toArray⟩) := fun j k hk => (ky_cells rowS j k hk).1
  rw [← HKS.out] at hperm
  have HH := hide (And.intro hperm hsrt)
  have HP : Hid ((∀ (j : Nat) (k : Ky), L[j]? = some k → w2.cell? ⟨g, j * 4, none⟩ = some (.string ⟨k.id.toArray⟩)) ∧ Kp (fun _ => False) w w2 ∧ w2.ownsRow w0.heap.size 148 4 (.slice (some ⟨g, 0, none⟩) ks.length c3) ks.length (L.flatMap kyC) ∧ w2.cell? ⟨14, 0, none⟩ = some (errV ea) ∧ Ech W w2 (errV ea)) :=
    ⟨hcell, K2, rowS, Below.cl (below_kp hW K2) hea, Ech.base ea hpa⟩
  clear HSF HK KS rowS K2 hperm hsrt hcell
  go_wp2_with fail
  go_loopg [7] ks.length (fun gg a wr => ∃ (i : Nat), gg = ks.length - i ∧ i + 1 ≤ ks.length ∧ a = .int .i64 ((i : Int) + 1) ∧ ((∀ (j : Nat) (k : Ky), L[j]? = some k → wr.cell? ⟨g, j * 4, none⟩ = some (.string ⟨k.id.toArray⟩)) ∧ Kp (fun _ => False) w wr ∧ wr.ownsRow w0.heap.size 148 4 (.slice (some ⟨g, 0, none⟩) ks.length c3) ks.length (L.flatMap kyC) ∧ wr.cell? ⟨14, 0, none⟩ = some (errV ea) ∧ Ech W wr (errV ea)) ∧ ∀ (j : Nat) (x y : Ky), j < i → L[j]? = some x → L[j + 1]? = some y → x.id ≠ y.id)
  case atStart => exact ⟨0, rfl, by omega, rfl, HP.out, fun _ _ _ h => absurd h (by omega)⟩
  case round =>
    obtain ⟨i, hgg, hin, rfl, hpw, hall⟩ := hrel
    have HG := hide (And.intro hgg hall)
    have HW := hide hpw
    have hce := hpw.2.2.2.1
    unfold errV at hce
    clear hgg hall hpw HP
    by_cases hlt : i + 1 < ks.length
    · have hlt' : decide ((i : Int) + 1 < (ks.length : Int)) = true := by simp; omega
      obtain ⟨x, hx⟩ : ∃ k, L[i + 1]? = some k := ⟨L[i + 1], List.getElem?_eq_getElem (by omega)⟩
      obtain ⟨y, hy⟩ : ∃ k, L[i]? = some k := ⟨L[i], List.getElem?_eq_getElem (by omega)⟩
      have cx := HW.out.1 (i + 1) x hx
      have cy := HW.out.1 i y hy
      have HX := hide (And.intro hx hy)
      clear hx hy
      by_cases he : x.id = y.id
      · have he' : (x.id == y.id) = true := by simpa using he
        have HZ := hide (join_no HH.out.1 (Nat.lt_succ_self i) HX.out.2 HX.out.1 he.symm)
        clear he
        go_wp2
        go_quiet (fail)
        go_wp2
        go_region
        go_wp2
        go_ret2
        rw [HZ.out]
        exact ⟨(HW.out.2.1.drewN _).alloc _, _, rfl, .mem _ _ _ (by exact heap_alloc_new (wr.drewN _) _) (HW.out.2.2.2.2.up (((Kp.refl _ _).drewN _).alloc _))⟩
      · have he' : (x.id == y.id) = false := by simpa using he
        have HZ := hide he
        clear he
        go_wp2
        go_quiet (fail)
        go_wp2
        go_roundg (ks.length - (i + 1))
        case measure => rw [HG.out.1]; omega
        case rel =>
          refine ⟨i + 1, rfl, by omega, int_i64 (by omega), ⟨HW.out.1, HW.out.2.1.drewN _, HW.out.2.2.1, HW.out.2.2.2.1, HW.out.2.2.2.2.up ((Kp.refl _ _).drewN _)⟩, ?_⟩
          intro j p q hj hp hq
          rcases Nat.lt_or_ge j i with h | h
          · exact HG.out.2 j p q h hp hq
          · have : j = i := by omega
            subst this
            rw [HX.out.2] at hp
            rw [HX.out.1] at hq
            injection hp with hp
            injection hq with hq
            subst hp hq
            exact fun e => HZ.out e.symm
    · have hlt' : decide ((i : Int) + 1 < (ks.length : Int)) = false := by simp; omega
      have HZ := hide (join_yes HH.out.1 (strict_of HH.out.2 (fun j p q hp hq => HG.out.2 j p q (by
        have : j + 1 < L.length := by
          rcases Nat.lt_or_ge (j + 1) L.length with h | h
          · exact h
          · rw [List.getElem?_eq_none h] at hq; cases hq
        omega) hp hq)))
      go_wp2
      go_ret2
      rw [HZ.out]
      refine ⟨HW.out.2.1, _, rfl, ?_⟩
      rw [hLl]
      exact own_base (by omega) HW.out.2.2.1
end Go.Proofs.YtocligpfmfmihabGreatDoor
namespace Go.Proofs.YtocligpfmfmihabGreatDoor
open Go Go.RowKit Go.Maps Go.WideMaps Go.Sort Go.Shelf
attribute [local go_sem] Oper.semAt_some

/-- What documentOf comes to. -/
def DoR (W w : World) (o : Option (Bs × Int × List Ky)) (e : Ending) (w' : World) : Prop := Kp (fun _ => False) w w' ∧ match o with
  | some (s, u, ks) => ∃ v, e = .returned (.tuple #[.agg #[.string ⟨s.toArray⟩, .int .i64 u, v], .nilIface]) ∧ w'.ownsRow w.heap.size 148 4 v ks.length (ks.flatMap kyC)
  | none => ∃ ev, e = .returned (.tuple #[.agg #[.string ⟨#[]⟩, .int .i64 0, .slice none 0 0], ev]) ∧ Ech W w' ev
theorem do_results {w : World} {rb : Nat} {a b c d : Value} (tmps : Array Value) (h2 : tmps[2]?.getD undef = .pointer (some ⟨rb, 0, none⟩)) (h3 : tmps[3]?.getD undef = d) (hb : w.heap[rb]? = some (.cells #[a, b, c] 83)) :
    (results Tryz.f58 tmps).run Tryz.prog w = .ok (.tuple #[.agg #[a, b, c], d]) w := by
  obtain ⟨c0, c1, c2, _⟩ := dfacts hb
  simp [results, Tryz.results58, go_sem, h2, h3, c0, c1, c2]
theorem ech3 {W w : World} {q : Nat} {ev x y z a b c : Value} {T : TypeId} (h : Ech W w ev) (hq : w.heap[q]? = some (.cells #[x, y, z] T)) (hT : T ≠ 190) : Ech W (((w.setCell ⟨q, 0, none⟩ a).setCell ⟨q, 1, none⟩ b).setCell ⟨q, 2, none⟩ c) ev := by
  refine h.old ?_
  intro k c' hk
  have : k ≠ q := by
    rintro rfl
    rw [hq] at hk
    injection hk with hk
    injection hk with _ h2 _
    exact hT h2
  rw [heap_set_other (by exact this), heap_set_other (by exact this), heap_set_other (by exact this)]
theorem do_no {W w w6 : World} {o : Option (Bs × Int × List Ky)} {ev x y z : Value} (h : Kp (fun _ => False) w w6) (hq : w6.heap[w.heap.size]? = some (.cells #[x, y, z] 83)) (he : Ech W w6 ev) (ho : o = none) :
    DoR W w o (.returned (.tuple #[.agg #[.string ⟨#[]⟩, .int .i64 0, .slice none 0 0], ev])) (((w6.setCell ⟨w.heap.size, 0, none⟩ (.string ⟨#[]⟩)).setCell ⟨w.heap.size, 1, none⟩ (.int .i64 0)).setCell ⟨w.heap.size, 2, none⟩ (.slice none 0 0)) := by
  subst ho
  exact ⟨kp3 h, _, rfl, ech3 he hq (by decide)⟩
theorem do_yes {W w w6 : World} {B : Nat} {o : Option (Bs × Int × List Ky)} {s : Bs} {u : Int} {ks : List Ky} {v : Value} (h : Kp (fun _ => False) w w6) (hB : w.heap.size < B) (row : w6.ownsRow B 148 4 v ks.length (ks.flatMap kyC)) (ho : o = some (s, u, ks)) :
    DoR W w o (.returned (.tuple #[.agg #[.string ⟨s.toArray⟩, .int .i64 u, v], .nilIface])) (((w6.setCell ⟨w.heap.size, 0, none⟩ (.string ⟨s.toArray⟩)).setCell ⟨w.heap.size, 1, none⟩ (.int .i64 u)).setCell ⟨w.heap.size, 2, none⟩ v) := by
  subst ho
  refine ⟨kp3 h, _, rfl, own_base (Nat.le_of_lt hB) (ownsRow_heap row ?_)⟩
  intro k hk
  have := (own_cells row hk).1
  have hne : k ≠ w.heap.size := by omega
  rw [heap_set_other (by exact hne), heap_set_other (by exact hne), heap_set_other (by exact hne)]
set_option maxRecDepth 20000 in
set_option maxHeartbeats 4000000 in
theorem documentOf_c (W : World) (hN : NG2 W) (w : World) (hW : Below W.heap.size W w) (l : List (Bs × J)) (b : Nat) (ho : Oz w l b)
    (hch1 : ∀ m, objF (lookK kVer l) = some m → Srt m ∧ m.length ≤ 1000 ∧ ∀ p ∈ m, p.1.length ≤ 1000) (hch2 : ∀ m, objF (lookK kOld l) = some m → Srt m ∧ m.length ≤ 1000 ∧ ∀ p ∈ m, p.1.length ≤ 1000) :
    Calls Tryz.prog 58 #[.map (some b)] w fun e w' => DoR W w (docF l) e w' := by
  have hdf := docF_eq l
  have K0 : Kp (fun _ => False) w (w.alloc (.cells #[.string ⟨#[]⟩, .int .i64 0, .slice none 0 0] 83)) := (Kp.refl _ _).alloc _
  have I0 := heap_alloc_new w (.cells #[.string ⟨#[]⟩, .int .i64 0, .slice none 0 0] 83)
  have HX := hide (nameUnder_c W hN _ (below_kp hW K0) l b kSrv (by decide) (ho.up K0))
  have HCH := hide (And.intro hch1 hch2)
  have hs0 : (w.alloc (.cells #[.string ⟨#[]⟩, .int .i64 0, .slice none 0 0] 83)).heap.size = w.heap.size + 1 := by simp
  clear hch1 hch2
  go_enter Tryz.func58, Tryz.ntmps58
  go_wp2_with fail
  generalize (w.alloc (.cells #[.string ⟨#[]⟩, .int .i64 0, .slice none 0 0] 83)) = w0 at *
  refine HX.out.mono ?_
  rintro e w1 ⟨K1, h1⟩
  have HK1 := hide (K0.trans K1)
  have I1 := K1.heap I0
  have hs1 := K1.size
  obtain ⟨r0, r1, r2, rf0, rf1, rf2, hrb⟩ := dfacts I1
  clear HX K1 I0
  cases hsn : nameF (lookK kSrv l) with
  | none =>
    rw [hsn] at h1 hdf
    obtain ⟨ev, rfl, he⟩ := h1
    obtain ⟨tt, u, rfl⟩ := he.iface
    have HE := hide (And.intro he hdf)
    clear he hsn hdf
    go_wp2
    exact bodyPost_ret (do_results _ rfl rfl (set3 I1)) rfl (do_no HK1.out I1 HE.out.1 HE.out.2)
  | some s =>
    rw [hsn] at h1 hdf
    replace h1 : e = .returned (.tuple #[.string ⟨s.toArray⟩, .nilIface]) := h1
    subst h1
    simp only [Option.bind_some] at hdf
    have HX := hide (momentUnder_c W hN w1 (below_kp hW HK1.out) l b kUnt (by decide) (ho.up HK1.out))
    have HD := hide hdf
    clear hsn hdf r0 r1 r2 rf0 rf1 rf2
    go_wp2_with fail
    refine HX.out.mono ?_
    rintro e w2 ⟨K2, h2⟩
    have HK2 := hide (HK1.out.trans K2)
    have I2 := K2.heap I1
    have hs2 := K2.size
    clear hrb HX K2 I1
    obtain ⟨r0, r1, r2, rf0, rf1, rf2, hrb⟩ := dfacts I2
    have hdf := HD.out
    cases hun : momF (lookK kUnt l) with
    | none =>
      rw [hun] at h2 hdf
      obtain ⟨ev, rfl, he⟩ := h2
      obtain ⟨tt, u, rfl⟩ := he.iface
      have HE := hide (And.intro he hdf)
      clear he hun hdf
      go_wp2
      exact bodyPost_ret (do_results _ rfl rfl (set3 I2)) rfl (do_no HK2.out I2 HE.out.1 HE.out.2)
    | some un =>
      rw [hun] at h2 hdf
      replace h2 : e = .returned (.tuple #[.int .i64 un, .nilIface]) := h2
      subst h2
      simp only [Option.bind_some] at hdf
      have HX := hide (keysInUse_c W hN w2 (below_kp hW HK2.out) l b un (ho.up HK2.out) HCH.out.1)
      have HD2 := hide hdf
      clear hun hdf r0 r1 r2 rf0 rf1 rf2 HD
      go_wp2_with fail
      refine HX.out.mono ?_
      rintro e w3 ⟨K3, h3⟩
      have HK3 := hide (HK2.out.trans K3)
      have I3 := K3.heap I2
      have hs3 := K3.size
      clear hrb HX K3 I2
      obtain ⟨r0, r1, r2, rf0, rf1, rf2, hrb⟩ := dfacts I3
      have hdf := HD2.out
      cases hin : inF un l with
      | none =>
        rw [hin] at h3 hdf
        obtain ⟨ev, rfl, he⟩ := h3
        obtain ⟨tt, u, rfl⟩ := he.iface
        have HE := hide (And.intro he hdf)
        clear he hin hdf
        go_wp2
        exact bodyPost_ret (do_results _ rfl rfl (set3 I3)) rfl (do_no HK3.out I3 HE.out.1 HE.out.2)
      | some ks1 =>
        rw [hin] at h3 hdf
        obtain ⟨v1, rfl, row1⟩ := h3
        simp only [Option.bind_some] at hdf
        have hl1 : 0 < ks1.length ∧ ks1.length ≤ 1000 := by
          unfold inF at hin
          cases hob : objF (lookK kVer l) with
          | none => rw [hob] at hin; cases hin
          | some m =>
            rw [hob, Option.bind_some] at hin
            by_cases h : 1 ≤ m.length ∧ m.length ≤ 4
            · rw [if_pos h] at hin
              have := congrArg List.length (keysF_ids hin).1
              simp only [List.length_map] at this
              omega
            · rw [if_neg h] at hin; cases hin
        have HX := hide (oldKeys_c W hN w3 (below_kp hW HK3.out) l b (ho.up HK3.out) HCH.out.2)
        have HD3 := hide hdf
        obtain ⟨va1, vc1, rfl, _⟩ := own_slice4 row1
        have HR1 := hide row1
        clear hin hdf r0 r1 r2 rf0 rf1 rf2 HD2 row1
        go_wp2_with fail
        refine HX.out.mono ?_
        rintro e w4 ⟨K4, h4⟩
        have HK4 := hide (HK3.out.trans K4)
        have I4 := K4.heap I3
        have hs4 := K4.size
        have row14 : w4.ownsRow w2.heap.size 148 4 (.slice va1 ks1.length vc1) ks1.length (ks1.flatMap kyC) := ownsRow_heap HR1.out (fun j hj => K4.block j (HR1.out.lt j hj).2 (by simp))
        clear hrb HX K4 I3 HR1
        obtain ⟨r0, r1, r2, rf0, rf1, rf2, hrb⟩ := dfacts I4
        have hdf := HD3.out
        cases hold : oldF l with
        | none =>
          rw [hold] at h4 hdf
          obtain ⟨ev, rfl, he⟩ := h4
          obtain ⟨tt, u, rfl⟩ := he.iface
          have HE := hide (And.intro he hdf)
          clear he hold hdf row14
          go_wp2
          exact bodyPost_ret (do_results _ rfl rfl (set3 I4)) rfl (do_no HK4.out I4 HE.out.1 HE.out.2)
        | some ks2 =>
          rw [hold] at h4 hdf
          obtain ⟨v2, rfl, row2⟩ := h4
          simp only [Option.bind_some] at hdf
          have hl2 : ks2.length ≤ 1000 := by
            rw [oldF_eq] at hold
            cases hob : lookK kOld l with
            | none =>
              rw [hob] at hold
              injection hold with hold
              subst hold
              exact Nat.zero_le _
            | some j =>
              rw [hob] at hold
              replace hold : (objF (some j)).bind (keysF true 0) = some ks2 := hold
              cases hom : objF (some j) with
              | none => rw [hom] at hold; cases hold
              | some m =>
                rw [hom, Option.bind_some] at hold
                have h5 := (HCH.out.2 m (by rw [hob]; exact hom)).2.1
                have := congrArg List.length (keysF_ids hold).1
                simp only [List.length_map] at this
                omega
          have HX := hide (joinKeys_c W hN w4 (below_kp hW HK4.out) _ _ _ _ ks1 ks2 row14 row2 hl1.1 hl1.2 hl2)
          have HD4 := hide hdf
          obtain ⟨va2, vc2, rfl, _⟩ := own_slice4 row2
          clear hold hdf r0 r1 r2 rf0 rf1 rf2 HD3 row14 row2
          go_wp2_with fail
          refine HX.out.mono ?_
          rintro e w5 ⟨K5, h5⟩
          have HK5 := hide (HK4.out.trans K5)
          have I5 := K5.heap I4
          clear hrb HX K5 I4
          obtain ⟨r0, r1, r2, rf0, rf1, rf2, hrb⟩ := dfacts I5
          have hdf := HD4.out
          cases hj : joinF ks1 ks2 with
          | none =>
            rw [hj] at h5 hdf
            obtain ⟨ev, rfl, he⟩ := h5
            obtain ⟨tt, u, rfl⟩ := he.iface
            have HE := hide (And.intro he hdf)
            clear he hj hdf
            go_wp2
            exact bodyPost_ret (do_results _ rfl rfl (set3 I5)) rfl (do_no HK5.out I5 HE.out.1 HE.out.2)
          | some ks =>
            rw [hj] at h5 hdf
            obtain ⟨v3, rfl, row3⟩ := h5
            obtain ⟨va3, vc3, rfl, _⟩ := own_slice4 row3
            have HE := hide (And.intro row3 hdf)
            clear hj hdf row3
            go_wp2
            exact bodyPost_ret (do_results _ rfl rfl (set3 I5)) rfl (do_yes HK5.out (by omega) HE.out.1 HE.out.2)
end Go.Proofs.YtocligpfmfmihabGreatDoor

import Derived.Test.YtocligpfmfmihaaGreatDoorPr6G
import Derived.Test.YtocligpfmfmihaaGreatDoorPn4G
import Derived.Test.YtocligpfmfmihaaGreatDoorLokG
import Derived.Test.YtocligpfmfmihaaGreatDoorPr2G
namespace Go.Proofs.YtocligpfmfmihaaGreatDoor
open Go Go.RowKit Go.Maps Go.WideMaps Go.Sort Go.Shelf
attribute [local go_sem] Oper.semAt_some
instance : Inhabited Ky := ⟨⟨[], [], false, 0⟩⟩
set_option maxHeartbeats 1000000 in
theorem join1_c (x y : Ky) (w : World) : Calls Tryz.prog 180 #[.agg (kyC x).toArray, .agg (kyC y).toArray] w fun e w' => e = .returned (.int .i64 (kyLt x y)) ∧ ∃ q os', w' = grow (w.drewN q) os' := by
 have hcon := fun w' => Tryz.strings_Compare ⟨x.id.toArray⟩ ⟨y.id.toArray⟩ w'
 have e1 : (⟨x.id.toArray⟩ : ByteArray).data.toList = x.id := rfl
 have e2 : (⟨y.id.toArray⟩ : ByteArray).data.toList = y.id := rfl
 rw [e1, e2] at hcon
 unfold kyLt kyC
 generalize Lib.compareBytes x.id y.id = r at hcon ⊢
 have HC := hide hcon
 clear hcon e1 e2
 go_enter Tryz.func180, Tryz.ntmps180
 go_wp2_with fail
 refine (HC.out _).mono ?_
 rintro e w' ⟨rfl, rfl⟩
 go_wp2
 go_ret
 exact ⟨rfl, 0, _, by rw [alloc_eq_grow, alloc_eq_grow, grow_grow]; rfl⟩
theorem perm_list {d d' : Array Ky} (h : PermIn 0 d.size d d') : d'.toList.Perm d.toList := by
 obtain ⟨h1, _, h3⟩ := h
 rw [← h1] at h3
 have e1 : d'.extract 0 d'.size = d' := by simp
 have e2 : d.extract 0 d'.size = d := by rw [h1]; simp
 rwa [e1, e2] at h3
theorem sorted_list {d' : Array Ky} {n : Nat} (hn : d'.size = n) (h : SortedIn (ltOf kyLt) 0 n d') (i j : Nat) (hij : i < j) (x y : Ky) (hx : d'.toList[i]? = some x) (hy : d'.toList[j]? = some y) : ¬ y.id < x.id := by
 have hj : j < d'.size := by
  rcases Nat.lt_or_ge j d'.size with h | h
  ·exact h
  ·rw [List.getElem?_eq_none (by simpa using h)] at hy; cases hy
 have h1 := h i j (Nat.zero_le _) hij (by omega)
 rw [Array.getElem?_toList] at hx hy
 rw [getElem!_def, getElem!_def, hx, hy] at h1
 simpa only [ltOf, kyLt, cmp_lt, decide_eq_false_iff_not] using h1
theorem sortKeys_c (w : World) (B g c : Nat) (ks : List Ky) (row : w.ownsRow B 35 4 (.slice (some ⟨g, 0, none⟩) ks.length c) ks.length (ks.flatMap kyC)) (hl : ks.length ≤ 100000) :
  Calls Tryz.prog 179 #[.slice (some ⟨g, 0, none⟩) ks.length c, .func (.func 180) #[] #[]] w fun e w' => e = .returned (.tuple #[]) ∧
   ∃ L : List Ky, L.Perm ks ∧ (∀ (i j : Nat), i < j → ∀ (x y : Ky), L[i]? = some x → L[j]? = some y → ¬ y.id < x.id) ∧ Kp (· = g) w w' ∧ w'.ownsRow B 35 4 (.slice (some ⟨g, 0, none⟩) ks.length c) ks.length (L.flatMap kyC) := by
 have hda : ks.toArray.size = ks.length := List.size_toArray
 have h := AnyQ.slices_SortFunc Tryz.sortKey 4 Tryz.isAgg35 Tryz.sizeOf35 kyC (fun _ => rfl) (fun x v hv => by simp [kyC] at hv; rcases hv with rfl | rfl | rfl | rfl <;> rfl) kyLt ky_swo 180 #[] g 0 c ks.toArray w (enters_of Tryz.func180 (by kernel_rfl) rfl) (fun _ _ _ _ x y => join1_c x y _) (row_holds ks.toArray (by exact row) hda) (row.lt g rfl).2 (by rw [hda]; omega)
 rw [hda] at h
 refine Calls.mono (show Calls Tryz.prog 179 _ _ _ from h) ?_
 rintro e w' ⟨rfl, d', nn, os, hpm, hsd, rfl⟩
 rw [← hda] at hpm hsd
 have hdz : d'.size = ks.length := hpm.1.trans hda
 exact ⟨rfl, d'.toList, perm_list hpm, sorted_list (hpm.1) hsd, sort_kp kyC 4 w g nn d' os, sort_row nn d' os row hdz⟩
end Go.Proofs.YtocligpfmfmihaaGreatDoor
namespace Go.Proofs.YtocligpfmfmihaaGreatDoor
open Go Go.RowKit Go.Maps Go.WideMaps Go.Sort Go.Shelf
attribute [local go_sem] Oper.semAt_some
set_option maxRecDepth 20000 in
set_option maxHeartbeats 4000000 in
theorem joinKeys_c (W : World) (hN : NG2 W) (w : World) (hW : Below W.heap.size W w) (B1 B2 : Nat) (v1 v2 : Value) (ks1 ks2 : List Ky) (row1 : w.ownsRow B1 35 4 v1 ks1.length (ks1.flatMap kyC)) (row2 : w.ownsRow B2 35 4 v2 ks2.length (ks2.flatMap kyC)) (hpos : 0 < ks1.length) (hl1 : ks1.length ≤ 1000) (hl2 : ks2.length ≤ 1000) :
  Calls Tryz.prog 137 #[v1, v2] w fun e w' => KuR W w (joinF ks1 ks2) e w' := by
 obtain ⟨ea, hea, hpa⟩ := hN.sml 17 (by simp)
 obtain ⟨a1, c1, rfl, _⟩ := own_slice4 row1
 obtain ⟨a2, c2, rfl, _⟩ := own_slice4 row2
 have K0 : Kp (fun _ => False) w (w.alloc (.cells #[.slice a1 ks1.length c1, .slice a2 ks2.length c2] 28)) := (Kp.refl _ _).alloc _
 have HCC := hide (concat_c _ B1 B2 _ _ ks1 ks2 (row1.alloc _) (row2.alloc _) w.heap.size (heap_alloc_new w (.cells #[.slice a1 ks1.length c1, .slice a2 ks2.length c2] 28)) hpos hl1 hl2)
 have hs0 := K0.size
 clear row1 row2
 go_enter Tryz.func137, Tryz.ntmps137
 go_wp2_with fail
 generalize (w.alloc (.cells #[.slice a1 ks1.length c1, .slice a2 ks2.length c2] 28)) = w0 at *
 refine HCC.out.mono ?_
 rintro e w1 ⟨K1, v, rfl, row⟩
 obtain ⟨a3, c3, rfl, hg⟩ := own_slice4 row
 obtain ⟨g, rfl, hgl⟩ := hg (by rw [List.length_append]; omega)
 have hgb := (row.lt g rfl).1
 have HSF := hide (sortKeys_c w1 _ g c3 (ks1 ++ ks2) row (by rw [List.length_append]; omega))
 have HK := hide (K0.trans K1)
 clear HCC row K1 hg K0
 have hnn : (ks1 ++ ks2).length ≤ 100000 ∧ 0 < (ks1 ++ ks2).length := by rw [List.length_append]; omega
 generalize hks : ks1 ++ ks2 = ks at *
 have HKS := hide hks
 clear hks
 go_wp2_with fail
 refine HSF.out.mono ?_
 rintro e w2 ⟨rfl, L, hperm, hsrt, KS, rowS⟩
 have K2 : Kp (fun _ => False) w w2 := HK.out.and KS (by intro i hi e; omega)
 have hLl : L.length = ks.length := hperm.length_eq
 have hcell : ∀ (j : Nat) (k : Ky), L[j]? = some k → w2.cell? ⟨g, j * 4, none⟩ = some (.string ⟨k.id.toArray⟩) := fun j k hk => (ky_cells rowS j k hk).1
 rw [← HKS.out] at hperm
 have HH := hide (And.intro hperm hsrt)
 have HP : Hid ((∀ (j : Nat) (k : Ky), L[j]? = some k → w2.cell? ⟨g, j * 4, none⟩ = some (.string ⟨k.id.toArray⟩)) ∧ Kp (fun _ => False) w w2 ∧ w2.ownsRow w0.heap.size 35 4 (.slice (some ⟨g, 0, none⟩) ks.length c3) ks.length (L.flatMap kyC) ∧ w2.cell? ⟨17, 0, none⟩ = some (errV ea) ∧ Ech W w2 (errV ea)) :=
  ⟨hcell, K2, rowS, Below.cl (below_kp hW K2) hea, Ech.base ea hpa⟩
 clear HSF HK KS rowS K2 hperm hsrt hcell
 go_wp2_with fail
 go_loopg [7] ks.length (fun gg a wr => ∃ (i : Nat), gg = ks.length - i ∧ i + 1 ≤ ks.length ∧ a = .int .i64 ((i : Int) + 1) ∧ ((∀ (j : Nat) (k : Ky), L[j]? = some k → wr.cell? ⟨g, j * 4, none⟩ = some (.string ⟨k.id.toArray⟩)) ∧ Kp (fun _ => False) w wr ∧ wr.ownsRow w0.heap.size 35 4 (.slice (some ⟨g, 0, none⟩) ks.length c3) ks.length (L.flatMap kyC) ∧ wr.cell? ⟨17, 0, none⟩ = some (errV ea) ∧ Ech W wr (errV ea)) ∧ ∀ (j : Nat) (x y : Ky), j < i → L[j]? = some x → L[j + 1]? = some y → x.id ≠ y.id)
 case atStart => exact ⟨0, rfl, by omega, rfl, HP.out, fun _ _ _ h => absurd h (by omega)⟩
 case round =>
  obtain ⟨i, hgg, hin, rfl, hpw, hall⟩ := hrel
  have HG := hide (And.intro hgg hall)
  have HW := hide hpw
  have hce := hpw.2.2.2.1
  unfold errV at hce
  clear hgg hall hpw HP
  by_cases hlt : i + 1 < ks.length
  ·have hlt' : decide ((i : Int) + 1 < (ks.length : Int)) = true := by simp; omega
   obtain ⟨x, hx⟩ : ∃ k, L[i + 1]? = some k := ⟨L[i + 1], List.getElem?_eq_getElem (by omega)⟩
   obtain ⟨y, hy⟩ : ∃ k, L[i]? = some k := ⟨L[i], List.getElem?_eq_getElem (by omega)⟩
   have cx := HW.out.1 (i + 1) x hx
   have cy := HW.out.1 i y hy
   have HX := hide (And.intro hx hy)
   clear hx hy
   by_cases he : x.id = y.id
   ·have he' : (x.id == y.id) = true := by simpa using he
    have HZ := hide (join_no HH.out.1 (Nat.lt_succ_self i) HX.out.2 HX.out.1 he.symm)
    clear he
    go_wp2
    go_quiet (fail)
    go_wp2
    go_region
    go_wp2
    go_ret2
    rw [HZ.out]
    exact ⟨(HW.out.2.1.drewN _).alloc _, _, rfl, .mem _ _ _ (by exact heap_alloc_new (wr.drewN _) _) (HW.out.2.2.2.2.up (((Kp.refl _ _).drewN _).alloc _))⟩
   ·have he' : (x.id == y.id) = false := by simpa using he
    have HZ := hide he
    clear he
    go_wp2
    go_quiet (fail)
    go_wp2
    go_roundg (ks.length - (i + 1))
    case measure => rw [HG.out.1]; omega
    case rel =>
     refine ⟨i + 1, rfl, by omega, int_i64 (by omega), ⟨HW.out.1, HW.out.2.1.drewN _, HW.out.2.2.1, HW.out.2.2.2.1, HW.out.2.2.2.2.up ((Kp.refl _ _).drewN _)⟩, ?_⟩
     intro j p q hj hp hq
     rcases Nat.lt_or_ge j i with h | h
     ·exact HG.out.2 j p q h hp hq
     ·have : j = i := by omega
      subst this
      rw [HX.out.2] at hp
      rw [HX.out.1] at hq
      injection hp with hp
      injection hq with hq
      subst hp hq
      exact fun e => HZ.out e.symm
  ·have hlt' : decide ((i : Int) + 1 < (ks.length : Int)) = false := by simp; omega
   have HZ := hide (join_yes HH.out.1 (strict_of HH.out.2 (fun j p q hp hq => HG.out.2 j p q (by
     have : j + 1 < L.length := by
       rcases Nat.lt_or_ge (j + 1) L.length with h | h
       · exact h
       · rw [List.getElem?_eq_none h] at hq; cases hq
     omega) hp hq)))
   go_wp2
   go_ret2
   rw [HZ.out]
   refine ⟨HW.out.2.1, _, rfl, ?_⟩
   rw [hLl]
   exact own_base (by omega) HW.out.2.2.1
end Go.Proofs.YtocligpfmfmihaaGreatDoor
namespace Go.Proofs.YtocligpfmfmihaaGreatDoor
open Go Go.RowKit Go.Maps Go.WideMaps Go.Sort Go.Shelf
attribute [local go_sem] Oper.semAt_some
def DoR (W w : World) (o : Option (Bs × Int × List Ky)) (e : Ending) (w' : World) : Prop := Kp (fun _ => False) w w' ∧ match o with
 | some (s, u, ks) => ∃ v, e = .returned (.tuple #[.agg #[.string ⟨s.toArray⟩, .int .i64 u, v], .nilIface]) ∧ w'.ownsRow w.heap.size 35 4 v ks.length (ks.flatMap kyC)
 | none => ∃ ev, e = .returned (.tuple #[.agg #[.string ⟨#[]⟩, .int .i64 0, .slice none 0 0], ev]) ∧ Ech W w' ev
theorem do_results {w : World} {rb : Nat} {a b c d : Value} (tmps : Array Value) (h2 : tmps[2]?.getD undef = .pointer (some ⟨rb, 0, none⟩)) (h3 : tmps[3]?.getD undef = d) (hb : w.heap[rb]? = some (.cells #[a, b, c] 30)) :
  (results Tryz.f78 tmps).run Tryz.prog w = .ok (.tuple #[.agg #[a, b, c], d]) w := by
 obtain ⟨c0, c1, c2, _⟩ := dfacts hb
 simp [results, Tryz.results78, go_sem, h2, h3, c0, c1, c2]
theorem ech3 {W w : World} {q : Nat} {ev x y z a b c : Value} {T : TypeId} (h : Ech W w ev) (hq : w.heap[q]? = some (.cells #[x, y, z] T)) (hT : T ≠ 252) : Ech W (((w.setCell ⟨q, 0, none⟩ a).setCell ⟨q, 1, none⟩ b).setCell ⟨q, 2, none⟩ c) ev := by
 refine h.old ?_
 intro k c' hk
 have : k ≠ q := by
  rintro rfl
  rw [hq] at hk
  injection hk with hk
  injection hk with _ h2 _
  exact hT h2
 rw [heap_set_other (by exact this), heap_set_other (by exact this), heap_set_other (by exact this)]
theorem do_no {W w w6 : World} {o : Option (Bs × Int × List Ky)} {ev x y z : Value} (h : Kp (fun _ => False) w w6) (hq : w6.heap[w.heap.size]? = some (.cells #[x, y, z] 30)) (he : Ech W w6 ev) (ho : o = none) :
  DoR W w o (.returned (.tuple #[.agg #[.string ⟨#[]⟩, .int .i64 0, .slice none 0 0], ev])) (((w6.setCell ⟨w.heap.size, 0, none⟩ (.string ⟨#[]⟩)).setCell ⟨w.heap.size, 1, none⟩ (.int .i64 0)).setCell ⟨w.heap.size, 2, none⟩ (.slice none 0 0)) := by
 subst ho
 exact ⟨kp3 h, _, rfl, ech3 he hq (by decide)⟩
theorem do_yes {W w w6 : World} {B : Nat} {o : Option (Bs × Int × List Ky)} {s : Bs} {u : Int} {ks : List Ky} {v : Value} (h : Kp (fun _ => False) w w6) (hB : w.heap.size < B) (row : w6.ownsRow B 35 4 v ks.length (ks.flatMap kyC)) (ho : o = some (s, u, ks)) :
  DoR W w o (.returned (.tuple #[.agg #[.string ⟨s.toArray⟩, .int .i64 u, v], .nilIface])) (((w6.setCell ⟨w.heap.size, 0, none⟩ (.string ⟨s.toArray⟩)).setCell ⟨w.heap.size, 1, none⟩ (.int .i64 u)).setCell ⟨w.heap.size, 2, none⟩ v) := by
 subst ho
 refine ⟨kp3 h, _, rfl, own_base (Nat.le_of_lt hB) (ownsRow_heap row ?_)⟩
 intro k hk
 have := (own_cells row hk).1
 have hne : k ≠ w.heap.size := by omega
 rw [heap_set_other (by exact hne), heap_set_other (by exact hne), heap_set_other (by exact hne)]
set_option maxRecDepth 20000 in
set_option maxHeartbeats 4000000 in
theorem documentOf_c (W : World) (hN : NG2 W) (w : World) (hW : Below W.heap.size W w) (l : List (Bs × J)) (b : Nat) (ho : Oz w l b)
  (hch1 : ∀ m, objF (lookK kVer l) = some m → Srt m ∧ m.length ≤ 1000 ∧ ∀ p ∈ m, p.1.length ≤ 1000) (hch2 : ∀ m, objF (lookK kOld l) = some m → Srt m ∧ m.length ≤ 1000 ∧ ∀ p ∈ m, p.1.length ≤ 1000) :
  Calls Tryz.prog 78 #[.map (some b)] w fun e w' => DoR W w (docF l) e w' := by
 have hdf := docF_eq l
 have K0 : Kp (fun _ => False) w (w.alloc (.cells #[.string ⟨#[]⟩, .int .i64 0, .slice none 0 0] 30)) := (Kp.refl _ _).alloc _
 have I0 := heap_alloc_new w (.cells #[.string ⟨#[]⟩, .int .i64 0, .slice none 0 0] 30)
 have HX := hide (nameUnder_c W hN _ (below_kp hW K0) l b kSrv (by decide) (ho.up K0))
 have HCH := hide (And.intro hch1 hch2)
 have hs0 : (w.alloc (.cells #[.string ⟨#[]⟩, .int .i64 0, .slice none 0 0] 30)).heap.size = w.heap.size + 1 := by simp
 clear hch1 hch2
 go_enter Tryz.func78, Tryz.ntmps78
 go_wp2_with fail
 generalize (w.alloc (.cells #[.string ⟨#[]⟩, .int .i64 0, .slice none 0 0] 30)) = w0 at *
 refine HX.out.mono ?_
 rintro e w1 ⟨K1, h1⟩
 have HK1 := hide (K0.trans K1)
 have I1 := K1.heap I0
 have hs1 := K1.size
 obtain ⟨r0, r1, r2, rf0, rf1, rf2, hrb⟩ := dfacts I1
 clear HX K1 I0
 cases hsn : nameF (lookK kSrv l) with
 | none =>
  rw [hsn] at h1 hdf
  obtain ⟨ev, rfl, he⟩ := h1
  obtain ⟨tt, u, rfl⟩ := he.iface
  have HE := hide (And.intro he hdf)
  clear he hsn hdf
  go_wp2
  exact bodyPost_ret (do_results _ rfl rfl (set3 I1)) rfl (do_no HK1.out I1 HE.out.1 HE.out.2)
 | some s =>
  rw [hsn] at h1 hdf
  replace h1 : e = .returned (.tuple #[.string ⟨s.toArray⟩, .nilIface]) := h1
  subst h1
  simp only [Option.bind_some] at hdf
  have HX := hide (momentUnder_c W hN w1 (below_kp hW HK1.out) l b kUnt (by decide) (ho.up HK1.out))
  have HD := hide hdf
  clear hsn hdf r0 r1 r2 rf0 rf1 rf2
  go_wp2_with fail
  refine HX.out.mono ?_
  rintro e w2 ⟨K2, h2⟩
  have HK2 := hide (HK1.out.trans K2)
  have I2 := K2.heap I1
  have hs2 := K2.size
  clear hrb HX K2 I1
  obtain ⟨r0, r1, r2, rf0, rf1, rf2, hrb⟩ := dfacts I2
  have hdf := HD.out
  cases hun : momF (lookK kUnt l) with
  | none =>
   rw [hun] at h2 hdf
   obtain ⟨ev, rfl, he⟩ := h2
   obtain ⟨tt, u, rfl⟩ := he.iface
   have HE := hide (And.intro he hdf)
   clear he hun hdf
   go_wp2
   exact bodyPost_ret (do_results _ rfl rfl (set3 I2)) rfl (do_no HK2.out I2 HE.out.1 HE.out.2)
  | some un =>
   rw [hun] at h2 hdf
   replace h2 : e = .returned (.tuple #[.int .i64 un, .nilIface]) := h2
   subst h2
   simp only [Option.bind_some] at hdf
   have HX := hide (keysInUse_c W hN w2 (below_kp hW HK2.out) l b un (ho.up HK2.out) HCH.out.1)
   have HD2 := hide hdf
   clear hun hdf r0 r1 r2 rf0 rf1 rf2 HD
   go_wp2_with fail
   refine HX.out.mono ?_
   rintro e w3 ⟨K3, h3⟩
   have HK3 := hide (HK2.out.trans K3)
   have I3 := K3.heap I2
   have hs3 := K3.size
   clear hrb HX K3 I2
   obtain ⟨r0, r1, r2, rf0, rf1, rf2, hrb⟩ := dfacts I3
   have hdf := HD2.out
   cases hin : inF un l with
   | none =>
    rw [hin] at h3 hdf
    obtain ⟨ev, rfl, he⟩ := h3
    obtain ⟨tt, u, rfl⟩ := he.iface
    have HE := hide (And.intro he hdf)
    clear he hin hdf
    go_wp2
    exact bodyPost_ret (do_results _ rfl rfl (set3 I3)) rfl (do_no HK3.out I3 HE.out.1 HE.out.2)
   | some ks1 =>
    rw [hin] at h3 hdf
    obtain ⟨v1, rfl, row1⟩ := h3
    simp only [Option.bind_some] at hdf
    have hl1 : 0 < ks1.length ∧ ks1.length ≤ 1000 := by
     unfold inF at hin
     cases hob : objF (lookK kVer l) with
     | none => rw [hob] at hin; cases hin
     | some m =>
      rw [hob, Option.bind_some] at hin
      by_cases h : 1 ≤ m.length ∧ m.length ≤ 4
      ·rw [if_pos h] at hin
       have := congrArg List.length (keysF_ids hin).1
       simp only [List.length_map] at this
       omega
      ·rw [if_neg h] at hin; cases hin
    have HX := hide (oldKeys_c W hN w3 (below_kp hW HK3.out) l b (ho.up HK3.out) HCH.out.2)
    have HD3 := hide hdf
    obtain ⟨va1, vc1, rfl, _⟩ := own_slice4 row1
    have HR1 := hide row1
    clear hin hdf r0 r1 r2 rf0 rf1 rf2 HD2 row1
    go_wp2_with fail
    refine HX.out.mono ?_
    rintro e w4 ⟨K4, h4⟩
    have HK4 := hide (HK3.out.trans K4)
    have I4 := K4.heap I3
    have hs4 := K4.size
    have row14 : w4.ownsRow w2.heap.size 35 4 (.slice va1 ks1.length vc1) ks1.length (ks1.flatMap kyC) := ownsRow_heap HR1.out (fun j hj => K4.block j (HR1.out.lt j hj).2 (by simp))
    clear hrb HX K4 I3 HR1
    obtain ⟨r0, r1, r2, rf0, rf1, rf2, hrb⟩ := dfacts I4
    have hdf := HD3.out
    cases hold : oldF l with
    | none =>
     rw [hold] at h4 hdf
     obtain ⟨ev, rfl, he⟩ := h4
     obtain ⟨tt, u, rfl⟩ := he.iface
     have HE := hide (And.intro he hdf)
     clear he hold hdf row14
     go_wp2
     exact bodyPost_ret (do_results _ rfl rfl (set3 I4)) rfl (do_no HK4.out I4 HE.out.1 HE.out.2)
    | some ks2 =>
     rw [hold] at h4 hdf
     obtain ⟨v2, rfl, row2⟩ := h4
     simp only [Option.bind_some] at hdf
     have hl2 : ks2.length ≤ 1000 := by
      rw [oldF_eq] at hold
      cases hob : lookK kOld l with
      | none =>
       rw [hob] at hold
       injection hold with hold
       subst hold
       exact Nat.zero_le _
      | some j =>
       rw [hob] at hold
       replace hold : (objF (some j)).bind (keysF true 0) = some ks2 := hold
       cases hom : objF (some j) with
       | none => rw [hom] at hold; cases hold
       | some m =>
        rw [hom, Option.bind_some] at hold
        have h5 := (HCH.out.2 m (by rw [hob]; exact hom)).2.1
        have := congrArg List.length (keysF_ids hold).1
        simp only [List.length_map] at this
        omega
     have HX := hide (joinKeys_c W hN w4 (below_kp hW HK4.out) _ _ _ _ ks1 ks2 row14 row2 hl1.1 hl1.2 hl2)
     have HD4 := hide hdf
     obtain ⟨va2, vc2, rfl, _⟩ := own_slice4 row2
     clear hold hdf r0 r1 r2 rf0 rf1 rf2 HD3 row14 row2
     go_wp2_with fail
     refine HX.out.mono ?_
     rintro e w5 ⟨K5, h5⟩
     have HK5 := hide (HK4.out.trans K5)
     have I5 := K5.heap I4
     clear hrb HX K5 I4
     obtain ⟨r0, r1, r2, rf0, rf1, rf2, hrb⟩ := dfacts I5
     have hdf := HD4.out
     cases hj : joinF ks1 ks2 with
     | none =>
      rw [hj] at h5 hdf
      obtain ⟨ev, rfl, he⟩ := h5
      obtain ⟨tt, u, rfl⟩ := he.iface
      have HE := hide (And.intro he hdf)
      clear he hj hdf
      go_wp2
      exact bodyPost_ret (do_results _ rfl rfl (set3 I5)) rfl (do_no HK5.out I5 HE.out.1 HE.out.2)
     | some ks =>
      rw [hj] at h5 hdf
      obtain ⟨v3, rfl, row3⟩ := h5
      obtain ⟨va3, vc3, rfl, _⟩ := own_slice4 row3
      have HE := hide (And.intro row3 hdf)
      clear hj hdf row3
      go_wp2
      exact bodyPost_ret (do_results _ rfl rfl (set3 I5)) rfl (do_yes HK5.out (by omega) HE.out.1 HE.out.2)
end Go.Proofs.YtocligpfmfmihaaGreatDoor
namespace Go.Proofs.YtocligpfmfmihaaGreatDoor
open Go Go.RowKit Go.Maps Go.WideMaps Go.Sort Go.Shelf
attribute [local go_sem] Oper.semAt_some
theorem bare_fits {l : List (Bs × J)} (h : WF 6 (.obj l)) (hl : (cJ (.obj l)).length ≤ 600) : WF 6 (.obj (bareL l)) ∧ cnt (.obj (bareL l)) ≤ 1000000 ∧ (cnt (.obj (bareL l)) + 1) * ((bareF l).length + 2) ≤ 139000000000000 ∧ (bareF l).length ≤ 602 := by
 have hcl := cnt_le (.obj l)
 have c1 := cntm_del kSig l
 have c2 := cntm_del kUns (delK kSig l)
 have t1 := tot_del kSig l
 have t2 := tot_del kUns (delK kSig l)
 have t3 := (cJ_tot l).2
 have t4 := (cJ_tot (bareL l)).1
 have hcb : cnt (.obj (bareL l)) ≤ 600 := by
  simp only [cnt] at hcl ⊢
  show cntm (delK kUns (delK kSig l)) ≤ 600
  omega
 have hbl : (bareF l).length ≤ 602 := by
  show (cJ (.obj (bareL l))).length ≤ 602
  have : tot (bareL l) ≤ tot l := by show tot (delK kUns (delK kSig l)) ≤ tot l; omega
  omega
 have hm : (cnt (.obj (bareL l)) + 1) * ((bareF l).length + 2) ≤ 601 * 604 := Nat.mul_le_mul (by omega) (by omega)
 exact ⟨WF_delK 5 kUns _ (WF_delK 5 kSig l h), by omega, by omega, hbl⟩
theorem mem_child (k s : Bs) (m : List (Bs × J)) : memF k (lookK s m) = lookK k (childF s m) := by
 unfold childF
 cases lookK s m with
 | none => rfl
 | some j => cases j <;> rfl
theorem sgOk_eq (l : List (Bs × J)) (s : Bs) (k : Ky) : sgOk l s k = (k.old || match strF (lookK k.id (childF s (childF kSig l))) with | some t => decide (t = (sealF ⟨k.key.toArray⟩ ⟨(bareF l).toArray⟩).data.toList) | none => false) := by
 unfold sgOk
 have e : memF k.id (memF s (memF kSig (some (.obj l)))) = lookK k.id (childF s (childF kSig l)) := by
  show memF k.id (memF s (lookK kSig l)) = _
  rw [mem_child, mem_child]
 rw [e]
 cases lookK k.id (childF s (childF kSig l)) with
 | none => rfl
 | some j => cases j <;> rfl
def CsR (W w : World) (b : Bool) (e : Ending) (w' : World) : Prop := Kp (fun _ => False) w w' ∧ ((b = true ∧ e = .returned .nilIface) ∨ (b = false ∧ ∃ ev, e = .returned ev ∧ Ech W w' ev))
set_option maxRecDepth 20000 in
set_option maxHeartbeats 4000000 in
theorem checkSignatures_c (W : World) (hN : NG2 W) (w : World) (hW : Below W.heap.size W w) (l : List (Bs × J)) (b : Nat) (ho : Oz w l b) (hwf : WF 6 (.obj l)) (hcl : (cJ (.obj l)).length ≤ 600) (sn : Bs) (u : Int) (hsn : sn.length ≤ 1000) (B : Nat) (v : Value) (ks : List Ky) (row : w.ownsRow B 35 4 v ks.length (ks.flatMap kyC)) (hkl : ∀ k ∈ ks, k.id.length ≤ 1000 ∧ k.key.length ≤ 1000) :
  Calls Tryz.prog 79 #[.map (some b), .agg #[.string ⟨sn.toArray⟩, .int .i64 u, v]] w fun e w' => CsR W w (ks.all (sgOk l sn)) e w' := by
 obtain ⟨ea, hea, hpa⟩ := hN.sml 7 (by simp)
 obtain ⟨f1, f2, f3, f4⟩ := bare_fits hwf hcl
 obtain ⟨va, vc, rfl, hva⟩ := own_slice4 row
 have K0 : Kp (fun _ => False) w (w.alloc (.cells #[.string ⟨sn.toArray⟩, .int .i64 u, .slice va ks.length vc] 30)) := (Kp.refl _ _).alloc _
 have I0 := heap_alloc_new w (.cells #[.string ⟨sn.toArray⟩, .int .i64 u, .slice va ks.length vc] 30)
 have HMS := hide (messageOf_c W hN.ng _ (below_kp hW K0) _ l b (ho.up K0) (fun _ h => h) f1 f2 f3)
 clear f1 f2 f3
 go_enter Tryz.func79, Tryz.ntmps79
 go_wp2_with fail
 generalize (w.alloc (.cells #[.string ⟨sn.toArray⟩, .int .i64 u, .slice va ks.length vc] 30)) = w0 at *
 refine HMS.out.mono ?_
 rintro e w1 ⟨rfl, K1'⟩
 have K1 := K0.trans K1'
 have I1 := K1'.heap I0
 clear K1' I0
 obtain ⟨d0, d1, d2, df0, df1, df2, hdb⟩ := dfacts I1
 have HC := hide (ho.up K1)
 have HS := hide hsn
 clear HMS hsn
 go_wp2_with fail
 go_region_law (first
   | (refine step_callF rfl 75 _ _ rfl #[.map (some b), .string ⟨#[115, 105, 103, 110, 97, 116, 117, 114, 101, 115]⟩] (by go_simp) ?_; refine (oz_child _ l b kSig (by decide) (HC.out.up (Kp.refl _ w1).drew)).mono ?_; rintro e w2 ⟨b1, rfl, K2', o1⟩; have K2 := hide (((Kp.refl (fun _ => False) w1).drew).trans K2'); have I2 := K2.out.heap I1; have O1 := hide o1; clear o1 K2'; obtain ⟨d0, d1, d2, df0, df1, df2, hdb⟩ := dfacts I2)
   | (refine step_callF rfl 75 _ _ rfl #[.map (some b1), .string ⟨sn.toArray⟩] (by go_simp) ?_; refine (oz_child _ (childF kSig l) b1 sn (by have := HS.out; omega) O1.out).mono ?_; rintro e w3 ⟨b2, rfl, K3', o2⟩; have K3 := hide K3'; have I3 := K3.out.heap I2; have O2 := hide o2; clear o2 K3'))
 all_goals
  obtain ⟨d0, d1, d2, df0, df1, df2, hdb⟩ := dfacts I3
  have K03 := (K1.trans K2.out).trans K3.out
  have hgv : ∀ i, i < ks.length → ∃ g, va = some ⟨g, 0, none⟩ := fun i hi => by
   obtain ⟨g, hg, _⟩ := hva (by omega)
   exact ⟨g, hg⟩
  have hkm := own_max4 row
  have HV := hide (And.intro hgv (And.intro row hkl))
  have HO := hide (And.intro O2.out K03)
  clear hgv row hkl hva K1 K2 K3 O1 O2 K03 HC
  go_wp2_with fail
  go_loopg [21] ks.length (fun gg a wr => ∃ (i : Nat), gg = ks.length - i ∧ i ≤ ks.length ∧ a = .int .i64 (i : Int) ∧ Kp (fun _ => False) w3 wr ∧ ∀ (j : Nat) (k : Ky), j < i → ks[j]? = some k → sgOk l sn k = true)
  case atStart => exact ⟨0, rfl, by omega, rfl, Kp.refl _ _, fun _ _ h => absurd h (by omega)⟩
  case round =>
   obtain ⟨i, hgg, hin, rfl, Kr, hall⟩ := hrel
   have HG := hide (And.intro hgg hall)
   clear hgg hall
   by_cases hlt : i < ks.length
   ·have hlt' : decide ((i : Int) < (ks.length : Int)) = true := by simp; omega
    obtain ⟨k, hk⟩ : ∃ k, ks[i]? = some k := ⟨ks[i], List.getElem?_eq_getElem hlt⟩
    obtain ⟨g, rfl⟩ := HV.out.1 i hlt
    have Kw := HO.out.2.trans Kr
    obtain ⟨c0, c1, c2, c3⟩ := ky_cells (ownsRow_kp HV.out.2.1 Kw (by simp)) i k hk
    have hkk := HV.out.2.2 k (List.mem_of_getElem? hk)
    have Ka : Kp (fun _ => False) wr (wr.alloc (.cells #[.string ⟨k.id.toArray⟩, .string ⟨k.key.toArray⟩, .bool k.old, .int .i64 k.till] 35)) := (Kp.refl _ _).alloc _
    have Ia := heap_alloc_new wr (.cells #[.string ⟨k.id.toArray⟩, .string ⟨k.key.toArray⟩, .bool k.old, .int .i64 k.till] 35)
    have hsg := sgOk_eq l sn k
    have next : sgOk l sn k = true → ∀ (j : Nat) (q : Ky), j < i + 1 → ks[j]? = some q → sgOk l sn q = true := by
     intro hok j q hj hq
     rcases Nat.lt_or_ge j i with h | h
     ·exact HG.out.2 j q h hq
     ·have : j = i := by omega
      subst this
      rw [hk] at hq
      injection hq with hq
      subst hq
      exact hok
    have bad : sgOk l sn k = false → ks.all (sgOk l sn) = false := by
     intro hno
     rw [List.all_eq_false]
     exact ⟨k, List.mem_of_getElem? hk, by rw [hno]; decide⟩
    have NB := hide (And.intro next (And.intro bad hsg))
    have HK := hide (And.intro Kw (And.intro Kr Ka))
    clear next bad hk hsg Kw Kr
    have HTU := hide (textUnder_c W hN _ (below_kp hW (HK.out.1.trans Ka)) (childF sn (childF kSig l)) b2 k.id (by omega) (HO.out.1.up (HK.out.2.1.trans Ka)))
    cases hko : k.old with
    | true =>
     rw [hko] at c2 Ka
     have HN := hide (NB.out.1 (by rw [NB.out.2.2, hko]; rfl))
     have HA := hide (HK.out.2.1.trans Ka)
     clear hko Ka Ia HTU
     go_wp2
     go_roundg (ks.length - (i + 1))
     case measure => rw [HG.out.1]; omega
     case rel => exact ⟨i + 1, rfl, by omega, int_i64 (by omega), HA.out, HN.out⟩
    | false =>
     rw [hko] at c2 Ka Ia HTU
     have HA := hide (And.intro (HK.out.1.trans Ka) (And.intro (HK.out.2.1.trans Ka) hko))
     clear hko Ka
     go_wp2_with fail
     generalize (wr.alloc (.cells #[.string ⟨k.id.toArray⟩, .string ⟨k.key.toArray⟩, .bool false, .int .i64 k.till] 35)) = wa at *
     refine HTU.out.mono ?_
     rintro e w5 ⟨K5, h5⟩
     obtain ⟨e0, e1, e2, e3, _, _, _, _, heb⟩ := kfacts (K5.heap Ia)
     have hce := Below.cl (below_kp hW (HA.out.1.trans K5)) hea
     unfold errV at hce
     have H5 := hide K5
     have HI5 := hide (K5.heap Ia)
     clear K5 HTU Ia
     cases hst : strF (lookK k.id (childF sn (childF kSig l))) with
     | none =>
      rw [hst] at h5
      obtain ⟨ev, rfl, he⟩ := h5
      obtain ⟨tt, uu, rfl⟩ := he.iface
      have HB := hide (NB.out.2.1 (by rw [NB.out.2.2, HA.out.2.2, hst]; rfl))
      clear he hst
      go_wp2
      go_ret
      exact ⟨(HA.out.1.trans H5.out).alloc _, Or.inr ⟨HB.out, _, rfl, .mem _ _ _ (heap_alloc_new w5 _) (Ech.base ea hpa)⟩⟩
     | some t =>
      rw [hst] at h5
      replace h5 : e = .returned (.tuple #[.string ⟨t.toArray⟩, .nilIface]) := h5
      subst h5
      obtain ⟨tl, htl⟩ : ∃ tl : Bs, sealF ⟨k.key.toArray⟩ ⟨(bareF l).toArray⟩ = ⟨tl.toArray⟩ := ⟨_, rfl⟩
      have hseal := seal_any ⟨k.key.toArray⟩ ⟨(bareF l).toArray⟩ w5 (by rw [mk_size2]; omega) (by rw [mk_size2]; omega)
      rw [htl] at hseal
      have hsg : sgOk l sn k = decide (t = tl) := by
       rw [NB.out.2.2, HA.out.2.2, hst, htl]
       simp
      have HSL := hide (And.intro hseal hsg)
      clear hseal hsg htl hst
      go_wp2_with fail
      refine HSL.out.1.mono ?_
      rintro e w6 ⟨rfl, B6⟩
      have K6 := Kp.of_below B6
      have H6 := hide (H5.out.trans K6)
      have hce := Below.cl (below_kp hW (HA.out.1.trans H6.out)) hea
      unfold errV at hce
      obtain ⟨e0, e1, e2, e3, _, _, _, _, heb⟩ := kfacts (K6.heap (by exact HI5.out))
      clear B6 K6
      by_cases ht : t = tl
      ·have ht' : (t == tl) = true := by simpa using ht
       have HN := hide (NB.out.1 (by rw [HSL.out.2]; simpa using ht))
       clear ht
       go_wp2
       go_roundg (ks.length - (i + 1))
       case measure => rw [HG.out.1]; omega
       case rel => exact ⟨i + 1, rfl, by omega, int_i64 (by omega), HA.out.2.1.trans H6.out, HN.out⟩
      ·have ht' : (t == tl) = false := by simpa using ht
       have HB := hide (NB.out.2.1 (by rw [HSL.out.2]; simpa using ht))
       clear ht
       go_wp2
       go_ret
       exact ⟨(HA.out.1.trans H6.out).alloc _, Or.inr ⟨HB.out, _, rfl, .mem _ _ _ (heap_alloc_new w6 _) (Ech.base ea hpa)⟩⟩
   ·have hlt' : decide ((i : Int) < (ks.length : Int)) = false := by simp; omega
    have HE : Hid (ks.all (sgOk l sn) = true) := by
     show _ = _
     rw [List.all_eq_true]
     intro k hk
     obtain ⟨j, hj, he⟩ := List.mem_iff_getElem.1 hk
     exact HG.out.2 j k (by omega) (by rw [List.getElem?_eq_getElem hj, he])
    have HK := hide (HO.out.2.trans Kr)
    clear Kr
    go_wp2
    go_ret
    exact ⟨HK.out, Or.inl ⟨HE.out, rfl⟩⟩
end Go.Proofs.YtocligpfmfmihaaGreatDoor
namespace Go.Proofs.YtocligpfmfmihaaGreatDoor
open Go Go.RowKit Go.Maps Go.WideMaps Go.Sort Go.Shelf
attribute [local go_sem] Oper.semAt_some
theorem Chn.three {w : World} {a : Addr} {ks : List (Lk × ByteArray)} {ev x y z p q r : Value} {k : Nat} (h : Chn w a ks ev) (hk : w.heap[k]? = some (.cells #[x, y, z] 30)) : Chn (((w.setCell ⟨k, 0, none⟩ p).setCell ⟨k, 1, none⟩ q).setCell ⟨k, 2, none⟩ r) a ks ev := by
 refine h.up ?_
 intro j c t hj ht
 have : j ≠ k := by
  rintro rfl
  rw [hk] at hj
  injection hj with hj
  injection hj with _ h2 _
  subst h2
  revert ht
  decide
 rw [heap_set_other (by exact this), heap_set_other (by exact this), heap_set_other (by exact this)]
 exact hj
theorem Enr.three {W w : World} {ev x y z p q r : Value} {n k : Nat} (h : Enr W w ev n) (hk : w.heap[k]? = some (.cells #[x, y, z] 30)) : Enr W (((w.setCell ⟨k, 0, none⟩ p).setCell ⟨k, 1, none⟩ q).setCell ⟨k, 2, none⟩ r) ev n := by
 rcases h with h | ⟨a, ks, h1, h2⟩
 ·refine Or.inl ?_
  rcases h with h | ⟨h1, fb, h2, k', g, cb, h3, h4⟩ | h
  ·exact Or.inl h
  ·refine Or.inr (Or.inl ⟨h1, fb, h2, k', g, cb, ?_, h4⟩)
   have : fb ≠ k := by
    rintro rfl
    rw [hk] at h3
    injection h3 with h3
    injection h3 with _ h2 _
    revert h2
    decide
   rw [heap_set_other (by exact this), heap_set_other (by exact this), heap_set_other (by exact this)]
   exact h3
  ·exact Or.inr (Or.inr h)
 ·exact Or.inr ⟨a, ks, h1.three hk, h2⟩
theorem EV.up {W w w' : World} {ev : Value} {n : Nat} (h : EV W w ev n) (hk : Kp (fun _ => False) w w') : EV W w' ev n := by
 rcases h with h | ⟨h1, fb, h2, k', g, cb, h3, h4⟩ | h
 ·exact Or.inl h
 ·exact Or.inr (Or.inl ⟨h1, fb, h2, k', g, cb, hk.heap h3, h4⟩)
 ·exact Or.inr (Or.inr h)
theorem Enr.up {W w w' : World} {ev : Value} {n : Nat} (h : Enr W w ev n) (hk : Kp (fun _ => False) w w') : Enr W w' ev n := by
 rcases h with h | h
 ·exact Or.inl (h.up hk)
 ·exact Or.inr (h.up hk)
def RdD (W w : World) (o : Except Nat (Bs × Int × List Ky)) (e : Ending) (w' : World) : Prop := Kp (fun _ => False) w w' ∧ match o with
 | .error n => ∃ ev, e = .returned (.tuple #[.agg #[.string ⟨#[]⟩, .int .i64 0, .slice none 0 0], ev]) ∧ Enr W w' ev n ∧ ∃ t u, ev = .iface t u
 | .ok (s, u, ks) => ∃ v, e = .returned (.tuple #[.agg #[.string ⟨s.toArray⟩, .int .i64 u, v], .nilIface]) ∧ w'.ownsRow w.heap.size 35 4 v ks.length (ks.flatMap kyC)
theorem rdd_results {w : World} {rb : Nat} {a b c d : Value} (tmps : Array Value) (h2 : tmps[2]?.getD undef = .pointer (some ⟨rb, 0, none⟩)) (h3 : tmps[3]?.getD undef = d) (hb : w.heap[rb]? = some (.cells #[a, b, c] 30)) :
  (results Tryz.f47 tmps).run Tryz.prog w = .ok (.tuple #[.agg #[a, b, c], d]) w := by
 obtain ⟨c0, c1, c2, _⟩ := dfacts hb
 simp [results, Tryz.results47, go_sem, h2, h3, c0, c1, c2]
theorem rdd_no {W w w6 : World} {o : Except Nat (Bs × Int × List Ky)} {n : Nat} {x y z : Value} {t : TypeId} {u : Value} (h : Kp (fun _ => False) w w6) (hq : w6.heap[w.heap.size]? = some (.cells #[x, y, z] 30)) (he : Enr W w6 (.iface t u) n) (ho : o = .error n) :
  RdD W w o (.returned (.tuple #[.agg #[.string ⟨#[]⟩, .int .i64 0, .slice none 0 0], .iface t u])) (((w6.setCell ⟨w.heap.size, 0, none⟩ (.string ⟨#[]⟩)).setCell ⟨w.heap.size, 1, none⟩ (.int .i64 0)).setCell ⟨w.heap.size, 2, none⟩ (.slice none 0 0)) := by
 subst ho
 exact ⟨kp3 h, _, rfl, he.three hq, _, _, rfl⟩
theorem rdd_yes {W w w6 : World} {B : Nat} {o : Except Nat (Bs × Int × List Ky)} {s : Bs} {u : Int} {ks : List Ky} {v : Value} (h : Kp (fun _ => False) w w6) (hB : w.heap.size < B) (row : w6.ownsRow B 35 4 v ks.length (ks.flatMap kyC)) (ho : o = .ok (s, u, ks)) :
  RdD W w o (.returned (.tuple #[.agg #[.string ⟨s.toArray⟩, .int .i64 u, v], .nilIface])) (((w6.setCell ⟨w.heap.size, 0, none⟩ (.string ⟨s.toArray⟩)).setCell ⟨w.heap.size, 1, none⟩ (.int .i64 u)).setCell ⟨w.heap.size, 2, none⟩ v) := by
 subst ho
 refine ⟨kp3 h, _, rfl, own_base (Nat.le_of_lt hB) (ownsRow_heap row ?_)⟩
 intro k hk
 have := (own_cells row hk).1
 have hne : k ≠ w.heap.size := by omega
 rw [heap_set_other (by exact hne), heap_set_other (by exact hne), heap_set_other (by exact hne)]
theorem rdd_doc {W w w6 : World} {o : Except Nat (Bs × Int × List Ky)} {x y z : Value} {D : Obj} {t : TypeId} {u : Value} (h : Kp (fun _ => False) w w6) (hq : w6.heap[w.heap.size]? = some (.cells #[x, y, z] 30)) (he : Ech W w6 (.iface t u)) (ho : o = .error 4) :
  RdD W w o (.returned (.tuple #[.agg #[.string ⟨#[]⟩, .int .i64 0, .slice none 0 0], .iface 117 (.pointer (some ⟨w6.heap.size + 1, 0, none⟩))])) (((((w6.setCell ⟨w.heap.size, 0, none⟩ (.string ⟨#[]⟩)).setCell ⟨w.heap.size, 1, none⟩ (.int .i64 0)).setCell ⟨w.heap.size, 2, none⟩ (.slice none 0 0)).alloc D).alloc (.cells #[.iface t u] 146)) := by
 subst ho
 have e3 := ech3 (a := .string ⟨#[]⟩) (b := .int .i64 0) (c := .slice none 0 0) he hq (by decide)
 have hsz : (((w6.setCell ⟨w.heap.size, 0, none⟩ (.string ⟨#[]⟩)).setCell ⟨w.heap.size, 1, none⟩ (.int .i64 0)).setCell ⟨w.heap.size, 2, none⟩ (.slice none 0 0)).heap.size = w6.heap.size := by simp
 refine ⟨((kp3 h).alloc _).alloc _, _, rfl, Or.inr (Ech.docu (e3.up (((Kp.refl _ _).alloc _).alloc _)) ?_), _, _, rfl⟩
 have := heap_alloc_new ((((w6.setCell ⟨w.heap.size, 0, none⟩ (.string ⟨#[]⟩)).setCell ⟨w.heap.size, 1, none⟩ (.int .i64 0)).setCell ⟨w.heap.size, 2, none⟩ (.slice none 0 0)).alloc D) (.cells #[.iface t u] 146)
 rw [World.size_alloc, hsz] at this
 exact this
theorem doc_kids {k : Bs} {l : List (Bs × J)} (hwf : WF 6 (.obj l)) (hcl : (cJ (.obj l)).length ≤ 600) : ∀ m, objF (lookK k l) = some m → Srt m ∧ m.length ≤ 1000 ∧ ∀ p ∈ m, p.1.length ≤ 1000 := by
 intro m hm
 have hlk : lookK k l = some (.obj m) := by
  cases h : lookK k l with
  | none => rw [h] at hm; cases hm
  | some j =>
   rw [h] at hm
   cases j with
   | obj m' => injection hm with hm; subst hm; rfl
   | _ => cases hm
 have hl := child_len hlk
 have hw : WF 5 (.obj m) := by
  have h2 := hwf
  simp only [WF, WFm_iff] at h2
  exact (h2.2 _ (lookK_mem hlk)).2
 have hs : Srt m := by
  simp only [WF] at hw
  exact hw.1
 have hc := cnt_le (.obj m)
 have hg := (cntm_ge m).1
 simp only [cnt] at hc
 refine ⟨hs, by omega, ?_⟩
 intro p hp
 have h1 := mem_len hp
 have h2 := cStr_geq p.1
 unfold cMem at h1
 rw [List.length_append] at h1
 omega
theorem docF_ids {l : List (Bs × J)} {s : Bs} {u : Int} {ks : List Ky} (h : docF l = some (s, u, ks)) : s.length ≤ 20 ∧ (∀ k ∈ ks, k.id.length ≤ 20) ∧ (ks.map (·.id)).Nodup := by
 rw [docF_eq] at h
 simp only [Option.bind_eq_some_iff, Option.map_eq_some_iff, Prod.mk.injEq] at h
 obtain ⟨s', hs, u', hu, a, ha, b, hb, q, hq, rfl, rfl, rfl⟩ := h
 refine ⟨?_, ?_⟩
 ·unfold nameF at hs
  simp only [Option.bind_eq_some_iff] at hs
  obtain ⟨t, _, hs⟩ := hs
  split at hs
  ·rename_i hn
   injection hs with hs
   subst hs
   simp [isNm] at hn
   exact hn.2
  ·cases hs
 ·have hida : ∀ k ∈ a, isNm k.id = true := by
   unfold inF at ha
   simp only [Option.bind_eq_some_iff] at ha
   obtain ⟨m, _, ha⟩ := ha
   split at ha
   ·exact fun k hk => ((keysF_ids ha).2 k hk).2
   ·cases ha
  have hidb : ∀ k ∈ b, isNm k.id = true := by
   rw [oldF_eq] at hb
   split at hb
   ·injection hb with hb
    subst hb
    intro k hk
    cases hk
   ·simp only [Option.bind_eq_some_iff] at hb
    obtain ⟨m, _, hb⟩ := hb
    exact fun k hk => ((keysF_ids hb).2 k hk).2
  unfold joinF at hq
  split at hq
  ·rename_i hn
   injection hq with hq
   subst hq
   refine ⟨?_, ?_⟩
   ·intro k hk
    obtain ⟨p, hp, rfl⟩ := List.mem_map.1 hk
    obtain ⟨k2, hk2, rfl⟩ := List.mem_map.1 (mem_ofL hp)
    have : isNm k2.id = true := by
     rcases List.mem_append.1 hk2 with h | h
     ·exact hida k2 h
     ·exact hidb k2 h
    simp [isNm] at this
    exact this.2
   ·have hsr := srt_ofL ((a ++ b).map fun k => (k.id, k))
    have hkk : ∀ p ∈ ofL ((a ++ b).map fun k => (k.id, k)), p.2.id = p.1 := by
     intro p hp
     obtain ⟨k2, _, rfl⟩ := List.mem_map.1 (mem_ofL hp)
     rfl
    rw [List.map_map]
    have he : (ofL ((a ++ b).map fun k => (k.id, k))).map ((fun k => k.id) ∘ fun p => p.2) = (ofL ((a ++ b).map fun k => (k.id, k))).map (·.1) := List.map_congr_left (fun p hp => hkk p hp)
    rw [he]
    unfold List.Nodup
    rw [List.pairwise_map]
    exact hsr.imp fun {x y} h e => by rw [e] at h; exact lt_irr _ h
  ·cases hq
set_option maxRecDepth 20000 in
set_option maxHeartbeats 4000000 in
theorem readDocument_c (W : World) (hN : NG2 W) (s : ByteArray) (w : World) (hW : Below W.heap.size W w) :
  Calls Tryz.prog 47 #[.string s] w fun e w' => RdD W w (readF s.data.toList) e w' := by
 have K0 : Kp (fun _ => False) w (w.alloc (.cells #[.string ⟨#[]⟩, .int .i64 0, .slice none 0 0] 30)) := (Kp.refl _ _).alloc _
 have I0 := heap_alloc_new w (.cells #[.string ⟨#[]⟩, .int .i64 0, .slice none 0 0] 30)
 have HX := hide (readObject_c W hN.ng s _ (below_kp hW K0))
 have hs0 : (w.alloc (.cells #[.string ⟨#[]⟩, .int .i64 0, .slice none 0 0] 30)).heap.size = w.heap.size + 1 := by simp
 go_enter Tryz.func47, Tryz.ntmps47
 go_wp2_with fail
 generalize (w.alloc (.cells #[.string ⟨#[]⟩, .int .i64 0, .slice none 0 0] 30)) = w0 at *
 refine HX.out.mono ?_
 rintro e w1 ⟨K1, ⟨l, b, hof, rfl, hr⟩ | ⟨n, ev, hof, rfl, he, tt, u, rfl⟩⟩
 ·have HK1 := hide (K0.trans K1)
  have I1 := K1.heap I0
  have hs1 := K1.size
  have oz : Oz w1 l b := Rep.mono (fun j hj => hj.2) _ hr
  obtain ⟨hp, hl⟩ := object_ok hof
  obtain ⟨hwf, hle⟩ := parse_ok hp
  have hcl : (cJ (.obj l)).length ≤ 600 := Nat.le_trans hle hl
  have hrf : readF s.data.toList = readO l := by unfold readF; rw [hof]
  have HX2 := hide (documentOf_c W hN w1 (below_kp hW HK1.out) l b oz (doc_kids hwf hcl) (doc_kids hwf hcl))
  have HF := hide (And.intro hrf (And.intro oz (And.intro hwf hcl)))
  clear HX hof hr oz hp hl hwf hle hcl hrf K1 I0
  go_wp2_with fail
  refine HX2.out.mono ?_
  rintro e w2 ⟨K2, h2⟩
  have HK2 := hide (HK1.out.trans K2)
  have I2 := K2.heap I1
  have hs2 := K2.size
  have oz2 := HF.out.2.1.up K2
  clear HX2 K2 I1
  obtain ⟨r0, r1, r2, rf0, rf1, rf2, hrb⟩ := dfacts I2
  cases hdf : docF l with
  | none =>
   rw [hdf] at h2
   obtain ⟨ev, rfl, he⟩ := h2
   obtain ⟨tt, u, rfl⟩ := he.iface
   have HE := hide (show readF s.data.toList = .error 4 by rw [HF.out.1]; unfold readO; rw [hdf])
   have HEE := hide he
   clear he hdf
   go_wp2
   exact bodyPost_ret (rdd_results _ rfl rfl (by rw [Below.heap_alloc _ _ _ (by simp only [World.size_alloc, World.size_setCell]; omega), Below.heap_alloc _ _ _ (by simp only [World.size_setCell]; omega)]; exact set3 I2)) rfl (rdd_doc HK2.out I2 HEE.out HE.out)
  | some d =>
   obtain ⟨sn, un, ks⟩ := d
   rw [hdf] at h2
   obtain ⟨v, rfl, row⟩ := h2
   obtain ⟨hsn, hid, hnd⟩ := docF_ids hdf
   have hkl := docF_len hdf
   have hlen := HF.out.2.2.2
   obtain ⟨va, vc, rfl, _⟩ := own_slice4 row
   have Kd : Kp (fun _ => False) w2 (w2.alloc (.cells #[.string ⟨sn.toArray⟩, .int .i64 un, .slice va ks.length vc] 30)) := (Kp.refl _ _).alloc _
   have HCS := hide (checkSignatures_c W hN _ (below_kp hW (HK2.out.trans Kd)) l b (oz2.up Kd) HF.out.2.2.1 HF.out.2.2.2 sn un (by omega) _ _ ks (row.alloc _) (fun k hk => ⟨by have := hid k hk; omega, by have := hkl k hk; omega⟩))
   have HR := hide row
   have hrf := HF.out.1
   unfold readO at hrf
   rw [hdf] at hrf
   have HRF := hide hrf
   clear row hdf hsn hid hnd hkl hrf
   go_wp2_with fail
   have Id := heap_alloc_new w2 (.cells #[.string ⟨sn.toArray⟩, .int .i64 un, .slice va ks.length vc] 30)
   generalize (w2.alloc (.cells #[.string ⟨sn.toArray⟩, .int .i64 un, .slice va ks.length vc] 30)) = wd at *
   refine HCS.out.mono ?_
   rintro e w3 ⟨K3, h3⟩
   have HK3 := hide (HK2.out.trans (Kd.trans K3))
   have I3 := (Kd.trans K3).heap I2
   have Id3 := K3.heap Id
   have HR3 := hide (ownsRow_kp HR.out (Kd.trans K3) (by simp))
   clear HCS K3 Kd Id r0 r1 r2 rf0 rf1 rf2 hrb I2
   obtain ⟨r0, r1, r2, rf0, rf1, rf2, hrb⟩ := dfacts I3
   obtain ⟨q0, q1, q2, qf0, qf1, qf2, hqb⟩ := dfacts Id3
   rcases h3 with ⟨hb, rfl⟩ | ⟨hb, ev, rfl, he⟩
   ·have HE := hide (show readF s.data.toList = .ok (sn, un, ks) by rw [HRF.out, if_pos hb])
    clear hb
    go_wp2
    exact bodyPost_ret (rdd_results _ rfl rfl (set3 I3)) rfl (rdd_yes HK3.out (by omega) HR3.out HE.out)
   ·obtain ⟨tt, u, rfl⟩ := he.iface
    have HE := hide (show readF s.data.toList = .error 5 by rw [HRF.out, if_neg (by rw [hb]; decide)])
    have HEE := hide he
    clear hb he
    go_wp2
    exact bodyPost_ret (rdd_results _ rfl rfl (set3 I3)) rfl (rdd_no HK3.out I3 (Or.inr HEE.out.sig) HE.out)
 ·have HK1 := hide (K0.trans K1)
  have I1 := K1.heap I0
  obtain ⟨r0, r1, r2, rf0, rf1, rf2, hrb⟩ := dfacts I1
  have HE := hide (show readF s.data.toList = .error n by unfold readF; rw [hof])
  have HEE := hide he
  clear he hof HX K1 I0
  go_wp2
  exact bodyPost_ret (rdd_results _ rfl rfl (set3 I1)) rfl (rdd_no HK1.out I1 (Or.inl HEE.out) HE.out)
end Go.Proofs.YtocligpfmfmihaaGreatDoor

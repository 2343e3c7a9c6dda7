import Derived.Test.YtocligpfmfmihaaGreatDoorRn1G
import Derived.Test.YtocligpfmfmihaaGreatDoorPr12G
import Derived.Test.YtocligpfmfmihaaGreatDoorPn2G
import Derived.Deep.RegionHeld
namespace Go.Proofs.YtocligpfmfmihaaGreatDoor
open Go Go.RowKit Go.Maps
attribute [local go_sem] Oper.semAt_some
def RnR (w : World) (F : Nat → Prop) (b : Nat) (nm id ky : Bs) (so : Value) (st : Ldg) (c : Nat) (w' : World) : Prop := ∃ F' : Nat → Prop, Kp F w w' ∧ (∀ k, F' k → F k ∨ w.heap.size ≤ k) ∧ (∀ k, F' k → k < w'.heap.size) ∧ RN w' F' b nm id ky so st c
theorem RN.mono {w : World} {F : Nat → Prop} {b : Nat} {nm id ky : Bs} {so : Value} {st : Ldg} {c c' : Nat} (h : RN w F b nm id ky so st c) (hc : c ≤ c') : RN w F b nm id ky so st c' := by
 obtain ⟨l, d, a, L, D, A, h1, h2, h3, h4, h5, h6⟩ := h
 exact ⟨l, d, a, L, D, A, h1, h2, by omega, by omega, by omega, h6⟩
theorem rnr_same {w w' : World} {F : Nat → Prop} {b : Nat} {nm id ky : Bs} {so : Value} {st : Ldg} {c c' : Nat} (K : Kp (fun _ => False) w w') (hF : ∀ k, F k → k < w.heap.size) (h : RN w F b nm id ky so st c) (hc : c ≤ c') : RnR w F b nm id ky so st c' w' :=
 ⟨F, K.mono (fun _ _ h => h.elim), fun _ h => Or.inl h, fun k h => Nat.lt_of_lt_of_le (hF k h) K.size, (h.frame (fun k hf => K.block k (hF k hf) (by simp))).mono hc⟩
theorem readF_err {t : Bs} {n : Nat} (h : readF t = .error n) : n ≠ 0 := by
 unfold readF at h
 cases ho : objectF t with
 | error m =>
  rw [ho] at h
  injection h with h
  subst h
  unfold objectF valueF at ho
  split at ho
  ·rename_i e he
   injection ho with ho
   subst ho
   split at he
   ·injection he with he; omega
   ·split at he
    ·injection he with he; omega
    ·cases he
  ·cases ho
  ·injection ho with ho; omega
 | ok l =>
  rw [ho] at h
  replace h : readO l = .error n := h
  unfold readO at h
  split at h
  ·injection h with h; omega
  ·split at h
   ·cases h
   ·injection h with h; omega
theorem rnr_end {w w2 wf : World} {F : Nat → Prop} {b : Nat} {nm id ky : Bs} {so l d a : Value} {L : List Kn} {D : List (Bs × Bs)} {A : List (Bs × Int)} {st : Ldg} {c : Nat} (K0 : Kp (fun _ => False) w w2) (K : Kp F w2 wf) (hF : ∀ k, F k → k < w.heap.size) (hs : RNs wf b nm id ky so l d a L D A) (hA : Abs st L D A) (hcl : L.length ≤ c) (hcd : D.length ≤ c) (hca : A.length ≤ c) (hfb : F b) (hl : ∀ k, l.ownBlock = some k → F k ∨ w2.heap.size ≤ k) (hd : ∀ k, d.ownBlock = some k → F k ∨ w2.heap.size ≤ k) (ha : ∀ k, a.ownBlock = some k → F k ∨ w2.heap.size ≤ k) : RnR w F b nm id ky so st c wf := by
 have h0 := K0.size
 have h1 := K.size
 refine ⟨fun k => (F k ∨ w.heap.size ≤ k) ∧ k < wf.heap.size, (K0.mono (fun _ _ h => h.elim)).trans K, fun _ h => h.1, fun _ h => h.2, l, d, a, L, D, A, hs, hA, hcl, hcd, hca, ⟨Or.inl hfb, by have := hF b hfb; omega⟩, ?_⟩
 have up : ∀ k, F k ∨ w2.heap.size ≤ k → F k ∨ w.heap.size ≤ k := fun k h => h.imp (fun h => h) (fun h => by omega)
 rintro k (e | e | e)
 ·exact ⟨up k (hl k e), (hs.rl.lt k e).2⟩
 ·exact ⟨up k (hd k e), (hs.rd.lt k e).2⟩
 ·exact ⟨up k (ha k e), (hs.ra.lt k e).2⟩
set_option maxRecDepth 20000 in
set_option maxHeartbeats 8000000 in
theorem rlearn_c (W : World) (hG : GL W) (w : World) (hW : Below W.heap.size W w) (F : Nat → Prop) (hF : ∀ k, F k → k < w.heap.size) (b : Nat) (nm id ky : Bs) (so : Value) (st : Ldg) (c : Nat) (hR : RN w F b nm id ky so st c) (text : Bs) (now : Int) (hnow : -9223372036854775808 ≤ now) (hc : c ≤ 800000000) :
  Calls Tryz.prog 84 #[.pointer (some ⟨b, 0, none⟩), .string ⟨text.toArray⟩, .int .i64 now] w fun e w' => e = .returned (.int .i64 ((learnS st text now).1 : Int)) ∧ RnR w F b nm id ky so (learnS st text now).2 (c + 1200) w' := by
 have HD := hide (rread_c W hG ⟨text.toArray⟩ w hW)
 have e9 : (⟨text.toArray⟩ : ByteArray).data.toList = text := by simp
 rw [e9] at HD
 clear e9
 have HR0 := hide hR
 have HF := hide hF
 clear hR hF
 go_enter Tryz.func84, Tryz.ntmps84
 go_wp2_with fail
 refine HD.out.mono ?_
 rintro e w1 ⟨K1, h1⟩
 have HK1 := hide K1
 clear HD K1
 cases hr : readF text with
 | error n =>
  rw [hr] at h1
  replace h1 : e = .returned (.tuple #[.agg #[.string ⟨#[]⟩, .int .i64 0, .slice none 0 0], .int .i64 (n : Int)]) := h1
  subst h1
  have hls : learnS st text now = (n, st) := by unfold learnS; rw [hr]
  have HL := hide hls
  have hn := readF_err hr
  have hn' : ((n : Int) != 0) = true := by simp; omega
  clear hr hls hn
  go_wp2
  go_ret
  rw [HL.out]
  exact ⟨rfl, rnr_same (HK1.out.alloc _) HF.out HR0.out (by omega)⟩
 | ok d =>
  obtain ⟨sn, un, ks⟩ := d
  rw [hr] at h1
  obtain ⟨v, rfl, row⟩ := h1
  obtain ⟨q1, q2, q3, q4, q5⟩ := readF_ok hr
  obtain ⟨va, vc, rfl, hva⟩ := own_slice4 row
  obtain ⟨l, d, a, L, D, A, hs, hA, hcl, hcd, hca, hfb, hfr⟩ := HR0.out
  have Kd : Kp (fun _ => False) w1 (w1.alloc (.cells #[.string ⟨sn.toArray⟩, .int .i64 un, .slice va ks.length vc] 30)) := (Kp.refl _ _).alloc _
  have Id := heap_alloc_new w1 (.cells #[.string ⟨sn.toArray⟩, .int .i64 un, .slice va ks.length vc] 30)
  have rowd := row.alloc (.cells #[.string ⟨sn.toArray⟩, .int .i64 un, .slice va ks.length vc] 30)
  have hkm := own_max4 row
  have Kw := HK1.out.trans Kd
  have hsd : RNs (w1.alloc (.cells #[.string ⟨sn.toArray⟩, .int .i64 un, .slice va ks.length vc] 30)) b nm id ky so l d a L D A := ⟨Kw.heap hs.blk, ownsRow_kp hs.rl Kw (by simp), ownsRow_kp hs.rd Kw (by simp), ownsRow_kp hs.ra Kw (by simp)⟩
  have hls : learnS st text now = takeS st sn ks text now := by unfold learnS; rw [hr]
  have HL := hide hls
  have HV := hide (And.intro hva (And.intro rowd (And.intro q3 Id)))
  have HA := hide (And.intro hA (And.intro hfb hfr))
  have hs1 := HK1.out.size
  clear hr hls row rowd hva q2 q3 q5 hA hs hfb hfr
  go_wp2_with fail
  generalize (w1.alloc (.cells #[.string ⟨sn.toArray⟩, .int .i64 un, .slice va ks.length vc] 30)) = w0 at *
  obtain ⟨la, lc, rfl, hlm, hla⟩ := own_sl hsd.rl
  have HS := hide hsd
  have HLA := hide hla
  clear hsd hla
  go_loopg [9] ks.length (fun gg q wr => ∃ (i : Nat), gg = ks.length - i ∧ i ≤ ks.length ∧ q = .int .i64 (i : Int) ∧ Kp (fun _ => False) w0 wr ∧ ∀ (j : Nat) (k : Ky), j < i → ks[j]? = some k → cnfK st sn k = false)
  case atStart => exact ⟨0, rfl, by omega, rfl, Kp.refl _ _, fun _ _ h => absurd h (by omega)⟩
  case round =>
   obtain ⟨i, hgg, hin, rfl, Kr, hall⟩ := hrel
   have HG2 := hide (And.intro hgg hall)
   clear hgg hall
   have hsr : RNs wr b nm id ky so (.slice la L.length lc) d a L D A := ⟨Kr.heap HS.out.blk, ownsRow_kp HS.out.rl Kr (by simp), ownsRow_kp HS.out.rd Kr (by simp), ownsRow_kp HS.out.ra Kr (by simp)⟩
   obtain ⟨x0, x1, x2, xf0, xf1, xf2, hxb⟩ := dfacts (Kr.heap HV.out.2.2.2)
   obtain ⟨f0, f1, f2, f3, f4, f5, f6⟩ := rn_facts hsr.blk
   by_cases hlt : i < ks.length
   ·have hlt' : (i : Int) < (ks.length : Int) := by omega
    obtain ⟨k, hk⟩ : ∃ k, ks[i]? = some k := ⟨ks[i], List.getElem?_eq_getElem hlt⟩
    obtain ⟨g, rfl, _⟩ := HV.out.1 (by omega)
    obtain ⟨c0, c1, c2, c3⟩ := ky_cells (ownsRow_kp HV.out.2.1 Kr (by simp)) i k hk
    have HFI : Hid (∀ X, Kp (fun _ => False) wr X → Calls Tryz.prog 140 #[.pointer (some ⟨b, 0, none⟩), .string ⟨sn.toArray⟩, .string ⟨k.id.toArray⟩] X fun e w' => e = .returned (.int .i64 (ixI (ixOf (isK sn k.id) L))) ∧ w' = X) := fun X hX => rfind_c X b nm id ky so _ d a L 0 (hX.heap hsr.blk) (ownsRow_kp hsr.rl hX (by simp)) sn k.id
    have HSK : Hid (∀ X, Kp (fun _ => False) wr X → Kp (fun _ => False) wr X ∧ X.cell? ⟨w1.heap.size, 0, none⟩ = some (.string ⟨sn.toArray⟩) ∧ X.cell? ⟨w1.heap.size, 2, none⟩ = some (.slice (some ⟨g, 0, none⟩) ks.length vc) ∧ X.cell? ⟨g, i * 4, none⟩ = some (.string ⟨k.id.toArray⟩)) := fun X hX => ⟨hX, hX.cel x0, hX.cel x2, hX.cel c0⟩
    have next : cnfK st sn k = false → ∀ (j : Nat) (q : Ky), j < i + 1 → ks[j]? = some q → cnfK st sn q = false := by
     intro hok j q hj hq
     rcases Nat.lt_or_ge j i with h | h
     ·exact HG2.out.2 j q h hq
     ·have : j = i := by omega
      subst this
      rw [hk] at hq
      injection hq with hq
      subst hq
      exact hok
    have bad : cnfK st sn k = true → confF st sn ks = true := fun h => List.any_eq_true.2 ⟨k, List.mem_of_getElem? hk, h⟩
    have hck : cnfK st sn k = match knAt L sn k.id with | some p => decide (p.1 ≠ k.key) | none => false := by
     unfold cnfK
     rw [HA.out.1.keys]
     cases knAt L sn k.id <;> rfl
    have NB := hide (And.intro next (And.intro bad hck))
    have HKR := hide Kr
    have hrl := hsr.rl
    clear next bad hck hk hsr Kr
    go_wp2_with fail
    cases hix : ixOf (isK sn k.id) L with
    | none =>
     rw [hix] at HFI
     obtain ⟨m, hm⟩ : ∃ m : Int, m = -1 := ⟨_, rfl⟩
     replace HFI : Hid (∀ X, Kp (fun _ => False) wr X → Calls Tryz.prog 140 #[.pointer (some ⟨b, 0, none⟩), .string ⟨sn.toArray⟩, .string ⟨k.id.toArray⟩] X fun e w' => e = .returned (.int .i64 m) ∧ w' = X) := by rw [hm]; exact HFI
     have hn1 : decide (m ≥ 0) = false := by rw [hm]; decide
     have hn2 : decide (0 ≤ m) = false := by rw [hm]; decide
     have hn3 : ¬ 0 ≤ m := by rw [hm]; decide
     clear hm
     have HN := hide (NB.out.1 (by rw [NB.out.2.2]; unfold knAt; rw [ix_none hix]; rfl))
     clear hix
     go_region_law (refine step_callF rfl 140 _ _ rfl #[.pointer (some ⟨b, 0, none⟩), .string ⟨sn.toArray⟩, .string ⟨k.id.toArray⟩] (by go_simp) ?_; refine (HFI.out _ (Kp.refl _ wr).drew).mono ?_; rintro e w2 ⟨rfl, rfl⟩)
     all_goals go_wp2
     all_goals go_region
     all_goals go_wp2
     all_goals go_roundg (ks.length - (i + 1))
     all_goals first
      | (rw [HG2.out.1]; omega)
      | exact ⟨i + 1, rfl, by omega, int_i64 (by omega), HKR.out.drew.drew, HN.out⟩
    | some n =>
     rw [hix] at HFI
     replace HFI : Hid (∀ X, Kp (fun _ => False) wr X → Calls Tryz.prog 140 #[.pointer (some ⟨b, 0, none⟩), .string ⟨sn.toArray⟩, .string ⟨k.id.toArray⟩] X fun e w' => e = .returned (.int .i64 (n : Int)) ∧ w' = X) := HFI
     obtain ⟨kn, hkn, hkp, hkf⟩ := ix_some hix
     have hnl : n < L.length := by
      rcases Nat.lt_or_ge n L.length with h' | h'
      ·exact h'
      ·rw [List.getElem?_eq_none h'] at hkn; cases hkn
     obtain ⟨lg, rfl, _⟩ := HLA.out (by omega)
     obtain ⟨m0, m1, m2, m3⟩ := kn_cells hrl n kn hkn
     have hcn : cnfK st sn k = decide (kn.key ≠ k.key) := by rw [NB.out.2.2]; unfold knAt; rw [hkf]; rfl
     have hn1 : decide ((n : Int) ≥ 0) = true := by simp
     have hn2 : (n : Int) < (L.length : Int) := by omega
     clear hix hkn hkp hkf hrl m0 m1 m3
     by_cases he : kn.key = k.key
     ·have he' : (kn.key == k.key) = true := by simpa using he
      have HN := hide (NB.out.1 (by rw [hcn]; simpa using he))
      clear he hcn
      go_region_law (refine step_callF rfl 140 _ _ rfl #[.pointer (some ⟨b, 0, none⟩), .string ⟨sn.toArray⟩, .string ⟨k.id.toArray⟩] (by go_simp) ?_; refine (HFI.out _ (Kp.refl _ wr).drew).mono ?_; rintro e w2 ⟨rfl, rfl⟩)
      all_goals go_wp2
      all_goals go_quiet (fail)
      all_goals go_wp2
      all_goals go_roundg (ks.length - (i + 1))
      all_goals first
       | (rw [HG2.out.1]; omega)
       | exact ⟨i + 1, rfl, by omega, int_i64 (by omega), HKR.out.drewN _, HN.out⟩
     ·have he' : (kn.key == k.key) = false := by simpa using he
      have HN := hide (NB.out.2.1 (by rw [hcn]; simpa using he))
      clear he hcn
      go_region_law (refine step_callF rfl 140 _ _ rfl #[.pointer (some ⟨b, 0, none⟩), .string ⟨sn.toArray⟩, .string ⟨k.id.toArray⟩] (by go_simp) ?_; refine (HFI.out _ (Kp.refl _ wr).drew).mono ?_; rintro e w2 ⟨rfl, rfl⟩)
      all_goals go_wp2
      all_goals go_quiet (fail)
      all_goals go_wp2
      all_goals go_ret
      all_goals
       rw [HL.out, show takeS st sn ks text now = (6, st) by unfold takeS; rw [if_pos HN.out]]
       exact ⟨rfl, rnr_same ((Kw.trans HKR.out).drew.drewN _) HF.out HR0.out (by omega)⟩
   ·have hlt' : ¬ (i : Int) < (ks.length : Int) := by omega
    have hcf : confF st sn ks = false := by
     unfold confF
     rw [List.any_eq_false]
     intro k hk
     obtain ⟨j, hj, he⟩ := List.mem_iff_getElem.1 hk
     rw [HG2.out.2 j k (by omega) (by rw [List.getElem?_eq_getElem hj, he])]
     decide
    have HTS := hide (And.intro hcf (show takeS st sn ks text now = (0, keptS (ks.foldl (updK sn now) st) sn text) by unfold takeS; rw [if_neg (by rw [hcf]; decide)]))
    have HSR := hide hsr
    have HKR := hide (Kw.trans Kr)
    have HV2 := hide (And.intro (ownsRow_kp HV.out.2.1 Kr (by simp)) (Kr.heap HV.out.2.2.2))
    have hsw := (Kw.trans Kr).size
    have hsz1 : w1.heap.size < wr.heap.size := hxb
    clear hcf hsr Kr
    go_wp2_with fail
    refine (rcapped_c now hnow wr).mono ?_
    rintro e w2 ⟨rfl, rfl⟩
    go_wp2_with fail
    go_loopg [12] ks.length (fun gg q wx => ∃ (i : Nat) (l2 : Value) (L2 : List Kn), gg = ks.length - i ∧ i ≤ ks.length ∧ q = .int .i64 (i : Int) ∧ Kp F w2 wx ∧ RNs wx b nm id ky so l2 d a L2 D A ∧ ((∀ s' i', ((ks.take i).foldl (updK sn now) st).keys s' i' = knAt L2 s' i') ∧ NdL L2) ∧ L2.length ≤ c + i ∧ (∀ k, l2.ownBlock = some k → F k ∨ w2.heap.size ≤ k))
    case atStart => exact ⟨0, _, L, rfl, by omega, rfl, Kp.refl _ _, HSR.out, ⟨HA.out.1.keys, HA.out.1.nl⟩, by omega, fun k e => Or.inl (HA.out.2.2 k (Or.inl e))⟩
    case round =>
     obtain ⟨i2, l2, L2, hgg, hin2, rfl, Kr, hsr, hke, hll, hlb⟩ := hrel
     have hFd : ∀ k, F k → k < w.heap.size := HF.out
     have rowx := ownsRow_kp HV2.out.1 Kr (fun k e hf => by have h1 := (HV2.out.1.lt k e).1; have h2 := hFd k hf; omega)
     have Ix := (Kr.block _ (lt_heap HV2.out.2) (fun hf => by have h2 := hFd _ hf; omega)).trans HV2.out.2
     clear x0 x1 x2 xf0 xf1 xf2 hxb f0 f1 f2 f3 f4 f5 f6
     obtain ⟨x0, x1, x2, xf0, xf1, xf2, hxb⟩ := dfacts Ix
     obtain ⟨f0, f1, f2, f3, f4, f5, f6⟩ := rn_facts hsr.blk
     obtain ⟨z4, z5, z6, hbl⟩ := rn_frozen hsr.blk
     obtain ⟨l2a, l2c, rfl, hlm2, hla2⟩ := own_sl hsr.rl
     have hgc : ∀ q, (Value.slice va ks.length vc).ownBlock = some q → ∃ cc, wr.heap[q]? = some (.cells cc 35) := fun q e => row_blk rowx e
     have HX := hide (And.intro hgg (And.intro Kr (And.intro hsr (And.intro hke (And.intro hlb (And.intro hla2 (And.intro Ix hgc)))))))
     clear hgc
     clear hgg Kr hke hlb hFd hla2 hsr Ix
     by_cases hlt2 : i2 < ks.length
     ·have hlt2' : (i2 : Int) < (ks.length : Int) := by omega
      obtain ⟨k, hk⟩ : ∃ k, ks[i2]? = some k := ⟨ks[i2], List.getElem?_eq_getElem hlt2⟩
      obtain ⟨g, rfl, _⟩ := HV.out.1 (by omega)
      obtain ⟨c0, c1, c2, c3⟩ := ky_cells rowx i2 k hk
      have hnc := fold_noconf (now := now) HV.out.2.2.1 HTS.out.1 hk
      have hft := fold_take (sn := sn) (now := now) (st := st) hk
      have HKF := hide (And.intro hnc hft)
      clear hk hnc hft rowx
      have hcase : (k.old = true ∧ tillF now k = k.till) ∨ (k.old = false ∧ decide (k.till > capF now) = true ∧ tillF now k = capF now) ∨ (k.old = false ∧ decide (k.till > capF now) = false ∧ tillF now k = k.till) := by
       unfold tillF
       cases k.old with
       | true => exact Or.inl ⟨rfl, rfl⟩
       | false =>
        by_cases h : k.till > capF now
        ·exact Or.inr (Or.inl ⟨rfl, by simpa using h, by simp; omega⟩)
        ·exact Or.inr (Or.inr ⟨rfl, by simpa using h, by simp; omega⟩)
      rcases hcase with ⟨ho, hT⟩ | ⟨ho, hcmp, hT⟩ | ⟨ho, hcmp, hT⟩
      all_goals
       rw [ho] at c2
       have HT := hide hT
       clear ho hT
       have HFI : Hid (∀ X, Kp (fun _ => False) wr X → Calls Tryz.prog 140 #[.pointer (some ⟨b, 0, none⟩), .string ⟨sn.toArray⟩, .string ⟨k.id.toArray⟩] X fun e w' => e = .returned (.int .i64 (ixI (ixOf (isK sn k.id) L2))) ∧ w' = X) := fun X hX => rfind_c X b nm id ky so _ d a L2 0 (hX.heap HX.out.2.2.1.blk) (ownsRow_kp HX.out.2.2.1.rl hX (by simp)) sn k.id
       go_wp2_with fail
       cases hix : ixOf (isK sn k.id) L2 with
       | none =>
        rw [hix] at HFI
        obtain ⟨m, hm⟩ : ∃ m : Int, m = -1 := ⟨_, rfl⟩
        replace HFI : Hid (∀ X, Kp (fun _ => False) wr X → Calls Tryz.prog 140 #[.pointer (some ⟨b, 0, none⟩), .string ⟨sn.toArray⟩, .string ⟨k.id.toArray⟩] X fun e w' => e = .returned (.int .i64 m) ∧ w' = X) := by rw [hm]; exact HFI
        have hn1 : decide (m < 0) = true := by rw [hm]; decide
        have hn2 : m < 0 := by rw [hm]; decide
        clear hm
        have HIX := hide hix
        clear hix
        refine wp_post ?_ wr.drew ?_ ?_
        rotate_left
        ·go_region_law (refine step_callF rfl 140 _ _ rfl #[.pointer (some ⟨b, 0, none⟩), .string ⟨sn.toArray⟩, .string ⟨k.id.toArray⟩] (by go_simp) ?_; refine (HFI.out _ (Kp.refl _ wr).drew).mono ?_; rintro e w3 ⟨rfl, rfl⟩)
         all_goals exact post_normal
        rw [← HT.out]
        go_wp2_with fail
        have hz := HX.out.2.2.1.kp (Kp.refl _ wr).drew
        have y0 : wr.drew.cell? ⟨w1.heap.size, 0, none⟩ = some (.string ⟨sn.toArray⟩) := x0
        have y2 : wr.drew.cell? ⟨w1.heap.size, 2, none⟩ = some (.slice (some ⟨g, 0, none⟩) ks.length vc) := x2
        have d0 : wr.drew.cell? ⟨g, i2 * 4, none⟩ = some (.string ⟨k.id.toArray⟩) := c0
        have d1 : wr.drew.cell? ⟨g, i2 * 4 + 1, none⟩ = some (.string ⟨k.key.toArray⟩) := c1
        have KZ : Kp F w2 wr.drew := HX.out.2.1.drew
        have HIy : Hid (wr.drew.heap[w1.heap.size]? = some (.cells #[.string ⟨sn.toArray⟩, .int .i64 un, .slice (some ⟨g, 0, none⟩) ks.length vc] 30) ∧ ∃ cc, wr.drew.heap[g]? = some (.cells cc 35)) := ⟨HX.out.2.2.2.2.2.2.1, HX.out.2.2.2.2.2.2.2 g rfl⟩
        clear x0 x1 x2 xf0 xf1 xf2 f0 f1 f2 f3 f4 f5 f6 z4 z5 z6 c0 c1 c2 c3 hbl hxb HFI
        generalize wr.drew = wy at *
        obtain ⟨f0, f1, f2, f3, f4, f5, f6⟩ := rn_facts hz.blk
        have l0 := lt_cell y0
        have l1 := lt_cell d0
        have l2 := lt_heap hz.blk
        obtain ⟨t0, hi, hz0, hz1, hz2⟩ := info_parts infoKn
        obtain ⟨v9, w9, hap, o9, g9, n9, a9⟩ := run_append_own_at (P := Tryz.prog) (w := (wy.alloc (.cells #[.string ⟨sn.toArray⟩, .string ⟨k.id.toArray⟩, .string ⟨k.key.toArray⟩, .int .i64 (tillF now k)] 255)).drew) 0 153 153 255 t0 (.agg #[.string ⟨#[]⟩, .string ⟨#[]⟩, .string ⟨#[]⟩, .int .i64 0]) 4 56 Tryz.underlying153 hi hz0 hz1 hz2 rfl (by decide) (.slice l2a L2.length l2c) L2.length (L2.flatMap knC) (hz.rl.alloc _) ⟨wy.heap.size, 0, none⟩ 1 1 (knC ⟨sn, k.id, k.key, tillF now k⟩) rfl (by
         intro j u hj
         rcases j with _ | _ | _ | _ | j
         all_goals simp [knC] at hj
         all_goals subst hj
         all_goals simp [Addr.add]) (by intro u hu; simp [knC] at hu; rcases hu with rfl | rfl | rfl | rfl <;> rfl) (by unfold maxLen; omega) (by omega) (Nat.zero_le _)
        obtain ⟨l9a, l9c, rfl, hx9, hy9⟩ := own_sl o9
        clear hx9 hy9 n9
        have hmore := hz.more o9 g9 (by rcases a9 with e | e; exact Or.inl e; exact Or.inr (by rw [e]; simp))
        obtain ⟨e0, e1, e2, e3, e4, e5, e6⟩ := rn_facts hmore.1
        obtain ⟨z4, z5, z6, hbl⟩ := rn_frozen hmore.1
        have hS : ∀ X : World, X.heap[w1.heap.size]? = wy.heap[w1.heap.size]? → X.heap[g]? = wy.heap[g]? → X.cell? ⟨w1.heap.size, 0, none⟩ = some (.string ⟨sn.toArray⟩) ∧ X.cell? ⟨w1.heap.size, 2, none⟩ = some (.slice (some ⟨g, 0, none⟩) ks.length vc) ∧ X.cell? ⟨g, i2 * 4, none⟩ = some (.string ⟨k.id.toArray⟩) ∧ X.cell? ⟨g, i2 * 4 + 1, none⟩ = some (.string ⟨k.key.toArray⟩) := by
         intro X h1 h2
         refine ⟨?_, ?_, ?_, ?_⟩
         ·rw [← y0]; unfold World.cell?; rw [h1]
         ·rw [← y2]; unfold World.cell?; rw [h1]
         ·rw [← d0]; unfold World.cell?; rw [h2]
         ·rw [← d1]; unfold World.cell?; rw [h2]
        have l0' : w1.heap.size < wy.heap.size := l0
        have l1' : g < wy.heap.size := l1
        have hd9 := g9.block w1.heap.size (by show _ < (wy.alloc _).heap.size; simp; omega) (fun e => row_off hz.rl (HIy.out.1) (by decide) e.symm)
        have hg9 := g9.block g (by show _ < (wy.alloc _).heap.size; simp; omega) (fun e => by
         obtain ⟨cc, hcc⟩ := HIy.out.2
         exact row_off hz.rl hcc (by decide) e.symm)
        have hal : ∀ (q : Nat) (o : Obj), q < wy.heap.size → (wy.alloc o).drew.heap[q]? = wy.heap[q]? := fun q o h => Below.heap_alloc wy o q h
        have HSa := hide (hS wy.drew rfl rfl)
        have HSb := hide (hS (wy.alloc (.cells #[.string ⟨sn.toArray⟩, .string ⟨k.id.toArray⟩, .string ⟨k.key.toArray⟩, .int .i64 (tillF now k)] 255)).drew (hal _ _ l0') (hal _ _ l1'))
        have HSc := hide (hS w9 (hd9.trans (hal _ _ l0')) (hg9.trans (hal _ _ l1')))
        have hdb : w1.heap.size ≠ b := by
         rintro rfl
         have h1 := HIy.out.1
         rw [hz.blk] at h1
         unfold rnCells at h1
         injection h1 with h1
         injection h1 with _ h2 _
         revert h2
         decide
        have hgb : g ≠ b := by
         rintro rfl
         obtain ⟨cc, hcc⟩ := HIy.out.2
         rw [hz.blk] at hcc
         unfold rnCells at hcc
         injection hcc with hcc
         injection hcc with _ h2 _
         revert h2
         decide
        have HSd := hide (hS (w9.setCell ⟨b, 4, none⟩ (.slice l9a (L2.length + 1) l9c)) ((heap_set_other (by exact hdb)).trans (hd9.trans (hal _ _ l0'))) ((heap_set_other (by exact hgb)).trans (hg9.trans (hal _ _ l1'))))
        have HM := hide (And.intro hmore (And.intro g9 (And.intro a9 KZ)))
        clear hmore g9 a9 o9 hz KZ hS hd9 hg9 hal hdb hgb y0 y2 d0 d1 l0' l1'
        rename_i q01 q02 q03 q04 q05 q06 q07 q08 q09 q10 q11 q12 q13 q14 q15 q16 q17 q18
        have H06 := hide q06
        have H08 := hide q08
        have H10 := hide q10
        have H13 := hide q13
        have H18 := hide q18
        clear q18 q13 q10 q08 q06
        refine wp_post ?_ (w9.setCell ⟨b, 4, none⟩ (.slice l9a (L2.length + 1) l9c)) ?_ ?_
        rotate_left
        ·refine wp_region_held_drew (S := fun X => X.cell? ⟨w1.heap.size, 0, none⟩ = some (.string ⟨sn.toArray⟩) ∧ X.cell? ⟨w1.heap.size, 2, none⟩ = some (.slice (some ⟨g, 0, none⟩) ks.length vc) ∧ X.cell? ⟨g, i2 * 4, none⟩ = some (.string ⟨k.id.toArray⟩) ∧ X.cell? ⟨g, i2 * 4 + 1, none⟩ = some (.string ⟨k.key.toArray⟩)) (by kernel_rfl) HSa.out (fun hHeld => ?_)
         refine wpAnyH_take (i := 0) (v := ?_) rfl (by kernel_rfl) (by kernel_rfl) (by kernel_rfl) (fun _ _ _ h => h) (Or.inl ⟨by rfl, ?_⟩) (by assumption) ?_
         rotate_left
         ·intro w hSw; (try dsimp only at hSw); go_simp
          all_goals with_reducible rfl
         simp only [Act.put]
         refine wpAnyH_take (i := 1) (v := ?_) rfl (by kernel_rfl) (by kernel_rfl) (by kernel_rfl) (fun _ _ _ h => h) (Or.inl ⟨by rfl, ?_⟩) (by assumption) ?_
         rotate_left
         ·intro w hSw; (try dsimp only at hSw); go_simp
          all_goals with_reducible rfl
         simp only [Act.put]
         refine wpAnyH_take (i := 2) (v := ?_) rfl (by kernel_rfl) (by kernel_rfl) (by kernel_rfl) (fun _ _ _ h => h) (Or.inl ⟨by rfl, ?_⟩) (by assumption) ?_
         rotate_left
         ·intro w hSw; (try dsimp only at hSw); go_simp
          all_goals with_reducible rfl
         simp only [Act.put]
         refine wpAnyH_take (i := 3) (v := ?_) rfl (by kernel_rfl) (by kernel_rfl) (by kernel_rfl) (fun _ _ _ h => h) (Or.inl ⟨by rfl, ?_⟩) (by assumption) ?_
         rotate_left
         ·intro w hSw; (try dsimp only at hSw); go_simp
          all_goals with_reducible rfl
         simp only [Act.put]
         refine wpAnyH_take (i := 5) (v := ?_) rfl (by kernel_rfl) (by kernel_rfl) (by kernel_rfl) (fun _ _ _ h => h) (Or.inl ⟨by rfl, ?_⟩) (by assumption) ?_
         rotate_left
         ·intro w hSw; (try dsimp only at hSw); go_simp
          all_goals with_reducible rfl
         simp only [Act.put]
         refine wpAnyH_take (i := 6) (v := ?_) rfl (by kernel_rfl) (by kernel_rfl) (by kernel_rfl) (fun _ _ _ h => h) (Or.inl ⟨by rfl, ?_⟩) (by assumption) ?_
         rotate_left
         ·intro w hSw; (try dsimp only at hSw); go_simp
          all_goals with_reducible rfl
         simp only [Act.put]
         refine wpAnyH_take (i := 7) (v := ?_) rfl (by kernel_rfl) (by kernel_rfl) (by kernel_rfl) (fun _ _ _ h => h) (Or.inl ⟨by rfl, ?_⟩) (by assumption) ?_
         rotate_left
         ·intro w hSw; (try dsimp only at hSw); go_simp
          all_goals with_reducible rfl
         simp only [Act.put]
         refine wpAnyH_take (i := 8) (v := ?_) rfl (by kernel_rfl) (by kernel_rfl) (by kernel_rfl) (fun _ _ _ h => h) (Or.inl ⟨by rfl, ?_⟩) (by assumption) ?_
         rotate_left
         ·intro w hSw; (try dsimp only at hSw); go_simp
          all_goals with_reducible rfl
         simp only [Act.put]
         refine wpAnyH_take (i := 9) (v := ?_) rfl (by kernel_rfl) (by kernel_rfl) (by kernel_rfl) (fun _ _ _ h => h) (Or.inl ⟨by rfl, ?_⟩) (by assumption) ?_
         rotate_left
         ·intro w hSw; (try dsimp only at hSw); go_simp
          all_goals with_reducible rfl
         simp only [Act.put]
         refine wpAnyH_take (i := 10) (v := ?_) rfl (by kernel_rfl) (by kernel_rfl) (by kernel_rfl) (fun _ _ _ h => h) (Or.inl ⟨by rfl, ?_⟩) (by assumption) ?_
         rotate_left
         ·intro w hSw; (try dsimp only at hSw); go_simp
          all_goals with_reducible rfl
         simp only [Act.put]
         refine wpAnyH_take (i := 11) (v := ?_) rfl (by kernel_rfl) (by kernel_rfl) (by kernel_rfl) (fun _ _ _ h => h) (Or.inl ⟨by rfl, ?_⟩) (by assumption) ?_
         rotate_left
         ·intro w hSw; (try dsimp only at hSw); go_simp
          all_goals with_reducible rfl
         simp only [Act.put]
         refine wpAnyH_take (i := 12) (v := ?_) rfl (by kernel_rfl) (by kernel_rfl) (by kernel_rfl) (fun _ _ _ h => h) (Or.inl ⟨by rfl, ?_⟩) (by assumption) ?_
         rotate_left
         ·intro w hSw; (try dsimp only at hSw); go_simp
          all_goals with_reducible rfl
         simp only [Act.put]
         refine wpAnyH_take (i := 13) (v := ?_) rfl (by kernel_rfl) (by kernel_rfl) (by kernel_rfl) (fun _ _ _ h => h) (Or.inl ⟨by rfl, ?_⟩) (by assumption) ?_
         rotate_left
         ·intro w hSw; (try dsimp only at hSw); go_simp
          all_goals with_reducible rfl
         simp only [Act.put]
         refine wpAnyH_take (i := 14) (v := ?_) rfl (by kernel_rfl) (by kernel_rfl) (by kernel_rfl) (fun _ _ _ h => h) (Or.inl ⟨by rfl, ?_⟩) (by assumption) ?_
         rotate_left
         ·intro w hSw; (try dsimp only at hSw); go_simp
          all_goals with_reducible rfl
         simp only [Act.put]
         refine wpAnyH_take (i := 15) (v := ?_) rfl (by kernel_rfl) (by kernel_rfl) (by kernel_rfl) (fun _ _ _ h => h) (Or.inl ⟨by rfl, ?_⟩) (by assumption) ?_
         rotate_left
         ·intro w hSw; (try dsimp only at hSw); go_simp
          all_goals with_reducible rfl
         simp only [Act.put]
         refine wpAnyH_take (i := 16) (v := ?_) rfl (by kernel_rfl) (by kernel_rfl) (by kernel_rfl) (fun _ _ _ h => h) (Or.inl ⟨by rfl, ?_⟩) (by assumption) ?_
         rotate_left
         ·intro w hSw; (try dsimp only at hSw); go_simp
          all_goals with_reducible rfl
         simp only [Act.put]
         refine wpAnyH_take (i := 17) (v := ?_) rfl (by kernel_rfl) (by kernel_rfl) (by kernel_rfl) (fun _ _ _ h => h) (Or.inl ⟨by rfl, ?_⟩) (by assumption) ?_
         rotate_left
         ·intro w hSw; (try dsimp only at hSw); go_simp
          all_goals with_reducible rfl
         simp only [Act.put]
         refine wpAnyH_take (i := 18) (v := ?_) rfl (by kernel_rfl) (by kernel_rfl) (by kernel_rfl) (fun _ _ _ h => h) (Or.inl ⟨by rfl, ?_⟩) (by assumption) ?_
         rotate_left
         ·intro w hSw; (try dsimp only at hSw); go_simp
          all_goals with_reducible rfl
         simp only [Act.put]
         refine wpAnyH_take (i := 19) (v := ?_) rfl (by kernel_rfl) (by kernel_rfl) (by kernel_rfl) (fun _ _ _ h => h) (Or.inl ⟨by rfl, ?_⟩) (by assumption) ?_
         rotate_left
         ·intro w hSw; (try dsimp only at hSw); go_simp
          all_goals with_reducible rfl
         simp only [Act.put]
         refine wpAnyH_take (i := 20) (v := ?_) rfl (by kernel_rfl) (by kernel_rfl) (by kernel_rfl) (fun _ _ _ h => h) (Or.inl ⟨by rfl, ?_⟩) (by assumption) ?_
         rotate_left
         ·intro w hSw; (try dsimp only at hSw); go_simp
          all_goals with_reducible rfl
         simp only [Act.put]
         refine wpAnyH_ready (rs := [4, 21]) (by kernel_rfl) (by simp) (AllReadyH.cons rfl (fun K hK => ?_) (AllReadyH.cons rfl (fun K hK => ?_) AllReadyH.nil))
         ·go_simp
          refine hK.out _ _ HSa.out (fun hHeld => ?_)
          clear hK K
          refine wpAnyH_ready (rs := [21]) (by kernel_rfl) (by simp) (AllReadyH.cons rfl (fun K hK => ?_) AllReadyH.nil)
          go_simp
          refine hK.out _ _ HSb.out (fun hHeld => ?_)
          clear hK K
          refine wpAnyH_ready (rs := [22]) (by kernel_rfl) (by simp) (AllReadyH.cons rfl (fun K hK => ?_) AllReadyH.nil)
          refine step_append_run rfl _ _ _ rfl _ _ (.slice l9a (L2.length + 1) l9c) w9 (by simp [Act.eval]) (by simp [Act.eval]) hap ?_
          refine hK.out _ _ HSc.out (fun hHeld => ?_)
          clear hK K
          refine wpAnyH_take (i := 23) (v := ?_) rfl (by kernel_rfl) (by kernel_rfl) (by kernel_rfl) (fun _ _ _ h => h) (Or.inl ⟨by rfl, ?_⟩) (by assumption) ?_
          rotate_left
          ·intro w hSw; (try dsimp only at hSw); go_simp
           all_goals with_reducible rfl
          simp only [Act.put]
          refine wpAnyH_take (i := 24) (v := ?_) rfl (by kernel_rfl) (by kernel_rfl) (by kernel_rfl) (fun _ _ _ h => h) (Or.inl ⟨by rfl, ?_⟩) (by assumption) ?_
          rotate_left
          ·intro w hSw; (try dsimp only at hSw); go_simp
           all_goals with_reducible rfl
          simp only [Act.put]
          refine wpAnyH_ready (rs := [25]) (by kernel_rfl) (by simp) (AllReadyH.cons rfl (fun K hK => ?_) AllReadyH.nil)
          go_simp
          refine hK.out _ _ HSd.out (fun hHeld => ?_)
          clear hK K
          refine wpAnyH_done (by kernel_rfl) ?_ _
          exact post_normal
         ·go_simp
          refine hK.out _ _ HSb.out (fun hHeld => ?_)
          clear hK K
          refine wpAnyH_ready (rs := [4]) (by kernel_rfl) (by simp) (AllReadyH.cons rfl (fun K hK => ?_) AllReadyH.nil)
          go_simp
          refine hK.out _ _ HSb.out (fun hHeld => ?_)
          clear hK K
          refine wpAnyH_ready (rs := [22]) (by kernel_rfl) (by simp) (AllReadyH.cons rfl (fun K hK => ?_) AllReadyH.nil)
          refine step_append_run rfl _ _ _ rfl _ _ (.slice l9a (L2.length + 1) l9c) w9 (by simp [Act.eval]) (by simp [Act.eval]) hap ?_
          refine hK.out _ _ HSc.out (fun hHeld => ?_)
          clear hK K
          refine wpAnyH_take (i := 23) (v := ?_) rfl (by kernel_rfl) (by kernel_rfl) (by kernel_rfl) (fun _ _ _ h => h) (Or.inl ⟨by rfl, ?_⟩) (by assumption) ?_
          rotate_left
          ·intro w hSw; (try dsimp only at hSw); go_simp
           all_goals with_reducible rfl
          simp only [Act.put]
          refine wpAnyH_take (i := 24) (v := ?_) rfl (by kernel_rfl) (by kernel_rfl) (by kernel_rfl) (fun _ _ _ h => h) (Or.inl ⟨by rfl, ?_⟩) (by assumption) ?_
          rotate_left
          ·intro w hSw; (try dsimp only at hSw); go_simp
           all_goals with_reducible rfl
          simp only [Act.put]
          refine wpAnyH_ready (rs := [25]) (by kernel_rfl) (by simp) (AllReadyH.cons rfl (fun K hK => ?_) AllReadyH.nil)
          go_simp
          refine hK.out _ _ HSd.out (fun hHeld => ?_)
          clear hK K
          refine wpAnyH_done (by kernel_rfl) ?_ _
          exact post_normal
        have q06 := H06.out
        have q08 := H08.out
        have q10 := H10.out
        have q13 := H13.out
        have q18 := H18.out
        clear H06 H08 H10 H13 H18
        go_wp2
        rw [HT.out]
        go_roundg (ks.length - (i2 + 1))
        rotate_left
        ·rw [HX.out.1]; omega
        ·exact ⟨i2 + 1, _, _, rfl, by omega, int_i64 (by omega), ((HM.out.2.2.2.alloc _).drew.grown HM.out.2.1 (fun q e hq => (HX.out.2.2.2.2.1 q e).resolve_right (by omega))).setCell (fun _ => HA.out.2.1) _, HM.out.1.2, ⟨fun s' i' => by rw [HKF.out.2]; exact keys_app HX.out.2.2.2.1.1 HIX.out s' i', ndl_app HX.out.2.2.2.1.2 HIX.out⟩, by rw [List.length_append, List.length_singleton]; omega, fun q e => by
          rcases HM.out.2.2.1 with h | h
          ·exact HX.out.2.2.2.2.1 q (h.symm.trans e)
          ·right
           rw [h] at e
           injection e with e
           have := HM.out.2.2.2.size
           subst e
           show _ ≤ (wy.alloc _).heap.size
           simp
           omega⟩
       | some n =>
        rw [hix] at HFI
        replace HFI : Hid (∀ X, Kp (fun _ => False) wr X → Calls Tryz.prog 140 #[.pointer (some ⟨b, 0, none⟩), .string ⟨sn.toArray⟩, .string ⟨k.id.toArray⟩] X fun e w' => e = .returned (.int .i64 (n : Int)) ∧ w' = X) := HFI
        obtain ⟨kn, hkn, hkp, hkf⟩ := ix_some hix
        have hnl : n < L2.length := by
         rcases Nat.lt_or_ge n L2.length with h' | h'
         ·exact h'
         ·rw [List.getElem?_eq_none h'] at hkn; cases hkn
        obtain ⟨lg, rfl, _⟩ := HX.out.2.2.2.2.2.1 (by omega)
        obtain ⟨m0, m1, m2, m3⟩ := kn_cells HX.out.2.2.1.rl n kn hkn
        have m4 := HX.out.2.2.1.rl.frozenAt (n * 4 + 3)
        have hn1 : decide ((n : Int) < 0) = false := by simp
        have hn2 : (n : Int) < (L2.length : Int) := by omega
        have HIX := hide (And.intro hix (And.intro hkn hkf))
        clear hix hkn hkp hkf m0 m1 m2
        refine wp_post ?_ wr.drew ?_ ?_
        rotate_left
        ·go_region_law (refine step_callF rfl 140 _ _ rfl #[.pointer (some ⟨b, 0, none⟩), .string ⟨sn.toArray⟩, .string ⟨k.id.toArray⟩] (by go_simp) ?_; refine (HFI.out _ (Kp.refl _ wr).drew).mono ?_; rintro e w3 ⟨rfl, rfl⟩)
         all_goals exact post_normal
        rw [← HT.out]
        have HSM := hide (keys_same HX.out.2.2.2.1.1 HIX.out.1 HIX.out.2.1 HKF.out.1.1 HKF.out.1.2)
        by_cases hTl : kn.till < tillF now k
        ·go_wp2
         rw [HT.out]
         go_roundg (ks.length - (i2 + 1))
         all_goals first
          | (rw [HX.out.1]; omega)
          | exact ⟨i2 + 1, _, _, rfl, by omega, int_i64 (by omega), (HX.out.2.1.drew).setCell (fun hq => (HX.out.2.2.2.2.1 lg rfl).resolve_right (Nat.not_le_of_lt hq)) _, (HX.out.2.2.1.kp (Kp.refl _ wr).drew).till n kn HIX.out.2.1 _, ⟨fun s' i' => by rw [HKF.out.2, ← HT.out]; exact keys_set HX.out.2.2.2.1.1 HIX.out.1 HIX.out.2.1 HSM.out hTl s' i', ndl_set HX.out.2.2.2.1.2 HIX.out.2.1⟩, by rw [List.length_set]; omega, fun q e => HX.out.2.2.2.2.1 q e⟩
        ·go_wp2
         rw [HT.out]
         go_roundg (ks.length - (i2 + 1))
         all_goals first
          | (rw [HX.out.1]; omega)
          | exact ⟨i2 + 1, _, _, rfl, by omega, int_i64 (by omega), HX.out.2.1.drew, HX.out.2.2.1.kp (Kp.refl _ wr).drew, ⟨fun s' i' => by rw [HKF.out.2]; exact keys_keep HX.out.2.2.2.1.1 HIX.out.1 HIX.out.2.1 HSM.out (by omega) s' i', HX.out.2.2.2.1.2⟩, by omega, fun q e => HX.out.2.2.2.2.1 q e⟩
     ·have hlt2' : ¬ (i2 : Int) < (ks.length : Int) := by omega
      have hi2 : i2 = ks.length := by omega
      have hke2 : (∀ s' i', (ks.foldl (updK sn now) st).keys s' i' = knAt L2 s' i') ∧ NdL L2 := by
       have := HX.out.2.2.2.1
       rw [hi2, List.take_length] at this
       exact this
      have HKE := hide hke2
      clear hi2 hke2 rowx
      obtain ⟨da, dc, rfl, hdm, hda⟩ := own_sl HX.out.2.2.1.rd
      have HDA := hide hda
      clear hda
      generalize wr = w4 at *
      go_wp2_with fail
      go_loopg [15] D.length (fun gg q wx => ∃ (i : Nat), gg = D.length - i ∧ i ≤ D.length ∧ q = .int .i64 (i : Int) ∧ Kp (fun _ => False) w4 wx ∧ ∀ (j : Nat) (p : Bs × Bs), j < i → D[j]? = some p → p.1 ≠ sn)
      case atStart => exact ⟨0, rfl, by omega, rfl, Kp.refl _ _, fun _ _ h => absurd h (by omega)⟩
      case round =>
       obtain ⟨i3, hgg3, hin3, rfl, Kr3, hall3⟩ := hrel
       have hs3 := HX.out.2.2.1.kp Kr3
       have Ix3 := Kr3.heap HX.out.2.2.2.2.2.2.1
       clear x0 x1 x2 xf0 xf1 xf2 hxb f0 f1 f2 f3 f4 f5 f6 z4 z5 z6 hbl
       obtain ⟨x0, x1, x2, xf0, xf1, xf2, hxb⟩ := dfacts Ix3
       obtain ⟨f0, f1, f2, f3, f4, f5, f6⟩ := rn_facts hs3.blk
       have HY := hide (And.intro hgg3 (And.intro Kr3 (And.intro hs3 (And.intro hall3 Ix3))))
       clear hgg3 Kr3 hall3 Ix3 hs3
       by_cases hlt3 : i3 < D.length
       ·have hlt3' : (i3 : Int) < (D.length : Int) := by omega
        obtain ⟨p, hp⟩ : ∃ p, D[i3]? = some p := ⟨D[i3], List.getElem?_eq_getElem hlt3⟩
        obtain ⟨dg, rfl, _⟩ := HDA.out (by omega)
        obtain ⟨d0, d1⟩ := hd_cells HY.out.2.2.1.rd i3 p hp
        have m4 := HY.out.2.2.1.rd.frozenAt (i3 * 2 + 1)
        have HP := hide hp
        clear hp
        by_cases he : p.1 = sn
        ·have he' : (p.1 == sn) = true := by simpa using he
         have HE := hide he
         clear he
         go_wp2
         go_quiet (fail)
         go_wp2
         go_ret
         rw [HL.out, HTS.out.2]
         refine ⟨rfl, rnr_end HKR.out ((HX.out.2.1.trans (HY.out.2.1.mono (fun _ _ h => h.elim))).drewN _ |>.setCell (fun _ => HA.out.2.2 dg (Or.inr (Or.inl rfl))) _) HF.out ((HY.out.2.2.1.kp ((Kp.refl _ wr).drewN _)).doc i3 p HP.out text) (abs_set HA.out.1 HKE.out (ixs_some HP.out HE.out HY.out.2.2.2.1) HP.out) (by omega) (by rw [List.length_set]; omega) (by omega) HA.out.2.1 HX.out.2.2.2.2.1 (fun q e => Or.inl (HA.out.2.2 q (Or.inr (Or.inl e)))) (fun q e => Or.inl (HA.out.2.2 q (Or.inr (Or.inr e))))⟩
        ·have he' : (p.1 == sn) = false := by simpa using he
         have HE := hide he
         clear he
         go_wp2
         go_quiet (fail)
         go_wp2
         go_roundg (D.length - (i3 + 1))
         all_goals first
          | (rw [HY.out.1]; omega)
          | exact ⟨i3 + 1, rfl, by omega, int_i64 (by omega), HY.out.2.1.drewN _, fun j q hj hq => by
            rcases Nat.lt_or_ge j i3 with h | h
            ·exact HY.out.2.2.2.1 j q h hq
            ·have : j = i3 := by omega
             subst this
             rw [HP.out] at hq
             injection hq with hq
             subst hq
             exact HE.out⟩
       ·have hlt3' : ¬ (i3 : Int) < (D.length : Int) := by omega
        have hi3 : ixOf (isS sn) D = none := ixs_none (fun j q hj hq => HY.out.2.2.2.1 j q (by omega) hq)
        have HI3 := hide hi3
        clear hi3
        go_wp2_with fail
        have l0 := lt_cell x0
        have l2 := lt_heap HY.out.2.2.1.blk
        obtain ⟨t0, hi, hz0, hz1, hz2⟩ := info_parts infoHd
        obtain ⟨v9, w9, hap, o9, g9, n9, a9⟩ := run_append_own_at (P := Tryz.prog) (w := (wr.alloc (.cells #[.string ⟨sn.toArray⟩, .string ⟨text.toArray⟩] 257)).drew) 0 154 154 257 t0 (.agg #[.string ⟨#[]⟩, .string ⟨#[]⟩]) 2 32 Tryz.underlying154 hi hz0 hz1 hz2 rfl (by decide) (.slice da D.length dc) D.length (D.flatMap hdC) (HY.out.2.2.1.rd.alloc _) ⟨wr.heap.size, 0, none⟩ 1 1 (hdC (sn, text)) rfl (by
         intro j u hj
         rcases j with _ | _ | j
         all_goals simp [hdC] at hj
         all_goals subst hj
         all_goals simp [Addr.add]) (by intro u hu; simp [hdC] at hu; rcases hu with rfl | rfl <;> rfl) (by unfold maxLen; omega) (by omega) (Nat.zero_le _)
        obtain ⟨l9a, l9c, rfl, hx9, hy9⟩ := own_sl o9
        clear hx9 hy9 n9
        have hmore := HY.out.2.2.1.moreD o9 g9 (by rcases a9 with e | e; exact Or.inl e; exact Or.inr (by rw [e]; simp))
        obtain ⟨e0, e1, e2, e3, e4, e5, e6⟩ := rn_facts hmore.1
        obtain ⟨z4, z5, z6, hbl⟩ := rn_frozen hmore.1
        have HM := hide (And.intro hmore (And.intro g9 a9))
        clear hmore g9 a9 o9
        refine wp_post ?_ (w9.setCell ⟨b, 5, none⟩ (.slice l9a (D.length + 1) l9c)) ?_ ?_
        rotate_left
        ·go_region_law (refine step_append_run rfl _ _ _ rfl _ _ (.slice l9a (D.length + 1) l9c) w9 (by simp [Act.eval]) (by simp [Act.eval]) hap ?_)
         all_goals exact post_normal
        go_wp2
        go_ret
        rw [HL.out, HTS.out.2]
        refine ⟨rfl, rnr_end HKR.out ((((HX.out.2.1.trans (HY.out.2.1.mono (fun _ _ h => h.elim))).alloc _).drew.grown HM.out.2.1 (fun q e _ => HA.out.2.2 q (Or.inr (Or.inl e)))).setCell (fun _ => HA.out.2.1) _) HF.out HM.out.1.2 (abs_app HA.out.1 HKE.out HI3.out) (by omega) (by rw [List.length_append, List.length_singleton]; omega) (by omega) HA.out.2.1 HX.out.2.2.2.2.1 (fun q e => ?_) (fun q e => Or.inl (HA.out.2.2 q (Or.inr (Or.inr e))))⟩
        rcases HM.out.2.2 with h | h
        ·exact Or.inl (HA.out.2.2 q (Or.inr (Or.inl (h.symm.trans e))))
        ·right
         rw [h] at e
         injection e with e
         have hq1 := HX.out.2.1.size
         have hq2 := HY.out.2.1.size
         subst e
         show _ ≤ (wr.alloc _).heap.size
         simp
         omega
end Go.Proofs.YtocligpfmfmihaaGreatDoor

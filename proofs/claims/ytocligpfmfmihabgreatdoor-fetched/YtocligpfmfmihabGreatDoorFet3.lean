import Derived.Test.YtocligpfmfmihabGreatDoorVa4G
import Derived.Test.YtocligpfmfmihabGreatDoorPn8G
import Derived.Test.YtocligpfmfmihabGreatDoorHon2G
namespace Go.Proofs.YtocligpfmfmihabGreatDoor
open Go Go.RowKit Go.Maps Go.Lib

theorem plain_ex2 (a : ByteArray) (ha : a.size ≤ 9223372036854775807) : ∃ s : Bs, Nm s ∧ s.head? = some 110 ∧ Hid (∀ X, Calls Tryz.prog 6 #[.string a] X fun e w' => e = .returned (.string ⟨s.toArray⟩) ∧ X = w') :=
  ⟨plF a.data.toList, plF_nm _, rfl, hide (fun X => (plain_c X a ha).mono fun _ _ h => ⟨h.1, h.2.symm⟩)⟩
theorem and3 (x : Int) : ∃ n : Nat, n < 4 ∧ bits .and .i64 x 3 = (n : Int) := by
  have h3 : (BitVec.ofInt 64 3).toNat = 3 := by decide
  have hl : (BitVec.ofInt 64 x &&& BitVec.ofInt 64 3).toNat < 4 := by
    rw [BitVec.toNat_and, h3]
    exact Nat.lt_succ_of_le Nat.and_le_right
  refine ⟨(BitVec.ofInt 64 x &&& BitVec.ofInt 64 3).toNat, hl, ?_⟩
  show IntKind.wrap .i64 ((BitVec.ofInt 64 x &&& BitVec.ofInt 64 3).toNat : Int) = _
  generalize (BitVec.ofInt 64 x &&& BitVec.ofInt 64 3).toNat = n at hl ⊢
  match n, hl with
  | 0, _ => decide
  | 1, _ => decide
  | 2, _ => decide
  | 3, _ => decide
theorem rpi_blk {X : World} {g : Nat} {rs : List Rpl} {ty : TypeId} (h : X.heap[g]? = some (.cells (rs.flatMap rpC).toArray ty)) : RpI X rs (some ⟨g, 0, none⟩) := by
  intro j r hr
  refine ⟨g, 0, rfl, fun m u hu => ?_⟩
  have hm : m < 4 := (List.getElem?_eq_some_iff.1 hu).1
  have := flat_get rpC 4 (fun _ => rfl) rs j r hr m hm
  rw [hu] at this
  rw [Nat.zero_add]
  simp only [World.cell?, h]
  simpa using this
/-- A notary of the walk below. -/
structure Hd (W w : World) (F : Nat → Prop) (nb : Nat) (st : Ldg) (T : List Bs) : Prop where
  bel : Below W.heap.size W w
  low : ∀ k, F k → W.heap.size ≤ k
  pn : PN w F nb kMe kMine kSecret [sFi, sSe, sTh] st (capT T)
  lok : LOk T st
theorem Hd.kp {W w w' : World} {F : Nat → Prop} {nb : Nat} {st : Ldg} {T : List Bs} (h : Hd W w F nb st T) (K : Kp (fun _ => False) w w') : Hd W w' F nb st T := ⟨below_kp h.bel K, h.low, pn_kp h.pn K, h.lok⟩
theorem Hd.set2 {W w : World} {F : Nat → Prop} {nb : Nat} {st : Ldg} {T : List Bs} (h : Hd W w F nb st T) {n : Nat} (hn : ¬ F n) (hW : W.heap.size ≤ n) (x y : Value) : Hd W ((w.setCell ⟨n, 0, none⟩ x).setCell ⟨n, 1, none⟩ y) F nb st T := by
  refine ⟨Below.setCell2 h.bel hW x y, h.low, h.pn.frame (by rw [World.size_setCell, World.size_setCell]; exact Nat.le_refl _) (fun k hk => ?_), h.lok⟩
  have hne : k ≠ n := fun e => hn (e ▸ hk)
  rw [heap_set_other (by exact hne), heap_set_other (by exact hne)]
theorem Hd.verify {W w : World} {F : Nat → Prop} {nb : Nat} {st : Ldg} {T : List Bs} (h : Hd W w F nb st T) (hN : NG3 W) (hTl : T.length ≤ 700000) (rs : List Rpl) (ra : Option Addr) (rc : Nat) (hI : RpI w rs ra) (hrf : rs ≠ [] → ∀ g o, ra = some ⟨g, o, none⟩ → ¬ F g ∧ g < w.heap.size) (hrl : rs.length ≤ 1100000000) (hrT : ∀ r ∈ rs, r.text ∈ T) (text : Bs) (htT : text ∈ T) (now : Int) (hn0 : -9223372036854775808 ≤ now) (hn1 : now ≤ 9223372036854775807) (oc : Nat × Bs) (kn : Nat) (st' : Ldg) (hres : verifyS rs now [sFi, sSe, sTh] st text = ((oc, kn), st')) :
    Calls Tryz.prog 11 #[.pointer (some ⟨nb, 0, none⟩), .string ⟨text.toArray⟩, .int .i64 now, .slice ra rs.length rc] w fun e w' => e = .returned (.tuple #[.agg #[.int .i64 (oc.1 : Int), .string ⟨oc.2.toArray⟩], .int .i64 (kn : Int)]) ∧ ∃ F', Kp F w w' ∧ Hd W w' F' nb st' T ∧ (∀ k, F' k → F k ∨ w.heap.size ≤ k) := by
  refine (verify_c W hN w h.bel F h.low nb _ _ _ _ st T h.lok hTl h.pn (by decide) rs ra rc hI hrf hrl hrT text htT now hn0 hn1 _ hres.symm).mono ?_
  rintro e w' ⟨rfl, F', K, hF, hP⟩
  have hl := LOk.verify h.lok hrT htT hn0 hn1 [sFi, sSe, sTh]
  rw [hres] at hl
  exact ⟨rfl, F', K, ⟨below_fq h.bel K h.low, fun k hk => (hF k hk).elim (h.low k) (fun e => Nat.le_trans h.bel.size e), hP, hl⟩, hF⟩
theorem nX : Nm ([120] : Bs) := ⟨by decide, by decide, by decide⟩
set_option maxRecDepth 20000 in
set_option maxHeartbeats 8000000 in
theorem fetched_c (W : World) (hN : NG3 W) (a b : ByteArray) (ha : a.size ≤ 9223372036854775807) (hb : b.size ≤ 9223372036854775807) (which now : Int) (h2 : -9223372036854775808 ≤ now ∧ now ≤ 9223372036854775807) :
    Calls Tryz.prog 3 #[.string a, .string b, .int .i64 which, .int .i64 now] W fun e w' => e = .returned (.bool true) ∧ Kp (fun _ => False) W w' := by
  obtain ⟨s, ns, hs, HA⟩ := plain_ex2 a ha
  obtain ⟨k, nk, _, HB⟩ := plain_ex2 b hb
  obtain ⟨t, t0, t1, HG⟩ := moment_ex now h2.1 h2.2
  obtain ⟨n, hn, hA3⟩ := and3 which
  clear h2 ha hb
  have hn' : n = 0 ∨ n = 1 ∨ n = 2 ∨ n = 3 := by omega
  have HE := hide (ev_take (s := s) (b := [120]) (id := kId) (sig := (sealF ⟨k.toArray⟩ ⟨(bareF (evL s [120] t)).toArray⟩).data.toList) (at' := t) ns vId (by decide) nX (seal_ok _ _).1 (by rw [(seal_ok _ _).2]; omega) t0 (by omega))
  have HR := hide (doc_read (till := t + 10) ns lId (by decide) (by decide) nk (by omega) (by omega))
  have HF1 := hide (fet_one (D := sdocF s kId k (t + 10)) (e := sevF s kId k [120] t) hs HE.out (whoF s n))
  have HF2 := hide (fun rs => fet_two (e := sevF s kId k [120] t) HE.out rs)
  have HF3 := hide (fet_three (e := sevF s kId k [120] t) hs t1 HE.out HR.out rfl n hn)
  have HF4 := hide (fet_four (e := sevF s kId k [120] t) (D := sdocF s kId k (t + 10)) t1 HE.out rfl)
  have HAN := hide (fet_ans hs ns nk t0 t1)
  clear hs hn
  go_enter Tryz.func3, Tryz.ntmps3
  go_wp2_with fail
  refine (HA.out _).mono ?_
  rintro e _ ⟨rfl, rfl⟩
  go_wp2_with fail
  refine (HB.out _).mono ?_
  rintro e _ ⟨rfl, rfl⟩
  go_wp2_with fail
  refine (HG.out _).mono ?_
  rintro e _ ⟨rfl, rfl⟩
  clear HA HB HG
  go_wp2_with fail
  refine (document_c W hN.n2.ng W (Below.refl _ _) s kId k (t + 10) ns lId (by decide) (by decide) nk (by omega) (by omega)).mono ?_
  rintro e w1 ⟨rfl, K1⟩
  have HK1 := hide K1
  clear K1
  have K2 : Kp (fun _ => False) W (w1.alloc (.cells #[.string ⟨#[102, 105, 114, 115, 116]⟩, .string ⟨#[115, 101, 99, 111, 110, 100]⟩, .string ⟨#[116, 104, 105, 114, 100]⟩] 9)) := HK1.out.alloc _
  have r2 := heap_alloc_new w1 (.cells #[.string ⟨#[102, 105, 114, 115, 116]⟩, .string ⟨#[115, 101, 99, 111, 110, 100]⟩, .string ⟨#[116, 104, 105, 114, 100]⟩] 9)
  have HNW := hide (new_c (w1.alloc (.cells #[.string ⟨#[102, 105, 114, 115, 116]⟩, .string ⟨#[115, 101, 99, 111, 110, 100]⟩, .string ⟨#[116, 104, 105, 114, 100]⟩] 9)) kMe kMine kSecret 0 (.slice (some ⟨w1.heap.size, 0, none⟩) 3 3) [sFi, sSe, sTh] ⟨rfl, .inr ⟨w1.heap.size, 3, _, rfl, Nat.zero_le _, heap_alloc_new w1 _, Nat.le_refl _, by decide, rfl, rfl⟩⟩ (by decide))
  have HK2 := hide (And.intro K2 r2)
  clear K2 r2 HK1
  go_wp2_with fail
  refine HNW.out.mono ?_
  rintro e w3 ⟨F, nb, rfl, K3, hP, hF⟩
  have H3 : Hid (Below W.heap.size W w3 ∧ (∀ k, F k → W.heap.size ≤ k) ∧ PN w3 F nb kMe kMine kSecret [sFi, sSe, sTh] Ldg.zero 0 ∧ ¬ F w1.heap.size ∧ w3.heap[w1.heap.size]? = some (.cells #[.string ⟨#[102, 105, 114, 115, 116]⟩, .string ⟨#[115, 101, 99, 111, 110, 100]⟩, .string ⟨#[116, 104, 105, 114, 100]⟩] 9)) :=
    hide ⟨below_kp (below_kp (Below.refl _ W) HK2.out.1) K3, fun k h => Nat.le_trans HK2.out.1.size (hF k h), hP, fun h => by have := hF _ h; rw [World.size_alloc] at this; omega, (K3.block _ (by rw [World.size_alloc]; exact Nat.lt_succ_self _) (by simp)).trans HK2.out.2⟩
  clear K3 hP hF HNW HK2
  go_wp2_with fail
  refine (event_c W hN.n2.ng w3 H3.out.1 s kId k [120] t ns vId (by decide) nk nX t0 (by omega)).mono ?_
  rintro e w4 ⟨rfl, K4⟩
  have H4 : Hid (Below W.heap.size W w4 ∧ (∀ k, F k → W.heap.size ≤ k) ∧ PN w4 F nb kMe kMine kSecret [sFi, sSe, sTh] Ldg.zero 0 ∧ ¬ F w1.heap.size ∧ w4.heap[w1.heap.size]? = some (.cells #[.string ⟨#[102, 105, 114, 115, 116]⟩, .string ⟨#[115, 101, 99, 111, 110, 100]⟩, .string ⟨#[116, 104, 105, 114, 100]⟩] 9)) :=
    hide ⟨below_kp H3.out.1 K4, H3.out.2.1, pn_kp H3.out.2.2.1 K4, H3.out.2.2.2.1, (K4.block _ (lt_heap H3.out.2.2.2.2) (by simp)).trans H3.out.2.2.2.2⟩
  clear K4 H3
  obtain ⟨Fk, kb, so, hP0⟩ := H4.out.2.2.1
  have HH : Hid (Hd W w4 F nb Ldg.zero [sdocF s kId k (t + 10), sevF s kId k [120] t]) := hide ⟨H4.out.1, H4.out.2.1, ⟨Fk, kb, so, hP0.tight (LOk.zero _)⟩, LOk.zero _⟩
  have q4 := H4.out.2.2.2.2
  have c0 : w4.cell? ⟨w1.heap.size, 0, none⟩ = some (.string ⟨#[102, 105, 114, 115, 116]⟩) := by simp [World.cell?, q4]
  have c1 : w4.cell? ⟨w1.heap.size, 1, none⟩ = some (.string ⟨#[115, 101, 99, 111, 110, 100]⟩) := by simp [World.cell?, q4]
  have c2 : w4.cell? ⟨w1.heap.size, 2, none⟩ = some (.string ⟨#[116, 104, 105, 114, 100]⟩) := by simp [World.cell?, q4]
  clear hP0 q4 H4
  have HV1 : Hid (Calls Tryz.prog 11 #[.pointer (some ⟨nb, 0, none⟩), .string ⟨(sevF s kId k [120] t).toArray⟩, .int .i64 t, .slice (some ⟨w4.heap.size, 0, none⟩) 1 1] (w4.alloc (.cells #[.string ⟨(whoF s n).toArray⟩, .string ⟨s.toArray⟩, .string ⟨(sdocF s kId k (t + 10)).toArray⟩, .bool true] 36)) fun e w' => e = .returned (.tuple #[.agg #[.int .i64 8, .string ⟨s.toArray⟩], .int .i64 4]) ∧ ∃ F', Hd W w' F' nb (fS1 s t) [sdocF s kId k (t + 10), sevF s kId k [120] t]) := by
    have K5 : Kp (fun _ => False) w4 (w4.alloc (.cells #[.string ⟨(whoF s n).toArray⟩, .string ⟨s.toArray⟩, .string ⟨(sdocF s kId k (t + 10)).toArray⟩, .bool true] 36)) := (Kp.refl _ _).alloc _
    refine hide (((HH.out.kp K5).verify hN (by simp) [⟨whoF s n, s, sdocF s kId k (t + 10), true⟩] (some ⟨w4.heap.size, 0, none⟩) 1 (rpi_blk (heap_alloc_new w4 _)) (fun _ g o e => ?_) (by simp) (by simp) (sevF s kId k [120] t) (by simp) t (by omega) (by omega) _ _ _ HF1.out).mono ?_)
    · injection e with e
      injection e with e1 e2
      subst e1
      exact ⟨fun h => Nat.lt_irrefl _ (pn_lt HH.out.pn _ h), by rw [World.size_alloc]; exact Nat.lt_succ_self _⟩
    · rintro e w' ⟨h1, F', _, h2, _⟩
      exact ⟨h1, F', h2⟩
  clear HF1
  rcases hn' with rfl | rfl | rfl | rfl
  · go_wp2_with fail
    refine HV1.out.mono ?_
    rintro e w6 ⟨rfl, F6, H6⟩
    have K7 : Kp (fun _ => False) w6 ((w6.alloc (.cells #[.int .i64 8, .string ⟨s.toArray⟩] 32)).alloc (.cells #[.string ⟨s.toArray⟩, .string ⟨s.toArray⟩, .string ⟨(sdocF s kId k (t + 10)).toArray⟩, .bool false, .string ⟨#[116, 104, 105, 114, 100]⟩, .string ⟨s.toArray⟩, .string ⟨(sdocF s kId k (t + 10)).toArray⟩, .bool false] 36)) := ((Kp.refl _ _).alloc _).alloc _
    have r7 : ((w6.alloc (.cells #[.int .i64 8, .string ⟨s.toArray⟩] 32)).alloc (.cells #[.string ⟨s.toArray⟩, .string ⟨s.toArray⟩, .string ⟨(sdocF s kId k (t + 10)).toArray⟩, .bool false, .string ⟨#[116, 104, 105, 114, 100]⟩, .string ⟨s.toArray⟩, .string ⟨(sdocF s kId k (t + 10)).toArray⟩, .bool false] 36)).heap[w6.heap.size]? = some (.cells #[.int .i64 8, .string ⟨s.toArray⟩] 32) := (Below.heap_alloc _ _ _ (by rw [World.size_alloc]; exact Nat.lt_succ_self _)).trans (heap_alloc_new w6 _)
    have g7 : ((w6.alloc (.cells #[.int .i64 8, .string ⟨s.toArray⟩] 32)).alloc (.cells #[.string ⟨s.toArray⟩, .string ⟨s.toArray⟩, .string ⟨(sdocF s kId k (t + 10)).toArray⟩, .bool false, .string ⟨#[116, 104, 105, 114, 100]⟩, .string ⟨s.toArray⟩, .string ⟨(sdocF s kId k (t + 10)).toArray⟩, .bool false] 36)).heap[w6.heap.size + 1]? = some (.cells #[.string ⟨s.toArray⟩, .string ⟨s.toArray⟩, .string ⟨(sdocF s kId k (t + 10)).toArray⟩, .bool false, .string ⟨#[116, 104, 105, 114, 100]⟩, .string ⟨s.toArray⟩, .string ⟨(sdocF s kId k (t + 10)).toArray⟩, .bool false] 36) := by
      have := heap_alloc_new (w6.alloc (.cells #[.int .i64 8, .string ⟨s.toArray⟩] 32)) (.cells #[.string ⟨s.toArray⟩, .string ⟨s.toArray⟩, .string ⟨(sdocF s kId k (t + 10)).toArray⟩, .bool false, .string ⟨#[116, 104, 105, 114, 100]⟩, .string ⟨s.toArray⟩, .string ⟨(sdocF s kId k (t + 10)).toArray⟩, .bool false] 36)
      rwa [World.size_alloc] at this
    obtain ⟨w7, hw7⟩ : ∃ w7, w7 = (w6.alloc (.cells #[.int .i64 8, .string ⟨s.toArray⟩] 32)).alloc (.cells #[.string ⟨s.toArray⟩, .string ⟨s.toArray⟩, .string ⟨(sdocF s kId k (t + 10)).toArray⟩, .bool false, .string ⟨#[116, 104, 105, 114, 100]⟩, .string ⟨s.toArray⟩, .string ⟨(sdocF s kId k (t + 10)).toArray⟩, .bool false] 36) := ⟨_, rfl⟩
    have h7 : Hd W w7 F6 nb (fS1 s t) [sdocF s kId k (t + 10), sevF s kId k [120] t] := hw7 ▸ H6.kp K7
    have n7 : (¬ F6 w6.heap.size ∧ ¬ F6 (w6.heap.size + 1)) ∧ W.heap.size ≤ w6.heap.size := ⟨⟨fun h => Nat.lt_irrefl _ (pn_lt H6.pn _ h), fun h => by have := pn_lt H6.pn _ h; omega⟩, H6.bel.size⟩
    rw [← hw7] at r7 g7
    have HV2 : Hid (Calls Tryz.prog 11 #[.pointer (some ⟨nb, 0, none⟩), .string ⟨(sevF s kId k [120] t).toArray⟩, .int .i64 (t + 49), .slice (some ⟨w6.heap.size + 1, 0, none⟩) 2 2] w7 fun e w' => e = .returned (.tuple #[.agg #[.int .i64 8, .string ⟨s.toArray⟩], .int .i64 0]) ∧ ∃ F', Kp F6 w7 w' ∧ Hd W w' F' nb (fS1 s t) [sdocF s kId k (t + 10), sevF s kId k [120] t] ∧ (∀ k, F' k → F6 k ∨ w7.heap.size ≤ k)) := by
      refine hide (h7.verify hN (by simp) [⟨whoF s 0, s, sdocF s kId k (t + 10), false⟩, ⟨sTh, s, sdocF s kId k (t + 10), false⟩] (some ⟨w6.heap.size + 1, 0, none⟩) 2 (rpi_blk g7) (fun _ g o e => ?_) (by simp) (by simp) (sevF s kId k [120] t) (by simp) (t + 49) (by omega) (by omega) _ _ _ (HF2.out _))
      injection e with e
      injection e with e1 e2
      subst e1
      exact ⟨n7.1.2, lt_heap g7⟩
    rw [hw7] at HV2
    have H7 := hide (And.intro hw7 (And.intro h7 (And.intro n7 (And.intro r7 g7))))
    clear H6 K7 r7 g7 hw7 h7 n7 HV1 c0 c1 c2
    go_wp2_with fail
    refine HV2.out.mono ?_
    rintro e w8 ⟨rfl, F8, K8, h8, hF8⟩
    rw [← H7.out.1] at K8 hF8
    have r8 := (K8.block _ (lt_heap H7.out.2.2.2.1) H7.out.2.2.1.1.1).trans H7.out.2.2.2.1
    have g8 := (K8.block _ (lt_heap H7.out.2.2.2.2) H7.out.2.2.1.1.2).trans H7.out.2.2.2.2
    have n8 : (¬ F8 w6.heap.size ∧ ¬ F8 (w6.heap.size + 1)) ∧ W.heap.size ≤ w6.heap.size := by
      refine ⟨⟨fun h => ?_, fun h => ?_⟩, H7.out.2.2.1.2⟩
      · rcases hF8 _ h with h | h
        · exact H7.out.2.2.1.1.1 h
        · exact Nat.lt_irrefl _ (Nat.lt_of_lt_of_le (lt_heap H7.out.2.2.2.1) h)
      · rcases hF8 _ h with h | h
        · exact H7.out.2.2.1.1.2 h
        · exact Nat.lt_irrefl _ (Nat.lt_of_lt_of_le (lt_heap H7.out.2.2.2.2) h)
    obtain ⟨⟨q0, q1⟩, z0, z1⟩ := pair_facts r8
    have r9 := set_pair (p := .int .i64 8) (q := .string ⟨s.toArray⟩) r8
    have g9 : ((w8.setCell ⟨w6.heap.size, 0, none⟩ (.int .i64 8)).setCell ⟨w6.heap.size, 1, none⟩ (.string ⟨s.toArray⟩)).heap[w6.heap.size + 1]? = some (.cells #[.string ⟨s.toArray⟩, .string ⟨s.toArray⟩, .string ⟨(sdocF s kId k (t + 10)).toArray⟩, .bool false, .string ⟨#[116, 104, 105, 114, 100]⟩, .string ⟨s.toArray⟩, .string ⟨(sdocF s kId k (t + 10)).toArray⟩, .bool false] 36) := by
      rw [heap_set_other (by exact Nat.succ_ne_self _), heap_set_other (by exact Nat.succ_ne_self _)]
      exact g8
    have h9 := h8.set2 n8.1.1 n8.2 (.int .i64 8) (.string ⟨s.toArray⟩)
    obtain ⟨w9, hw9⟩ : ∃ w9, w9 = (w8.setCell ⟨w6.heap.size, 0, none⟩ (.int .i64 8)).setCell ⟨w6.heap.size, 1, none⟩ (.string ⟨s.toArray⟩) := ⟨_, rfl⟩
    rw [← hw9] at r9 g9 h9
    have HV3 : Hid (Calls Tryz.prog 11 #[.pointer (some ⟨nb, 0, none⟩), .string ⟨(sevF s kId k [120] t).toArray⟩, .int .i64 (t + 50), .slice (some ⟨w6.heap.size + 1, 0, none⟩) 2 2] w9 fun e w' => e = .returned (.tuple #[.agg #[.int .i64 0, .string ⟨#[]⟩], .int .i64 1]) ∧ ∃ F', Kp F8 w9 w' ∧ Hd W w' F' nb (fS2 s k (sdocF s kId k (t + 10)) t) [sdocF s kId k (t + 10), sevF s kId k [120] t] ∧ (∀ k, F' k → F8 k ∨ w9.heap.size ≤ k)) := by
      refine hide (h9.verify hN (by simp) [⟨whoF s 0, s, sdocF s kId k (t + 10), false⟩, ⟨sTh, s, sdocF s kId k (t + 10), false⟩] (some ⟨w6.heap.size + 1, 0, none⟩) 2 (rpi_blk g9) (fun _ g o e => ?_) (by simp) (by simp) (sevF s kId k [120] t) (by simp) (t + 50) (by omega) (by omega) _ _ _ HF3.out)
      injection e with e
      injection e with e1 e2
      subst e1
      exact ⟨n8.1.2, lt_heap g9⟩
    rw [hw9] at HV3
    obtain ⟨⟨y0, y1⟩, _⟩ := pair_facts (hw9 ▸ r9)
    have H9 := hide (And.intro hw9 (And.intro h9 (And.intro n8 (And.intro r9 g9))))
    clear K8 hF8 r8 g8 n8 r9 g9 h9 h8 hw9 H7 HV2 HF2 HF3
    go_wp2_with fail
    refine HV3.out.mono ?_
    rintro e w10 ⟨rfl, F10, K10, h10, hF10⟩
    rw [← H9.out.1] at K10 hF10
    have r10 := (K10.block _ (lt_heap H9.out.2.2.2.1) H9.out.2.2.1.1.1).trans H9.out.2.2.2.1
    have n10 : ¬ F10 w6.heap.size := fun h => by
      rcases hF10 _ h with h | h
      · exact H9.out.2.2.1.1.1 h
      · exact Nat.lt_irrefl _ (Nat.lt_of_lt_of_le (lt_heap H9.out.2.2.2.1) h)
    clear q0 q1 z0 z1 y0 y1
    obtain ⟨⟨q0, q1⟩, z0, z1⟩ := pair_facts r10
    have r11 := set_pair (p := .int .i64 0) (q := .string ⟨#[]⟩) r10
    have h11 := h10.set2 n10 H9.out.2.2.1.2 (.int .i64 0) (.string ⟨#[]⟩)
    obtain ⟨⟨y0, y1⟩, _⟩ := pair_facts r11
    have HAn := hide (answer_c W hN _ h11.bel F10 h11.low nb _ _ _ _ _ _ h11.pn s (by have := ns.few; omega) (by decide) (by decide) (by decide))
    have H11 := hide (And.intro h11 (And.intro r11 (And.intro n10 H9.out.2.2.1.2)))
    obtain ⟨A, m, hA1, hA2, hA3'⟩ := HAN.out
    have HA1 := hide hA1
    have HA2 := hide hA2
    have HA3 := hide hA3'
    clear K10 hF10 r10 n10 r11 h11 h10 H9 HV3 hA1 hA2 hA3' HAN
    go_wp2_with fail
    refine HAn.out.mono ?_
    rintro e w12 ⟨rfl, K12⟩
    rw [HA1.out]
    have h12 := H11.out.1.kp K12
    have r12 := (K12.block _ (lt_heap H11.out.2.1) (by simp)).trans H11.out.2.1
    have H12 := hide (And.intro h12 (And.intro r12 H11.out.2.2))
    clear h12 r12 K12 HAn H11 q0 q1 z0 z1 y0 y1
    go_wp2_with fail
    refine (message_c W hN.n2.ng _ w12 H12.out.1.bel).mono ?_
    rintro e w13 ⟨rfl, K13⟩
    rw [show (ByteArray.mk A.toArray).data.toList = A by simp, HA2.out]
    go_wp2_with fail
    refine (message_c W hN.n2.ng _ w13 (below_kp H12.out.1.bel K13)).mono ?_
    rintro e w14 ⟨rfl, K14⟩
    rw [show (ByteArray.mk (sdocF s kId k (t + 10)).toArray).data.toList = sdocF s kId k (t + 10) by simp, HA3.out]
    have K := K13.trans K14
    have HV4 := hide ((H12.out.1.kp K).verify hN (by simp) [] none 0 (fun j r h => by simp at h) (by simp) (by simp) (by simp) (sevF s kId k [120] t) (by simp) t (by omega) (by omega) _ _ _ HF4.out)
    have r14 := (K.block _ (lt_heap H12.out.2.1) (by simp)).trans H12.out.2.1
    have H14 := hide (And.intro r14 H12.out.2.2)
    clear K K13 K14 r14 H12 HF4 HA1 HA2 HA3
    go_wp2_with fail
    refine HV4.out.mono ?_
    rintro e w15 ⟨rfl, F15, K15, h15, hF15⟩
    have r15 := (K15.block _ (lt_heap H14.out.1) H14.out.2.1).trans H14.out.1
    obtain ⟨⟨q0, q1⟩, z0, z1⟩ := pair_facts r15
    have HB := hide (Below.setCell2 h15.bel H14.out.2.2 (.int .i64 0) (.string ⟨#[]⟩))
    obtain ⟨⟨y0, y1⟩, _⟩ := pair_facts (set_pair (p := .int .i64 0) (q := .string ⟨#[]⟩) r15)
    clear K15 h15 hF15 r15 H14 HV4
    go_wp2_with fail
    go_ret
    exact ⟨rfl, kp_below HB.out⟩
  · go_wp2_with fail
    refine HV1.out.mono ?_
    rintro e w6 ⟨rfl, F6, H6⟩
    have K7 : Kp (fun _ => False) w6 ((w6.alloc (.cells #[.int .i64 8, .string ⟨s.toArray⟩] 32)).alloc (.cells #[.string ⟨#[102, 105, 114, 115, 116]⟩, .string ⟨s.toArray⟩, .string ⟨(sdocF s kId k (t + 10)).toArray⟩, .bool false, .string ⟨#[116, 104, 105, 114, 100]⟩, .string ⟨s.toArray⟩, .string ⟨(sdocF s kId k (t + 10)).toArray⟩, .bool false] 36)) := ((Kp.refl _ _).alloc _).alloc _
    have r7 : ((w6.alloc (.cells #[.int .i64 8, .string ⟨s.toArray⟩] 32)).alloc (.cells #[.string ⟨#[102, 105, 114, 115, 116]⟩, .string ⟨s.toArray⟩, .string ⟨(sdocF s kId k (t + 10)).toArray⟩, .bool false, .string ⟨#[116, 104, 105, 114, 100]⟩, .string ⟨s.toArray⟩, .string ⟨(sdocF s kId k (t + 10)).toArray⟩, .bool false] 36)).heap[w6.heap.size]? = some (.cells #[.int .i64 8, .string ⟨s.toArray⟩] 32) := (Below.heap_alloc _ _ _ (by rw [World.size_alloc]; exact Nat.lt_succ_self _)).trans (heap_alloc_new w6 _)
    have g7 : ((w6.alloc (.cells #[.int .i64 8, .string ⟨s.toArray⟩] 32)).alloc (.cells #[.string ⟨#[102, 105, 114, 115, 116]⟩, .string ⟨s.toArray⟩, .string ⟨(sdocF s kId k (t + 10)).toArray⟩, .bool false, .string ⟨#[116, 104, 105, 114, 100]⟩, .string ⟨s.toArray⟩, .string ⟨(sdocF s kId k (t + 10)).toArray⟩, .bool false] 36)).heap[w6.heap.size + 1]? = some (.cells #[.string ⟨#[102, 105, 114, 115, 116]⟩, .string ⟨s.toArray⟩, .string ⟨(sdocF s kId k (t + 10)).toArray⟩, .bool false, .string ⟨#[116, 104, 105, 114, 100]⟩, .string ⟨s.toArray⟩, .string ⟨(sdocF s kId k (t + 10)).toArray⟩, .bool false] 36) := by
      have := heap_alloc_new (w6.alloc (.cells #[.int .i64 8, .string ⟨s.toArray⟩] 32)) (.cells #[.string ⟨#[102, 105, 114, 115, 116]⟩, .string ⟨s.toArray⟩, .string ⟨(sdocF s kId k (t + 10)).toArray⟩, .bool false, .string ⟨#[116, 104, 105, 114, 100]⟩, .string ⟨s.toArray⟩, .string ⟨(sdocF s kId k (t + 10)).toArray⟩, .bool false] 36)
      rwa [World.size_alloc] at this
    obtain ⟨w7, hw7⟩ : ∃ w7, w7 = (w6.alloc (.cells #[.int .i64 8, .string ⟨s.toArray⟩] 32)).alloc (.cells #[.string ⟨#[102, 105, 114, 115, 116]⟩, .string ⟨s.toArray⟩, .string ⟨(sdocF s kId k (t + 10)).toArray⟩, .bool false, .string ⟨#[116, 104, 105, 114, 100]⟩, .string ⟨s.toArray⟩, .string ⟨(sdocF s kId k (t + 10)).toArray⟩, .bool false] 36) := ⟨_, rfl⟩
    have h7 : Hd W w7 F6 nb (fS1 s t) [sdocF s kId k (t + 10), sevF s kId k [120] t] := hw7 ▸ H6.kp K7
    have n7 : (¬ F6 w6.heap.size ∧ ¬ F6 (w6.heap.size + 1)) ∧ W.heap.size ≤ w6.heap.size := ⟨⟨fun h => Nat.lt_irrefl _ (pn_lt H6.pn _ h), fun h => by have := pn_lt H6.pn _ h; omega⟩, H6.bel.size⟩
    rw [← hw7] at r7 g7
    have HV2 : Hid (Calls Tryz.prog 11 #[.pointer (some ⟨nb, 0, none⟩), .string ⟨(sevF s kId k [120] t).toArray⟩, .int .i64 (t + 49), .slice (some ⟨w6.heap.size + 1, 0, none⟩) 2 2] w7 fun e w' => e = .returned (.tuple #[.agg #[.int .i64 8, .string ⟨s.toArray⟩], .int .i64 0]) ∧ ∃ F', Kp F6 w7 w' ∧ Hd W w' F' nb (fS1 s t) [sdocF s kId k (t + 10), sevF s kId k [120] t] ∧ (∀ k, F' k → F6 k ∨ w7.heap.size ≤ k)) := by
      refine hide (h7.verify hN (by simp) [⟨whoF s 1, s, sdocF s kId k (t + 10), false⟩, ⟨sTh, s, sdocF s kId k (t + 10), false⟩] (some ⟨w6.heap.size + 1, 0, none⟩) 2 (rpi_blk g7) (fun _ g o e => ?_) (by simp) (by simp) (sevF s kId k [120] t) (by simp) (t + 49) (by omega) (by omega) _ _ _ (HF2.out _))
      injection e with e
      injection e with e1 e2
      subst e1
      exact ⟨n7.1.2, lt_heap g7⟩
    rw [hw7] at HV2
    have H7 := hide (And.intro hw7 (And.intro h7 (And.intro n7 (And.intro r7 g7))))
    clear H6 K7 r7 g7 hw7 h7 n7 HV1 c0 c1 c2
    go_wp2_with fail
    refine HV2.out.mono ?_
    rintro e w8 ⟨rfl, F8, K8, h8, hF8⟩
    rw [← H7.out.1] at K8 hF8
    have r8 := (K8.block _ (lt_heap H7.out.2.2.2.1) H7.out.2.2.1.1.1).trans H7.out.2.2.2.1
    have g8 := (K8.block _ (lt_heap H7.out.2.2.2.2) H7.out.2.2.1.1.2).trans H7.out.2.2.2.2
    have n8 : (¬ F8 w6.heap.size ∧ ¬ F8 (w6.heap.size + 1)) ∧ W.heap.size ≤ w6.heap.size := by
      refine ⟨⟨fun h => ?_, fun h => ?_⟩, H7.out.2.2.1.2⟩
      · rcases hF8 _ h with h | h
        · exact H7.out.2.2.1.1.1 h
        · exact Nat.lt_irrefl _ (Nat.lt_of_lt_of_le (lt_heap H7.out.2.2.2.1) h)
      · rcases hF8 _ h with h | h
        · exact H7.out.2.2.1.1.2 h
        · exact Nat.lt_irrefl _ (Nat.lt_of_lt_of_le (lt_heap H7.out.2.2.2.2) h)
    obtain ⟨⟨q0, q1⟩, z0, z1⟩ := pair_facts r8
    have r9 := set_pair (p := .int .i64 8) (q := .string ⟨s.toArray⟩) r8
    have g9 : ((w8.setCell ⟨w6.heap.size, 0, none⟩ (.int .i64 8)).setCell ⟨w6.heap.size, 1, none⟩ (.string ⟨s.toArray⟩)).heap[w6.heap.size + 1]? = some (.cells #[.string ⟨#[102, 105, 114, 115, 116]⟩, .string ⟨s.toArray⟩, .string ⟨(sdocF s kId k (t + 10)).toArray⟩, .bool false, .string ⟨#[116, 104, 105, 114, 100]⟩, .string ⟨s.toArray⟩, .string ⟨(sdocF s kId k (t + 10)).toArray⟩, .bool false] 36) := by
      rw [heap_set_other (by exact Nat.succ_ne_self _), heap_set_other (by exact Nat.succ_ne_self _)]
      exact g8
    have h9 := h8.set2 n8.1.1 n8.2 (.int .i64 8) (.string ⟨s.toArray⟩)
    obtain ⟨w9, hw9⟩ : ∃ w9, w9 = (w8.setCell ⟨w6.heap.size, 0, none⟩ (.int .i64 8)).setCell ⟨w6.heap.size, 1, none⟩ (.string ⟨s.toArray⟩) := ⟨_, rfl⟩
    rw [← hw9] at r9 g9 h9
    have HV3 : Hid (Calls Tryz.prog 11 #[.pointer (some ⟨nb, 0, none⟩), .string ⟨(sevF s kId k [120] t).toArray⟩, .int .i64 (t + 50), .slice (some ⟨w6.heap.size + 1, 0, none⟩) 2 2] w9 fun e w' => e = .returned (.tuple #[.agg #[.int .i64 0, .string ⟨#[]⟩], .int .i64 2]) ∧ ∃ F', Kp F8 w9 w' ∧ Hd W w' F' nb (fS2 s k (sdocF s kId k (t + 10)) t) [sdocF s kId k (t + 10), sevF s kId k [120] t] ∧ (∀ k, F' k → F8 k ∨ w9.heap.size ≤ k)) := by
      refine hide (h9.verify hN (by simp) [⟨whoF s 1, s, sdocF s kId k (t + 10), false⟩, ⟨sTh, s, sdocF s kId k (t + 10), false⟩] (some ⟨w6.heap.size + 1, 0, none⟩) 2 (rpi_blk g9) (fun _ g o e => ?_) (by simp) (by simp) (sevF s kId k [120] t) (by simp) (t + 50) (by omega) (by omega) _ _ _ HF3.out)
      injection e with e
      injection e with e1 e2
      subst e1
      exact ⟨n8.1.2, lt_heap g9⟩
    rw [hw9] at HV3
    obtain ⟨⟨y0, y1⟩, _⟩ := pair_facts (hw9 ▸ r9)
    have H9 := hide (And.intro hw9 (And.intro h9 (And.intro n8 (And.intro r9 g9))))
    clear K8 hF8 r8 g8 n8 r9 g9 h9 h8 hw9 H7 HV2 HF2 HF3
    go_wp2_with fail
    refine HV3.out.mono ?_
    rintro e w10 ⟨rfl, F10, K10, h10, hF10⟩
    rw [← H9.out.1] at K10 hF10
    have r10 := (K10.block _ (lt_heap H9.out.2.2.2.1) H9.out.2.2.1.1.1).trans H9.out.2.2.2.1
    have n10 : ¬ F10 w6.heap.size := fun h => by
      rcases hF10 _ h with h | h
      · exact H9.out.2.2.1.1.1 h
      · exact Nat.lt_irrefl _ (Nat.lt_of_lt_of_le (lt_heap H9.out.2.2.2.1) h)
    clear q0 q1 z0 z1 y0 y1
    obtain ⟨⟨q0, q1⟩, z0, z1⟩ := pair_facts r10
    have r11 := set_pair (p := .int .i64 0) (q := .string ⟨#[]⟩) r10
    have h11 := h10.set2 n10 H9.out.2.2.1.2 (.int .i64 0) (.string ⟨#[]⟩)
    obtain ⟨⟨y0, y1⟩, _⟩ := pair_facts r11
    have HAn := hide (answer_c W hN _ h11.bel F10 h11.low nb _ _ _ _ _ _ h11.pn s (by have := ns.few; omega) (by decide) (by decide) (by decide))
    have H11 := hide (And.intro h11 (And.intro r11 (And.intro n10 H9.out.2.2.1.2)))
    obtain ⟨A, m, hA1, hA2, hA3'⟩ := HAN.out
    have HA1 := hide hA1
    have HA2 := hide hA2
    have HA3 := hide hA3'
    clear K10 hF10 r10 n10 r11 h11 h10 H9 HV3 hA1 hA2 hA3' HAN
    go_wp2_with fail
    refine HAn.out.mono ?_
    rintro e w12 ⟨rfl, K12⟩
    rw [HA1.out]
    have h12 := H11.out.1.kp K12
    have r12 := (K12.block _ (lt_heap H11.out.2.1) (by simp)).trans H11.out.2.1
    have H12 := hide (And.intro h12 (And.intro r12 H11.out.2.2))
    clear h12 r12 K12 HAn H11 q0 q1 z0 z1 y0 y1
    go_wp2_with fail
    refine (message_c W hN.n2.ng _ w12 H12.out.1.bel).mono ?_
    rintro e w13 ⟨rfl, K13⟩
    rw [show (ByteArray.mk A.toArray).data.toList = A by simp, HA2.out]
    go_wp2_with fail
    refine (message_c W hN.n2.ng _ w13 (below_kp H12.out.1.bel K13)).mono ?_
    rintro e w14 ⟨rfl, K14⟩
    rw [show (ByteArray.mk (sdocF s kId k (t + 10)).toArray).data.toList = sdocF s kId k (t + 10) by simp, HA3.out]
    have K := K13.trans K14
    have HV4 := hide ((H12.out.1.kp K).verify hN (by simp) [] none 0 (fun j r h => by simp at h) (by simp) (by simp) (by simp) (sevF s kId k [120] t) (by simp) t (by omega) (by omega) _ _ _ HF4.out)
    have r14 := (K.block _ (lt_heap H12.out.2.1) (by simp)).trans H12.out.2.1
    have H14 := hide (And.intro r14 H12.out.2.2)
    clear K K13 K14 r14 H12 HF4 HA1 HA2 HA3
    go_wp2_with fail
    refine HV4.out.mono ?_
    rintro e w15 ⟨rfl, F15, K15, h15, hF15⟩
    have r15 := (K15.block _ (lt_heap H14.out.1) H14.out.2.1).trans H14.out.1
    obtain ⟨⟨q0, q1⟩, z0, z1⟩ := pair_facts r15
    have HB := hide (Below.setCell2 h15.bel H14.out.2.2 (.int .i64 0) (.string ⟨#[]⟩))
    obtain ⟨⟨y0, y1⟩, _⟩ := pair_facts (set_pair (p := .int .i64 0) (q := .string ⟨#[]⟩) r15)
    clear K15 h15 hF15 r15 H14 HV4
    go_wp2_with fail
    go_ret
    exact ⟨rfl, kp_below HB.out⟩
  · go_wp2_with fail
    refine HV1.out.mono ?_
    rintro e w6 ⟨rfl, F6, H6⟩
    have K7 : Kp (fun _ => False) w6 ((w6.alloc (.cells #[.int .i64 8, .string ⟨s.toArray⟩] 32)).alloc (.cells #[.string ⟨#[115, 101, 99, 111, 110, 100]⟩, .string ⟨s.toArray⟩, .string ⟨(sdocF s kId k (t + 10)).toArray⟩, .bool false, .string ⟨#[116, 104, 105, 114, 100]⟩, .string ⟨s.toArray⟩, .string ⟨(sdocF s kId k (t + 10)).toArray⟩, .bool false] 36)) := ((Kp.refl _ _).alloc _).alloc _
    have r7 : ((w6.alloc (.cells #[.int .i64 8, .string ⟨s.toArray⟩] 32)).alloc (.cells #[.string ⟨#[115, 101, 99, 111, 110, 100]⟩, .string ⟨s.toArray⟩, .string ⟨(sdocF s kId k (t + 10)).toArray⟩, .bool false, .string ⟨#[116, 104, 105, 114, 100]⟩, .string ⟨s.toArray⟩, .string ⟨(sdocF s kId k (t + 10)).toArray⟩, .bool false] 36)).heap[w6.heap.size]? = some (.cells #[.int .i64 8, .string ⟨s.toArray⟩] 32) := (Below.heap_alloc _ _ _ (by rw [World.size_alloc]; exact Nat.lt_succ_self _)).trans (heap_alloc_new w6 _)
    have g7 : ((w6.alloc (.cells #[.int .i64 8, .string ⟨s.toArray⟩] 32)).alloc (.cells #[.string ⟨#[115, 101, 99, 111, 110, 100]⟩, .string ⟨s.toArray⟩, .string ⟨(sdocF s kId k (t + 10)).toArray⟩, .bool false, .string ⟨#[116, 104, 105, 114, 100]⟩, .string ⟨s.toArray⟩, .string ⟨(sdocF s kId k (t + 10)).toArray⟩, .bool false] 36)).heap[w6.heap.size + 1]? = some (.cells #[.string ⟨#[115, 101, 99, 111, 110, 100]⟩, .string ⟨s.toArray⟩, .string ⟨(sdocF s kId k (t + 10)).toArray⟩, .bool false, .string ⟨#[116, 104, 105, 114, 100]⟩, .string ⟨s.toArray⟩, .string ⟨(sdocF s kId k (t + 10)).toArray⟩, .bool false] 36) := by
      have := heap_alloc_new (w6.alloc (.cells #[.int .i64 8, .string ⟨s.toArray⟩] 32)) (.cells #[.string ⟨#[115, 101, 99, 111, 110, 100]⟩, .string ⟨s.toArray⟩, .string ⟨(sdocF s kId k (t + 10)).toArray⟩, .bool false, .string ⟨#[116, 104, 105, 114, 100]⟩, .string ⟨s.toArray⟩, .string ⟨(sdocF s kId k (t + 10)).toArray⟩, .bool false] 36)
      rwa [World.size_alloc] at this
    obtain ⟨w7, hw7⟩ : ∃ w7, w7 = (w6.alloc (.cells #[.int .i64 8, .string ⟨s.toArray⟩] 32)).alloc (.cells #[.string ⟨#[115, 101, 99, 111, 110, 100]⟩, .string ⟨s.toArray⟩, .string ⟨(sdocF s kId k (t + 10)).toArray⟩, .bool false, .string ⟨#[116, 104, 105, 114, 100]⟩, .string ⟨s.toArray⟩, .string ⟨(sdocF s kId k (t + 10)).toArray⟩, .bool false] 36) := ⟨_, rfl⟩
    have h7 : Hd W w7 F6 nb (fS1 s t) [sdocF s kId k (t + 10), sevF s kId k [120] t] := hw7 ▸ H6.kp K7
    have n7 : (¬ F6 w6.heap.size ∧ ¬ F6 (w6.heap.size + 1)) ∧ W.heap.size ≤ w6.heap.size := ⟨⟨fun h => Nat.lt_irrefl _ (pn_lt H6.pn _ h), fun h => by have := pn_lt H6.pn _ h; omega⟩, H6.bel.size⟩
    rw [← hw7] at r7 g7
    have HV2 : Hid (Calls Tryz.prog 11 #[.pointer (some ⟨nb, 0, none⟩), .string ⟨(sevF s kId k [120] t).toArray⟩, .int .i64 (t + 49), .slice (some ⟨w6.heap.size + 1, 0, none⟩) 2 2] w7 fun e w' => e = .returned (.tuple #[.agg #[.int .i64 8, .string ⟨s.toArray⟩], .int .i64 0]) ∧ ∃ F', Kp F6 w7 w' ∧ Hd W w' F' nb (fS1 s t) [sdocF s kId k (t + 10), sevF s kId k [120] t] ∧ (∀ k, F' k → F6 k ∨ w7.heap.size ≤ k)) := by
      refine hide (h7.verify hN (by simp) [⟨whoF s 2, s, sdocF s kId k (t + 10), false⟩, ⟨sTh, s, sdocF s kId k (t + 10), false⟩] (some ⟨w6.heap.size + 1, 0, none⟩) 2 (rpi_blk g7) (fun _ g o e => ?_) (by simp) (by simp) (sevF s kId k [120] t) (by simp) (t + 49) (by omega) (by omega) _ _ _ (HF2.out _))
      injection e with e
      injection e with e1 e2
      subst e1
      exact ⟨n7.1.2, lt_heap g7⟩
    rw [hw7] at HV2
    have H7 := hide (And.intro hw7 (And.intro h7 (And.intro n7 (And.intro r7 g7))))
    clear H6 K7 r7 g7 hw7 h7 n7 HV1 c0 c1 c2
    go_wp2_with fail
    refine HV2.out.mono ?_
    rintro e w8 ⟨rfl, F8, K8, h8, hF8⟩
    rw [← H7.out.1] at K8 hF8
    have r8 := (K8.block _ (lt_heap H7.out.2.2.2.1) H7.out.2.2.1.1.1).trans H7.out.2.2.2.1
    have g8 := (K8.block _ (lt_heap H7.out.2.2.2.2) H7.out.2.2.1.1.2).trans H7.out.2.2.2.2
    have n8 : (¬ F8 w6.heap.size ∧ ¬ F8 (w6.heap.size + 1)) ∧ W.heap.size ≤ w6.heap.size := by
      refine ⟨⟨fun h => ?_, fun h => ?_⟩, H7.out.2.2.1.2⟩
      · rcases hF8 _ h with h | h
        · exact H7.out.2.2.1.1.1 h
        · exact Nat.lt_irrefl _ (Nat.lt_of_lt_of_le (lt_heap H7.out.2.2.2.1) h)
      · rcases hF8 _ h with h | h
        · exact H7.out.2.2.1.1.2 h
        · exact Nat.lt_irrefl _ (Nat.lt_of_lt_of_le (lt_heap H7.out.2.2.2.2) h)
    obtain ⟨⟨q0, q1⟩, z0, z1⟩ := pair_facts r8
    have r9 := set_pair (p := .int .i64 8) (q := .string ⟨s.toArray⟩) r8
    have g9 : ((w8.setCell ⟨w6.heap.size, 0, none⟩ (.int .i64 8)).setCell ⟨w6.heap.size, 1, none⟩ (.string ⟨s.toArray⟩)).heap[w6.heap.size + 1]? = some (.cells #[.string ⟨#[115, 101, 99, 111, 110, 100]⟩, .string ⟨s.toArray⟩, .string ⟨(sdocF s kId k (t + 10)).toArray⟩, .bool false, .string ⟨#[116, 104, 105, 114, 100]⟩, .string ⟨s.toArray⟩, .string ⟨(sdocF s kId k (t + 10)).toArray⟩, .bool false] 36) := by
      rw [heap_set_other (by exact Nat.succ_ne_self _), heap_set_other (by exact Nat.succ_ne_self _)]
      exact g8
    have h9 := h8.set2 n8.1.1 n8.2 (.int .i64 8) (.string ⟨s.toArray⟩)
    obtain ⟨w9, hw9⟩ : ∃ w9, w9 = (w8.setCell ⟨w6.heap.size, 0, none⟩ (.int .i64 8)).setCell ⟨w6.heap.size, 1, none⟩ (.string ⟨s.toArray⟩) := ⟨_, rfl⟩
    rw [← hw9] at r9 g9 h9
    have HV3 : Hid (Calls Tryz.prog 11 #[.pointer (some ⟨nb, 0, none⟩), .string ⟨(sevF s kId k [120] t).toArray⟩, .int .i64 (t + 50), .slice (some ⟨w6.heap.size + 1, 0, none⟩) 2 2] w9 fun e w' => e = .returned (.tuple #[.agg #[.int .i64 0, .string ⟨#[]⟩], .int .i64 3]) ∧ ∃ F', Kp F8 w9 w' ∧ Hd W w' F' nb (fS2 s k (sdocF s kId k (t + 10)) t) [sdocF s kId k (t + 10), sevF s kId k [120] t] ∧ (∀ k, F' k → F8 k ∨ w9.heap.size ≤ k)) := by
      refine hide (h9.verify hN (by simp) [⟨whoF s 2, s, sdocF s kId k (t + 10), false⟩, ⟨sTh, s, sdocF s kId k (t + 10), false⟩] (some ⟨w6.heap.size + 1, 0, none⟩) 2 (rpi_blk g9) (fun _ g o e => ?_) (by simp) (by simp) (sevF s kId k [120] t) (by simp) (t + 50) (by omega) (by omega) _ _ _ HF3.out)
      injection e with e
      injection e with e1 e2
      subst e1
      exact ⟨n8.1.2, lt_heap g9⟩
    rw [hw9] at HV3
    obtain ⟨⟨y0, y1⟩, _⟩ := pair_facts (hw9 ▸ r9)
    have H9 := hide (And.intro hw9 (And.intro h9 (And.intro n8 (And.intro r9 g9))))
    clear K8 hF8 r8 g8 n8 r9 g9 h9 h8 hw9 H7 HV2 HF2 HF3
    go_wp2_with fail
    refine HV3.out.mono ?_
    rintro e w10 ⟨rfl, F10, K10, h10, hF10⟩
    rw [← H9.out.1] at K10 hF10
    have r10 := (K10.block _ (lt_heap H9.out.2.2.2.1) H9.out.2.2.1.1.1).trans H9.out.2.2.2.1
    have n10 : ¬ F10 w6.heap.size := fun h => by
      rcases hF10 _ h with h | h
      · exact H9.out.2.2.1.1.1 h
      · exact Nat.lt_irrefl _ (Nat.lt_of_lt_of_le (lt_heap H9.out.2.2.2.1) h)
    clear q0 q1 z0 z1 y0 y1
    obtain ⟨⟨q0, q1⟩, z0, z1⟩ := pair_facts r10
    have r11 := set_pair (p := .int .i64 0) (q := .string ⟨#[]⟩) r10
    have h11 := h10.set2 n10 H9.out.2.2.1.2 (.int .i64 0) (.string ⟨#[]⟩)
    obtain ⟨⟨y0, y1⟩, _⟩ := pair_facts r11
    have HAn := hide (answer_c W hN _ h11.bel F10 h11.low nb _ _ _ _ _ _ h11.pn s (by have := ns.few; omega) (by decide) (by decide) (by decide))
    have H11 := hide (And.intro h11 (And.intro r11 (And.intro n10 H9.out.2.2.1.2)))
    obtain ⟨A, m, hA1, hA2, hA3'⟩ := HAN.out
    have HA1 := hide hA1
    have HA2 := hide hA2
    have HA3 := hide hA3'
    clear K10 hF10 r10 n10 r11 h11 h10 H9 HV3 hA1 hA2 hA3' HAN
    go_wp2_with fail
    refine HAn.out.mono ?_
    rintro e w12 ⟨rfl, K12⟩
    rw [HA1.out]
    have h12 := H11.out.1.kp K12
    have r12 := (K12.block _ (lt_heap H11.out.2.1) (by simp)).trans H11.out.2.1
    have H12 := hide (And.intro h12 (And.intro r12 H11.out.2.2))
    clear h12 r12 K12 HAn H11 q0 q1 z0 z1 y0 y1
    go_wp2_with fail
    refine (message_c W hN.n2.ng _ w12 H12.out.1.bel).mono ?_
    rintro e w13 ⟨rfl, K13⟩
    rw [show (ByteArray.mk A.toArray).data.toList = A by simp, HA2.out]
    go_wp2_with fail
    refine (message_c W hN.n2.ng _ w13 (below_kp H12.out.1.bel K13)).mono ?_
    rintro e w14 ⟨rfl, K14⟩
    rw [show (ByteArray.mk (sdocF s kId k (t + 10)).toArray).data.toList = sdocF s kId k (t + 10) by simp, HA3.out]
    have K := K13.trans K14
    have HV4 := hide ((H12.out.1.kp K).verify hN (by simp) [] none 0 (fun j r h => by simp at h) (by simp) (by simp) (by simp) (sevF s kId k [120] t) (by simp) t (by omega) (by omega) _ _ _ HF4.out)
    have r14 := (K.block _ (lt_heap H12.out.2.1) (by simp)).trans H12.out.2.1
    have H14 := hide (And.intro r14 H12.out.2.2)
    clear K K13 K14 r14 H12 HF4 HA1 HA2 HA3
    go_wp2_with fail
    refine HV4.out.mono ?_
    rintro e w15 ⟨rfl, F15, K15, h15, hF15⟩
    have r15 := (K15.block _ (lt_heap H14.out.1) H14.out.2.1).trans H14.out.1
    obtain ⟨⟨q0, q1⟩, z0, z1⟩ := pair_facts r15
    have HB := hide (Below.setCell2 h15.bel H14.out.2.2 (.int .i64 0) (.string ⟨#[]⟩))
    obtain ⟨⟨y0, y1⟩, _⟩ := pair_facts (set_pair (p := .int .i64 0) (q := .string ⟨#[]⟩) r15)
    clear K15 h15 hF15 r15 H14 HV4
    go_wp2_with fail
    go_ret
    exact ⟨rfl, kp_below HB.out⟩
  · go_wp2_with fail
    refine HV1.out.mono ?_
    rintro e w6 ⟨rfl, F6, H6⟩
    have K7 : Kp (fun _ => False) w6 ((w6.alloc (.cells #[.int .i64 8, .string ⟨s.toArray⟩] 32)).alloc (.cells #[.string ⟨#[116, 104, 105, 114, 100]⟩, .string ⟨s.toArray⟩, .string ⟨(sdocF s kId k (t + 10)).toArray⟩, .bool false, .string ⟨#[116, 104, 105, 114, 100]⟩, .string ⟨s.toArray⟩, .string ⟨(sdocF s kId k (t + 10)).toArray⟩, .bool false] 36)) := ((Kp.refl _ _).alloc _).alloc _
    have r7 : ((w6.alloc (.cells #[.int .i64 8, .string ⟨s.toArray⟩] 32)).alloc (.cells #[.string ⟨#[116, 104, 105, 114, 100]⟩, .string ⟨s.toArray⟩, .string ⟨(sdocF s kId k (t + 10)).toArray⟩, .bool false, .string ⟨#[116, 104, 105, 114, 100]⟩, .string ⟨s.toArray⟩, .string ⟨(sdocF s kId k (t + 10)).toArray⟩, .bool false] 36)).heap[w6.heap.size]? = some (.cells #[.int .i64 8, .string ⟨s.toArray⟩] 32) := (Below.heap_alloc _ _ _ (by rw [World.size_alloc]; exact Nat.lt_succ_self _)).trans (heap_alloc_new w6 _)
    have g7 : ((w6.alloc (.cells #[.int .i64 8, .string ⟨s.toArray⟩] 32)).alloc (.cells #[.string ⟨#[116, 104, 105, 114, 100]⟩, .string ⟨s.toArray⟩, .string ⟨(sdocF s kId k (t + 10)).toArray⟩, .bool false, .string ⟨#[116, 104, 105, 114, 100]⟩, .string ⟨s.toArray⟩, .string ⟨(sdocF s kId k (t + 10)).toArray⟩, .bool false] 36)).heap[w6.heap.size + 1]? = some (.cells #[.string ⟨#[116, 104, 105, 114, 100]⟩, .string ⟨s.toArray⟩, .string ⟨(sdocF s kId k (t + 10)).toArray⟩, .bool false, .string ⟨#[116, 104, 105, 114, 100]⟩, .string ⟨s.toArray⟩, .string ⟨(sdocF s kId k (t + 10)).toArray⟩, .bool false] 36) := by
      have := heap_alloc_new (w6.alloc (.cells #[.int .i64 8, .string ⟨s.toArray⟩] 32)) (.cells #[.string ⟨#[116, 104, 105, 114, 100]⟩, .string ⟨s.toArray⟩, .string ⟨(sdocF s kId k (t + 10)).toArray⟩, .bool false, .string ⟨#[116, 104, 105, 114, 100]⟩, .string ⟨s.toArray⟩, .string ⟨(sdocF s kId k (t + 10)).toArray⟩, .bool false] 36)
      rwa [World.size_alloc] at this
    obtain ⟨w7, hw7⟩ : ∃ w7, w7 = (w6.alloc (.cells #[.int .i64 8, .string ⟨s.toArray⟩] 32)).alloc (.cells #[.string ⟨#[116, 104, 105, 114, 100]⟩, .string ⟨s.toArray⟩, .string ⟨(sdocF s kId k (t + 10)).toArray⟩, .bool false, .string ⟨#[116, 104, 105, 114, 100]⟩, .string ⟨s.toArray⟩, .string ⟨(sdocF s kId k (t + 10)).toArray⟩, .bool false] 36) := ⟨_, rfl⟩
    have h7 : Hd W w7 F6 nb (fS1 s t) [sdocF s kId k (t + 10), sevF s kId k [120] t] := hw7 ▸ H6.kp K7
    have n7 : (¬ F6 w6.heap.size ∧ ¬ F6 (w6.heap.size + 1)) ∧ W.heap.size ≤ w6.heap.size := ⟨⟨fun h => Nat.lt_irrefl _ (pn_lt H6.pn _ h), fun h => by have := pn_lt H6.pn _ h; omega⟩, H6.bel.size⟩
    rw [← hw7] at r7 g7
    have HV2 : Hid (Calls Tryz.prog 11 #[.pointer (some ⟨nb, 0, none⟩), .string ⟨(sevF s kId k [120] t).toArray⟩, .int .i64 (t + 49), .slice (some ⟨w6.heap.size + 1, 0, none⟩) 2 2] w7 fun e w' => e = .returned (.tuple #[.agg #[.int .i64 8, .string ⟨s.toArray⟩], .int .i64 0]) ∧ ∃ F', Kp F6 w7 w' ∧ Hd W w' F' nb (fS1 s t) [sdocF s kId k (t + 10), sevF s kId k [120] t] ∧ (∀ k, F' k → F6 k ∨ w7.heap.size ≤ k)) := by
      refine hide (h7.verify hN (by simp) [⟨whoF s 3, s, sdocF s kId k (t + 10), false⟩, ⟨sTh, s, sdocF s kId k (t + 10), false⟩] (some ⟨w6.heap.size + 1, 0, none⟩) 2 (rpi_blk g7) (fun _ g o e => ?_) (by simp) (by simp) (sevF s kId k [120] t) (by simp) (t + 49) (by omega) (by omega) _ _ _ (HF2.out _))
      injection e with e
      injection e with e1 e2
      subst e1
      exact ⟨n7.1.2, lt_heap g7⟩
    rw [hw7] at HV2
    have H7 := hide (And.intro hw7 (And.intro h7 (And.intro n7 (And.intro r7 g7))))
    clear H6 K7 r7 g7 hw7 h7 n7 HV1 c0 c1 c2
    go_wp2_with fail
    refine HV2.out.mono ?_
    rintro e w8 ⟨rfl, F8, K8, h8, hF8⟩
    rw [← H7.out.1] at K8 hF8
    have r8 := (K8.block _ (lt_heap H7.out.2.2.2.1) H7.out.2.2.1.1.1).trans H7.out.2.2.2.1
    have g8 := (K8.block _ (lt_heap H7.out.2.2.2.2) H7.out.2.2.1.1.2).trans H7.out.2.2.2.2
    have n8 : (¬ F8 w6.heap.size ∧ ¬ F8 (w6.heap.size + 1)) ∧ W.heap.size ≤ w6.heap.size := by
      refine ⟨⟨fun h => ?_, fun h => ?_⟩, H7.out.2.2.1.2⟩
      · rcases hF8 _ h with h | h
        · exact H7.out.2.2.1.1.1 h
        · exact Nat.lt_irrefl _ (Nat.lt_of_lt_of_le (lt_heap H7.out.2.2.2.1) h)
      · rcases hF8 _ h with h | h
        · exact H7.out.2.2.1.1.2 h
        · exact Nat.lt_irrefl _ (Nat.lt_of_lt_of_le (lt_heap H7.out.2.2.2.2) h)
    obtain ⟨⟨q0, q1⟩, z0, z1⟩ := pair_facts r8
    have r9 := set_pair (p := .int .i64 8) (q := .string ⟨s.toArray⟩) r8
    have g9 : ((w8.setCell ⟨w6.heap.size, 0, none⟩ (.int .i64 8)).setCell ⟨w6.heap.size, 1, none⟩ (.string ⟨s.toArray⟩)).heap[w6.heap.size + 1]? = some (.cells #[.string ⟨#[116, 104, 105, 114, 100]⟩, .string ⟨s.toArray⟩, .string ⟨(sdocF s kId k (t + 10)).toArray⟩, .bool false, .string ⟨#[116, 104, 105, 114, 100]⟩, .string ⟨s.toArray⟩, .string ⟨(sdocF s kId k (t + 10)).toArray⟩, .bool false] 36) := by
      rw [heap_set_other (by exact Nat.succ_ne_self _), heap_set_other (by exact Nat.succ_ne_self _)]
      exact g8
    have h9 := h8.set2 n8.1.1 n8.2 (.int .i64 8) (.string ⟨s.toArray⟩)
    obtain ⟨w9, hw9⟩ : ∃ w9, w9 = (w8.setCell ⟨w6.heap.size, 0, none⟩ (.int .i64 8)).setCell ⟨w6.heap.size, 1, none⟩ (.string ⟨s.toArray⟩) := ⟨_, rfl⟩
    rw [← hw9] at r9 g9 h9
    have HV3 : Hid (Calls Tryz.prog 11 #[.pointer (some ⟨nb, 0, none⟩), .string ⟨(sevF s kId k [120] t).toArray⟩, .int .i64 (t + 50), .slice (some ⟨w6.heap.size + 1, 0, none⟩) 2 2] w9 fun e w' => e = .returned (.tuple #[.agg #[.int .i64 0, .string ⟨#[]⟩], .int .i64 4]) ∧ ∃ F', Kp F8 w9 w' ∧ Hd W w' F' nb (fS2 s k (sdocF s kId k (t + 10)) t) [sdocF s kId k (t + 10), sevF s kId k [120] t] ∧ (∀ k, F' k → F8 k ∨ w9.heap.size ≤ k)) := by
      refine hide (h9.verify hN (by simp) [⟨whoF s 3, s, sdocF s kId k (t + 10), false⟩, ⟨sTh, s, sdocF s kId k (t + 10), false⟩] (some ⟨w6.heap.size + 1, 0, none⟩) 2 (rpi_blk g9) (fun _ g o e => ?_) (by simp) (by simp) (sevF s kId k [120] t) (by simp) (t + 50) (by omega) (by omega) _ _ _ HF3.out)
      injection e with e
      injection e with e1 e2
      subst e1
      exact ⟨n8.1.2, lt_heap g9⟩
    rw [hw9] at HV3
    obtain ⟨⟨y0, y1⟩, _⟩ := pair_facts (hw9 ▸ r9)
    have H9 := hide (And.intro hw9 (And.intro h9 (And.intro n8 (And.intro r9 g9))))
    clear K8 hF8 r8 g8 n8 r9 g9 h9 h8 hw9 H7 HV2 HF2 HF3
    go_wp2_with fail
    refine HV3.out.mono ?_
    rintro e w10 ⟨rfl, F10, K10, h10, hF10⟩
    rw [← H9.out.1] at K10 hF10
    have r10 := (K10.block _ (lt_heap H9.out.2.2.2.1) H9.out.2.2.1.1.1).trans H9.out.2.2.2.1
    have n10 : ¬ F10 w6.heap.size := fun h => by
      rcases hF10 _ h with h | h
      · exact H9.out.2.2.1.1.1 h
      · exact Nat.lt_irrefl _ (Nat.lt_of_lt_of_le (lt_heap H9.out.2.2.2.1) h)
    clear q0 q1 z0 z1 y0 y1
    obtain ⟨⟨q0, q1⟩, z0, z1⟩ := pair_facts r10
    have r11 := set_pair (p := .int .i64 0) (q := .string ⟨#[]⟩) r10
    have h11 := h10.set2 n10 H9.out.2.2.1.2 (.int .i64 0) (.string ⟨#[]⟩)
    obtain ⟨⟨y0, y1⟩, _⟩ := pair_facts r11
    have HAn := hide (answer_c W hN _ h11.bel F10 h11.low nb _ _ _ _ _ _ h11.pn s (by have := ns.few; omega) (by decide) (by decide) (by decide))
    have H11 := hide (And.intro h11 (And.intro r11 (And.intro n10 H9.out.2.2.1.2)))
    obtain ⟨A, m, hA1, hA2, hA3'⟩ := HAN.out
    have HA1 := hide hA1
    have HA2 := hide hA2
    have HA3 := hide hA3'
    clear K10 hF10 r10 n10 r11 h11 h10 H9 HV3 hA1 hA2 hA3' HAN
    go_wp2_with fail
    refine HAn.out.mono ?_
    rintro e w12 ⟨rfl, K12⟩
    rw [HA1.out]
    have h12 := H11.out.1.kp K12
    have r12 := (K12.block _ (lt_heap H11.out.2.1) (by simp)).trans H11.out.2.1
    have H12 := hide (And.intro h12 (And.intro r12 H11.out.2.2))
    clear h12 r12 K12 HAn H11 q0 q1 z0 z1 y0 y1
    go_wp2_with fail
    refine (message_c W hN.n2.ng _ w12 H12.out.1.bel).mono ?_
    rintro e w13 ⟨rfl, K13⟩
    rw [show (ByteArray.mk A.toArray).data.toList = A by simp, HA2.out]
    go_wp2_with fail
    refine (message_c W hN.n2.ng _ w13 (below_kp H12.out.1.bel K13)).mono ?_
    rintro e w14 ⟨rfl, K14⟩
    rw [show (ByteArray.mk (sdocF s kId k (t + 10)).toArray).data.toList = sdocF s kId k (t + 10) by simp, HA3.out]
    have K := K13.trans K14
    have HV4 := hide ((H12.out.1.kp K).verify hN (by simp) [] none 0 (fun j r h => by simp at h) (by simp) (by simp) (by simp) (sevF s kId k [120] t) (by simp) t (by omega) (by omega) _ _ _ HF4.out)
    have r14 := (K.block _ (lt_heap H12.out.2.1) (by simp)).trans H12.out.2.1
    have H14 := hide (And.intro r14 H12.out.2.2)
    clear K K13 K14 r14 H12 HF4 HA1 HA2 HA3
    go_wp2_with fail
    refine HV4.out.mono ?_
    rintro e w15 ⟨rfl, F15, K15, h15, hF15⟩
    have r15 := (K15.block _ (lt_heap H14.out.1) H14.out.2.1).trans H14.out.1
    obtain ⟨⟨q0, q1⟩, z0, z1⟩ := pair_facts r15
    have HB := hide (Below.setCell2 h15.bel H14.out.2.2 (.int .i64 0) (.string ⟨#[]⟩))
    obtain ⟨⟨y0, y1⟩, _⟩ := pair_facts (set_pair (p := .int .i64 0) (q := .string ⟨#[]⟩) r15)
    clear K15 h15 hF15 r15 H14 HV4
    go_wp2_with fail
    go_ret
    exact ⟨rfl, kp_below HB.out⟩
end Go.Proofs.YtocligpfmfmihabGreatDoor

import Derived.Test.YtocligpfmfmihaaGreatDoorRef11
import Derived.Test.YtocligpfmfmihaaGreatDoorCore
import Derived.Test.YtocligpfmfmihaaGreatDoorCanG
import Derived.Test.YtocligpfmfmihaaGreatDoorRef17G
namespace Go.Proofs.YtocligpfmfmihaaGreatDoor
open Go Go.RowKit Go.Maps

/-- What the reference's Parse tells. -/
def RpR (w : World) (s : ByteArray) (e : Ending) (w' : World) : Prop :=
  Kp (fun _ => False) w w' ∧ ((600 < s.size ∧ e = .returned (.tuple #[.pointer none, .int .i64 1])) ∨ (s.size ≤ 600 ∧ parse s.data.toList = none ∧ e = .returned (.tuple #[.pointer none, .int .i64 2])) ∨
    (s.size ≤ 600 ∧ ∃ j b, parse s.data.toList = some j ∧ e = .returned (.tuple #[.pointer (some ⟨b, 0, none⟩), .int .i64 0]) ∧ RR w' (fun c => w.heap.size ≤ c ∧ c < w'.heap.size) j b))
set_option maxRecDepth 20000 in
theorem rparse_c (W : World) (hG : GL W) (s : ByteArray) (w : World) (ho : Below W.heap.size W w) :
    Calls Tryz.prog 37 #[.string s] w fun e w' => RpR w s e w' := by
  by_cases h6 : 600 < s.size
  · have h6' : (600 : Int) < (s.size : Int) := by omega
    go_enter Tryz.func37, Tryz.ntmps37
    go_wp2
    go_ret2
    exact ⟨Kp.refl _ _, Or.inl ⟨h6, rfl⟩⟩
  · have h6' : ¬ (600 : Int) < (s.size : Int) := by omega
    have K0 : Kp (fun _ => False) w (w.alloc (.cells #[.string s, .int .i64 0, .bool false] 128)) := (Kp.refl _ _).alloc _
    have h0 : Rs W (w.alloc (.cells #[.string s, .int .i64 0, .bool false] 128)) w.heap.size s 0 false :=
      ⟨hG, below_kp ho K0, heap_alloc_new w _, ho.size, by omega, by omega, fun _ => by omega⟩
    go_enter Tryz.func37, Tryz.ntmps37
    go_wp2_with fail
    refine (vlC W 6 0 rfl w.heap.size s 0 _ h0).mono ?_
    rintro e w1 ⟨b, rfl, K1, k1, bad1, h1, hm⟩
    have r0 : rest s 0 = s.data.toList := by simp [rest]
    rw [r0] at hm
    have hpe := parse_eq s.data.toList
    have K : Kp (fun _ => False) w w1 := K0.and K1 (fun i hi e => by omega)
    have hk1 := K1.size
    have HM := hide (And.intro hm hpe)
    clear hm hpe r0
    obtain ⟨c0, c1, c2, f1, f2, hb⟩ := h1.facts
    cases bad1 with
    | true =>
      go_wp2
      go_ret2
      refine ⟨K, Or.inr (Or.inl ⟨by omega, ?_, rfl⟩)⟩
      rw [← HM.out.2, pTop]
      have hm := HM.out.1
      cases hp : pVal true 6 s.data.toList with
      | none => rfl
      | some z => rw [hp] at hm; cases hm.1
    | false =>
      have hgd := h1.good rfl
      have hm := HM.out.1
      have hpe := HM.out.2
      rw [pTop] at hpe
      cases hp : pVal true 6 s.data.toList with
      | none => rw [hp] at hm; cases hm
      | some z =>
        obtain ⟨j, r⟩ := z
        rw [hp] at hm hpe
        obtain ⟨_, hr, ht⟩ := hm
        have hl := rest_len s k1
        rw [hr] at hl
        by_cases hsk : sk r = []
        · have hk : k1 = s.size := by rw [hsk] at hl; simp at hl; omega
          have hne : ((k1 : Int) != (s.size : Int)) = false := by simp; omega
          have X := hide (And.intro hpe (And.intro ht hsk))
          clear hp hpe ht hr hl hk hsk HM
          go_wp2
          go_ret2
          refine ⟨K, Or.inr (Or.inr ⟨by omega, j, b, ?_, rfl, ?_⟩)⟩
          · have := X.out.1
            rw [← this]
            simp [X.out.2.2]
          · exact X.out.2.1.frame (fun _ _ => rfl) (fun c hc => ⟨by have := hc.1; simp at this; omega, hc.2⟩)
        · have hk : k1 ≠ s.size := by
            intro e
            apply hsk
            exact List.eq_nil_of_length_eq_zero (hl.trans (by omega))
          have hne : ((k1 : Int) != (s.size : Int)) = true := by simp; omega
          have X := hide (And.intro hpe hsk)
          clear hp hpe ht hr hl hsk HM
          go_wp2
          go_ret2
          refine ⟨K, Or.inr (Or.inl ⟨by omega, ?_, rfl⟩)⟩
          rw [← X.out.1]
          simp [X.out.2]
end Go.Proofs.YtocligpfmfmihaaGreatDoor
namespace Go.Proofs.YtocligpfmfmihaaGreatDoor
open Go.Lib

theorem pVal_up (u : Bool) : ∀ (d : Nat) (s : Bs) (j : J) (r : Bs), pVal u d s = some (j, r) → pVal u (d + 1) s = some (j, r)
  | 0, s, j, r, h => by
    unfold pVal at h ⊢
    split at h
    · simp at h
    · rename_i c t hs
      split at h
      · simp at h
      · rename_i hc
        rw [if_neg (fun g => hc (.inl g)), if_neg (fun g => hc (.inr g))]
        exact h
  | d + 1, s, j, r, h => by
    rw [pVal] at h ⊢
    split at h
    · simp at h
    · rename_i c t hs
      split at h
      · rename_i hc
        rw [if_pos hc]
        simp only [Option.map_eq_some_iff, Prod.mk.injEq] at h
        obtain ⟨⟨x, z⟩, h2, rfl, rfl⟩ := h
        rw [pSev_sub (fun _ : List (Bs × J) => True) (p' := pMem u (pVal u (d + 1))) ?_ 125 h2 trivial]
        · rfl
        · intro a s b r hh _
          obtain ⟨k, y, rfl, h1, q, h3, h4⟩ := pMem_nod hh
          exact ⟨trivial, h4 _ (pVal_up u d _ _ _ h3)⟩
      · rename_i hc
        rw [if_neg hc]
        split at h
        · rename_i hc2
          rw [if_pos hc2]
          simp only [Option.map_eq_some_iff, Prod.mk.injEq] at h
          obtain ⟨⟨x, z⟩, h2, rfl, rfl⟩ := h
          rw [pSev_sub (fun _ : List J => True) (p' := pEl (pVal u (d + 1))) ?_ 93 h2 trivial]
          · rfl
          · intro a s b r hh _
            unfold pEl at hh
            simp only [Option.map_eq_some_iff, Prod.mk.injEq] at hh
            obtain ⟨⟨x, z⟩, h3, rfl, rfl⟩ := hh
            rw [pEl, pVal_up u d _ _ _ h3]; exact ⟨trivial, rfl⟩
        · rename_i hc2
          rw [if_neg hc2]
          exact h
/-- A text that parses: as the value of a member. -/
theorem parse_part {s : Bs} {j : J} (h : parse s = some j) : validD s = true ∧ ∃ t, sk t = [] ∧ pVal false 6 s = some (j, t) := by
  unfold parse at h
  split at h
  · rename_i hv
    unfold pTop at h
    split at h
    · rename_i j' t h1
      split at h
      · rename_i ht
        simp only [Option.some.injEq] at h
        subst h
        exact ⟨hv, t, ht, h1⟩
      · simp at h
    · simp at h
  · simp at h
theorem member_val {s : Bs} {j : J} (h : parse s = some j) (q : Bs) (hq : NoDg q) (hv : validD q = true) :
    ∃ t, sk t = [] ∧ (WF 5 j → pVal false 5 (s ++ q) = some (j, t ++ q)) ∧ (¬ WF 5 j → pVal false 5 (s ++ q) = none) := by
  obtain ⟨hs, t, ht, hp⟩ := parse_part h
  refine ⟨t, ht, ?_, ?_⟩
  · intro hw
    exact pVal_app 5 s j t q (pVal_down false 5 s j t hp hw) (.inr hq)
  · intro hw
    cases h5 : pVal false 5 (s ++ q) with
    | none => rfl
    | some p =>
      obtain ⟨j', r'⟩ := p
      have h6 := pVal_up false 5 _ _ _ h5
      rw [pVal_app 6 s j t q hp (.inr hq)] at h6
      simp only [Option.some.injEq, Prod.mk.injEq] at h6
      rw [← pVal_eq 5 (s ++ q) (by rw [validD_app _ _ _ (Nat.le_refl _) hs]; exact hv)] at h5
      rw [← h6.1] at h5
      exact absurd (pVal_ok 5 _ _ _ h5).1 hw
/-- An object of two members. -/
theorem parse_two (K1 K2 a b B : Bs) (k1 k2 : Bs) (ja jb : J) (hB : sk B = []) (hk : k1 ≠ k2) (h1 : ∀ q, pStr false (K1 ++ q) = some (k1, q)) (h2 : ∀ q, pStr false (K2 ++ q) = some (k2, q))
    (v1 : ∀ q, validD (K1 ++ q) = validD q) (v2 : ∀ q, validD (K2 ++ q) = validD q) (ha : parse a = some ja) (hb : parse b = some jb) :
    (WF 5 ja ∧ WF 5 jb → parse (123 :: 34 :: (K1 ++ 58 :: (a ++ 44 :: (B ++ 34 :: (K2 ++ 58 :: (b ++ [125])))))) = some (.obj (ofL [(k1, ja), (k2, jb)]))) ∧
    (¬ (WF 5 ja ∧ WF 5 jb) → parse (123 :: 34 :: (K1 ++ 58 :: (a ++ 44 :: (B ++ 34 :: (K2 ++ 58 :: (b ++ [125])))))) = none) := by
  have va := (parse_part ha).1
  have vb := (parse_part hb).1
  have w3 : validD (b ++ [125]) = true := by rw [validD_app _ _ _ (Nat.le_refl _) vb]; decide
  have w2 : validD (B ++ 34 :: (K2 ++ 58 :: (b ++ [125]))) = true := by
    rw [← sk_valid, sk_app_nil hB, sk_valid, validD_cons _ _ (by decide), v2, validD_cons _ _ (by decide)]; exact w3
  have w1 : validD (44 :: (B ++ 34 :: (K2 ++ 58 :: (b ++ [125])))) = true := by rw [validD_cons _ _ (by decide)]; exact w2
  have w0 : validD (123 :: 34 :: (K1 ++ 58 :: (a ++ 44 :: (B ++ 34 :: (K2 ++ 58 :: (b ++ [125])))))) = true := by
    rw [validD_cons _ _ (by decide), validD_cons _ _ (by decide), v1, validD_cons _ _ (by decide), validD_app _ _ _ (Nat.le_refl _) va]; exact w1
  have nd : ∀ (c : UInt8) (t : Bs), isDg c = false → NoDg (c :: t) := by intro c t hc x hx; simp at hx; subst hx; exact hc
  obtain ⟨ta, hta, pa, na⟩ := member_val ha (44 :: (B ++ 34 :: (K2 ++ 58 :: (b ++ [125])))) (nd _ _ (by decide)) w1
  obtain ⟨tb, htb, pb, nb⟩ := member_val hb [125] (nd _ _ (by decide)) (by decide)
  have hh : (sk (34 :: (K1 ++ 58 :: (a ++ 44 :: (B ++ 34 :: (K2 ++ 58 :: (b ++ [125]))))))).head? ≠ some 125 := by rw [sk_non _ (by decide)]; simp
  have m1 : pMem false (pVal false 5) [] (34 :: (K1 ++ 58 :: (a ++ 44 :: (B ++ 34 :: (K2 ++ 58 :: (b ++ [125])))))) =
      (pVal false 5 (a ++ 44 :: (B ++ 34 :: (K2 ++ 58 :: (b ++ [125]))))).map fun x => ([(k1, x.1)], x.2) := by
    rw [pMem, sk_non _ (by decide)]
    simp only [if_true, h1, lookK, Option.isSome_none, Bool.false_eq_true, if_false]
    rw [sk_non _ (by decide)]
    simp
  have m2 : pMem false (pVal false 5) [(k1, ja)] (B ++ 34 :: (K2 ++ 58 :: (b ++ [125]))) = (pVal false 5 (b ++ [125])).map fun x => ([(k1, ja), (k2, x.1)], x.2) := by
    rw [pMem, sk_app_nil hB, sk_non _ (by decide)]
    simp only [if_true, h2, lookK, if_neg hk, Option.isSome_none, Bool.false_eq_true, if_false]
    rw [sk_non _ (by decide)]
    simp
  unfold parse
  rw [w0]
  simp only [if_true, pTop]
  rw [pVal, sk_non _ (by decide)]
  simp only [if_true]
  rw [pSev, if_neg hh, m1]
  constructor
  · rintro ⟨hwa, hwb⟩
    rw [pa hwa]
    simp only [Option.map_some]
    rw [pMore, sk_app_nil hta, sk_non _ (by decide)]
    simp only [if_true, m2, pb hwb, Option.map_some]
    generalize hn : (ta ++ 44 :: (B ++ 34 :: (K2 ++ 58 :: (b ++ [125])))).length = n
    obtain ⟨m, rfl⟩ : ∃ m, n = m + 1 := ⟨n - 1, by simp at hn; omega⟩
    rw [pMore, sk_app_nil htb, sk_non _ (by decide)]
    simp [sk]
  · intro hw
    by_cases hwa : WF 5 ja
    · have hwb : ¬ WF 5 jb := fun h => hw ⟨hwa, h⟩
      rw [pa hwa]
      simp only [Option.map_some]
      rw [pMore, sk_app_nil hta, sk_non _ (by decide)]
      simp [m2, nb hwb]
    · rw [na hwa]; simp

/-! ### Ordered -/
def tK (c : UInt8) : Bs := [c, 34]
theorem tK_ok (c : UInt8) (h : c = 107 ∨ c = 75 ∨ c = 97 ∨ c = 98) (q : Bs) : pStr false (tK c ++ q) = some ([c], q) ∧ validD (tK c ++ q) = validD q := by
  rcases h with rfl | rfl | rfl | rfl <;> exact ⟨by simp [tK, pStr_cons, ch], by simp [tK]; rw [validD_cons _ _ (by decide), validD_cons _ _ (by decide)]⟩
theorem tU_ok (q : Bs) : pStr false ([92, 117, 48, 48, 54, 98, 34] ++ q) = some ([107], q) ∧ validD ([92, 117, 48, 48, 54, 98, 34] ++ q) = validD q := by
  refine ⟨?_, validD_low _ _ (by decide)⟩
  have e : esc (117 :: 48 :: 48 :: 54 :: 98 :: 34 :: q) = some (107, 34 :: q) := by simp [esc, escU, hex4, hexV]
  simp only [List.cons_append, List.nil_append]
  rw [pStr_cons]
  simp [ch, e, pStr_cons]
  exact enc_lt 107 (by decide)
theorem ofL_kK (x y : J) : ofL [([107], x), ([75], y)] = [([75], y), ([107], x)] ∧ ofL [([75], y), ([107], x)] = [([75], y), ([107], x)] := by
  have h1 : ([75] : Bs) < [107] := by decide
  have h2 : ¬ ([107] : Bs) < [75] := by decide
  constructor <;> simp [ofL, insK, h1, h2]
def two1 (a b : Bs) : Bs := 123 :: 34 :: 107 :: 34 :: 58 :: (a ++ 44 :: 34 :: 75 :: 34 :: 58 :: (b ++ [125]))
def two2 (x y : Bs) : Bs := 123 :: 34 :: 75 :: 34 :: 58 :: (y ++ 32 :: 44 :: 32 :: 34 :: 92 :: 117 :: 48 :: 48 :: 54 :: 98 :: 34 :: 58 :: (x ++ [125]))
theorem ordered_pure (a b : Bs) (ja jb : J) (ha : parse a = some ja) (hb : parse b = some jb) :
    (parse (two1 a b) = some (.obj [([75], jb), ([107], ja)]) ∧ parse (two2 (cJ ja) (cJ jb)) = some (.obj [([75], jb), ([107], ja)])) ∨ (parse (two1 a b) = none ∧ parse (two2 (cJ ja) (cJ jb)) = none) := by
  have wa := (parse_ok ha).1
  have wb := (parse_ok hb).1
  have t1 := parse_two (tK 107) (tK 75) a b [] [107] [75] ja jb rfl (by decide) (fun q => (tK_ok 107 (by simp) q).1) (fun q => (tK_ok 75 (by simp) q).1) (fun q => (tK_ok 107 (by simp) q).2) (fun q => (tK_ok 75 (by simp) q).2) ha hb
  rw [(ofL_kK ja jb).1] at t1
  have hb' : parse (cJ jb ++ [32]) = some jb := by
    have hv : validD (cJ jb ++ [32]) = true := by rw [validD_cJ 6 jb _ wb]; decide
    have hp := pVal_cJ 6 jb [32] wb (by intro c hc; simp at hc; subst hc; decide)
    unfold parse
    rw [hv]
    simp only [if_true, pTop, hp]
    simp [sk, isBl]
  have t2 := parse_two (tK 75) [92, 117, 48, 48, 54, 98, 34] (cJ jb ++ [32]) (cJ ja) [32] [75] [107] jb ja (by simp [sk, isBl]) (by decide) (fun q => (tK_ok 75 (by simp) q).1) (fun q => (tU_ok q).1) (fun q => (tK_ok 75 (by simp) q).2) (fun q => (tU_ok q).2) hb' (parse_cJ ja wa)
  rw [(ofL_kK ja jb).2] at t2
  simp only [tK, List.append_assoc, List.cons_append, List.nil_append] at t1 t2
  unfold two1 two2
  by_cases h : WF 5 ja ∧ WF 5 jb
  · exact .inl ⟨t1.1 h, t2.1 h.symm⟩
  · exact .inr ⟨t1.2 h, t2.2 (fun g => h g.symm)⟩
theorem known_two : parse [123, 34, 98, 34, 58, 49, 44, 34, 97, 34, 58, 50, 125] = some (.obj [([97], .num 2), ([98], .num 1)]) := by
  have h1 : parse [49] = some (.num 1) := by
    have := parse_cJ (.num 1) (by simp [WF, maxNum])
    rwa [show cJ (.num 1) = [49] by rw [cJ, cNum, if_neg (by decide), decN, if_pos (by decide)]; rfl] at this
  have h2 : parse [50] = some (.num 2) := by
    have := parse_cJ (.num 2) (by simp [WF, maxNum])
    rwa [show cJ (.num 2) = [50] by rw [cJ, cNum, if_neg (by decide), decN, if_pos (by decide)]; rfl] at this
  have := parse_two (tK 98) (tK 97) [49] [50] [] [98] [97] _ _ rfl (by decide) (fun q => (tK_ok 98 (by simp) q).1) (fun q => (tK_ok 97 (by simp) q).1) (fun q => (tK_ok 98 (by simp) q).2) (fun q => (tK_ok 97 (by simp) q).2) h1 h2
  have this := this.1 ⟨by simp [WF, maxNum], by simp [WF, maxNum]⟩
  have h3 : ([97] : Bs) < [98] := by decide
  simpa [tK, ofL, insK, h3] using this
theorem known_empty : parse [32, 123, 32, 125, 32] = some (.obj []) := by
  have e : pVal false 6 [32, 123, 32, 125, 32] = some (.obj [], [32]) := by
    rw [pVal]; simp [sk, isBl, pSev, ofL]
  unfold parse
  rw [show validD [32, 123, 32, 125, 32] = true by decide]
  simp [pTop, e, sk, isBl]
end Go.Proofs.YtocligpfmfmihaaGreatDoor
namespace Go.Proofs.YtocligpfmfmihaaGreatDoor
open Go Go.RowKit

theorem canon_cases (s : Bs) : (∃ j, parse s = some j ∧ s.length ≤ 600 ∧ canonF s = (cJ j, 0)) ∨ canonF s = ([], 1) ∨ canonF s = ([], 2) := by
  unfold canonF valueF
  by_cases h : 600 < s.length
  · right; left
    rw [if_pos h]
    rfl
  · rw [if_neg h]
    cases hp : parse s with
    | none => right; right; rfl
    | some j => left; exact ⟨j, rfl, by omega, rfl⟩
theorem canon_ok {s : Bs} {j : J} (h : parse s = some j) (hl : s.length ≤ 600) : canonF s = (cJ j, 0) := by
  unfold canonF valueF
  rw [if_neg (by omega), h]
  rfl
theorem canon_bad {s : Bs} (h : parse s = none) (hl : s.length ≤ 600) : canonF s = ([], 2) := by
  unfold canonF valueF
  rw [if_neg (by omega), h]
  rfl
theorem c12 : cJ (.num 1) = [49] ∧ cJ (.num 2) = [50] := by
  constructor <;> (rw [cJ, cNum, if_neg (by decide), decN, if_pos (by decide)]; rfl)
theorem canon_known : canonF [123, 34, 98, 34, 58, 49, 44, 34, 97, 34, 58, 50, 125] = ([123, 34, 97, 34, 58, 50, 44, 34, 98, 34, 58, 49, 125], 0) := by
  rw [canon_ok known_two (by decide)]
  simp [cJ_obj, cMem, joinC, c12, cStr, cB]
theorem canon_kK (x y : J) : cJ (.obj [([75], y), ([107], x)]) = 123 :: 34 :: 75 :: 34 :: 58 :: (cJ y ++ 44 :: 34 :: 107 :: 34 :: 58 :: (cJ x ++ [125])) := by
  simp [cJ_obj, cMem, joinC, cStr, cB]

/-- What is asked of the two answers where one is an error. -/
theorem ans_empty (s : Bs) : (canonF s).1 = [] ↔ (canonF s).2 ≠ 0 := by
  rcases canon_cases s with ⟨j, _, _, h⟩ | h | h <;> rw [h]
  · simp [cJ_ne j]
  · simp
  · simp
theorem str_inj (a b : List UInt8) : ((⟨a.toArray⟩ : ByteArray) = ⟨b.toArray⟩) ↔ a = b := by
  constructor
  · intro h
    injection h with h
    simpa using h
  · rintro rfl; rfl

set_option maxRecDepth 20000 in
set_option maxHeartbeats 1000000 in
theorem ordered_bad (W : World) (hN : NG W) (a b : ByteArray) (ha : (canonF a.data.toList).2 ≠ 0) :
    Calls Tryz.prog 12 #[.string a, .string b] W fun e w' => e = .returned (.bool true) ∧ Kp (fun _ => False) W w' := by
  have ea := (ans_empty a.data.toList).2 ha
  have eb := ans_empty b.data.toList
  have hk := canon_known
  go_enter Tryz.func12, Tryz.ntmps12
  go_wp2_with fail
  refine (canon_c W hN ⟨#[123, 34, 98, 34, 58, 49, 44, 34, 97, 34, 58, 50, 125]⟩ W (Below.refl _ _)).mono ?_
  rintro e w1 ⟨rfl, k1⟩
  have b1 := below_kp (Below.refl _ W) k1
  simp only [hk]
  clear hk
  go_wp2_with fail
  refine (canon_c W hN a w1 b1).mono ?_
  rintro e w2 ⟨rfl, k2⟩
  have b2 := below_kp b1 k2
  rw [ea]
  generalize (canonF a.data.toList).2 = na at *
  go_wp2_with fail
  refine (canon_c W hN b w2 b2).mono ?_
  rintro e w3 ⟨rfl, k3⟩
  have HK := hide (k1.trans (k2.trans k3))
  clear k1 k2 k3 b1 b2
  generalize (canonF b.data.toList).1 = cb at *
  generalize (canonF b.data.toList).2 = nb at *
  go_wp2_with fail
  go_ret
  refine ⟨?_, HK.out⟩
  have hb : ((nb : Int) != 0) = cb.isEmpty := by
    cases cb with
    | nil =>
      have := eb.1 rfl
      simp [bne_iff_ne]
      omega
    | cons x l =>
      have : ¬ nb ≠ 0 := fun h => by cases eb.2 h
      simp
      omega
  have hn : ((na : Int) != 0) = true := by simp [bne_iff_ne]; omega
  rw [hn, hb]
  simp
set_option maxRecDepth 20000 in
set_option maxHeartbeats 1000000 in
theorem ordered_bad2 (W : World) (hN : NG W) (a b : ByteArray) (ja : J) (ha : canonF a.data.toList = (cJ ja, 0)) (hb : (canonF b.data.toList).2 ≠ 0 ∨ ∃ jb, canonF b.data.toList = (cJ jb, 0) ∧ 500 < a.size + b.size ∧ b.size ≤ 600) (hab : a.size ≤ 600) :
    Calls Tryz.prog 12 #[.string a, .string b] W fun e w' => e = .returned (.bool true) ∧ Kp (fun _ => False) W w' := by
  have ea : (cJ ja).isEmpty = false := by have := cJ_ne ja; cases h : cJ ja <;> simp_all
  have hk := canon_known
  go_enter Tryz.func12, Tryz.ntmps12
  go_wp2_with fail
  refine (canon_c W hN ⟨#[123, 34, 98, 34, 58, 49, 44, 34, 97, 34, 58, 50, 125]⟩ W (Below.refl _ _)).mono ?_
  rintro e w1 ⟨rfl, k1⟩
  have b1 := below_kp (Below.refl _ W) k1
  simp only [hk]
  clear hk
  go_wp2_with fail
  refine (canon_c W hN a w1 b1).mono ?_
  rintro e w2 ⟨rfl, k2⟩
  have b2 := below_kp b1 k2
  rw [ha]
  clear ha
  generalize cJ ja = ca at *
  go_wp2_with fail
  refine (canon_c W hN b w2 b2).mono ?_
  rintro e w3 ⟨rfl, k3⟩
  have HK := hide (k1.trans (k2.trans k3))
  clear k1 k2 k3 b1 b2
  rcases hb with hb | ⟨jb, hb, hl, hl2⟩
  · have eb := (ans_empty b.data.toList).2 hb
    rw [eb]
    generalize (canonF b.data.toList).2 = nb at *
    go_wp2_with fail
    go_ret
    refine ⟨?_, HK.out⟩
    have hn : ((nb : Int) != 0) = true := by simp [bne_iff_ne]; omega
    rw [hn]
    rfl
  · have eb : (cJ jb).isEmpty = false := by have := cJ_ne jb; cases h : cJ jb <;> simp_all
    rw [hb]
    clear hb
    generalize cJ jb = cb at *
    have hw : wrap64 ((a.size : Int) + (b.size : Int)) = (a.size : Int) + (b.size : Int) := by
      unfold wrap64
      omega
    have hd : decide ((500 : Int) < (a.size : Int) + (b.size : Int)) = true := by simp; omega
    go_wp2_with fail
    go_ret
    exact ⟨rfl, HK.out⟩

def bA (s : Bs) : ByteArray := ⟨s.toArray⟩
set_option maxRecDepth 20000 in
set_option maxHeartbeats 1000000 in
theorem ordered_good (W : World) (hN : NG W) (a b : ByteArray) (ja jb : J) (ha : parse a.data.toList = some ja) (hb : parse b.data.toList = some jb) (hl : a.size + b.size ≤ 500) :
    Calls Tryz.prog 12 #[.string a, .string b] W fun e w' => e = .returned (.bool true) ∧ Kp (fun _ => False) W w' := by
  have hla := dlen a
  have hlb := dlen b
  have ca := canon_ok ha (by omega)
  have cb := canon_ok hb (by omega)
  have hp := ordered_pure a.data.toList b.data.toList ja jb ha hb
  have la := (parse_ok ha).2
  have lb := (parse_ok hb).2
  have hk := canon_known
  have hw : wrap64 ((a.size : Int) + (b.size : Int)) = (a.size : Int) + (b.size : Int) := by
    unfold wrap64
    omega
  have hd : decide ((500 : Int) < (a.size : Int) + (b.size : Int)) = false := by simp; omega
  have l1 : (two1 a.data.toList b.data.toList).length ≤ 600 := by simp [two1]; simp at hla hlb; omega
  have l2 : (two2 (cJ ja) (cJ jb)).length ≤ 600 := by simp [two2]; simp at la lb hla hlb; omega
  have hq : ∃ r n, canonF (two1 a.data.toList b.data.toList) = (r, n) ∧ canonF (two2 (cJ ja) (cJ jb)) = (r, n) ∧ ((n = 0 ∧ r = 123 :: 34 :: 75 :: 34 :: 58 :: (cJ jb ++ 44 :: 34 :: 107 :: 34 :: 58 :: (cJ ja ++ [125]))) ∨ n = 2) := by
    rcases hp with ⟨p1, p2⟩ | ⟨p1, p2⟩
    · exact ⟨_, _, canon_ok p1 l1, canon_ok p2 l2, Or.inl ⟨rfl, canon_kK ja jb⟩⟩
    · exact ⟨_, _, canon_bad p1 l1, canon_bad p2 l2, Or.inr rfl⟩
  obtain ⟨r, n, hc1, hc2, hrn⟩ := hq
  have la' : (cJ ja).length ≤ 500 := by omega
  have lb' : (cJ jb).length ≤ 500 := by omega
  have sa' : ByteArray.size { data := (cJ ja).toArray } ≤ 500 := by show (cJ ja).toArray.size ≤ 500; simpa using la'
  have sb' : ByteArray.size { data := (cJ jb).toArray } ≤ 500 := by show (cJ jb).toArray.size ≤ 500; simpa using lb'
  clear hp l1 l2 la lb hla hlb
  have ba1 : (({ data := #[123, 34, 107, 34, 58] } ++ a ++ { data := #[44, 34, 75, 34, 58] } ++ b ++ { data := #[125] } : ByteArray)).data.toList = two1 a.data.toList b.data.toList := by simp [two1]
  have ba2 : (({ data := #[123, 34, 75, 34, 58] } ++ { data := (cJ jb).toArray } ++ { data := #[32, 44, 32, 34, 92, 117, 48, 48, 54, 98, 34, 58] } ++ { data := (cJ ja).toArray } ++ { data := #[125] } : ByteArray)).data.toList = two2 (cJ ja) (cJ jb) := by simp [two2]
  have ba3 : (({ data := #[123, 34, 75, 34, 58] } ++ { data := (cJ jb).toArray } ++ { data := #[44, 34, 107, 34, 58] } ++ { data := (cJ ja).toArray } ++ { data := #[125] } : ByteArray)).data.toList = 123 :: 34 :: 75 :: 34 :: 58 :: (cJ jb ++ 44 :: 34 :: 107 :: 34 :: 58 :: (cJ ja ++ [125])) := by simp
  clear ha hb
  go_enter Tryz.func12, Tryz.ntmps12
  go_wp2_with fail
  refine (canon_c W hN ⟨#[123, 34, 98, 34, 58, 49, 44, 34, 97, 34, 58, 50, 125]⟩ W (Below.refl _ _)).mono ?_
  rintro e w1 ⟨rfl, k1⟩
  have b1 := below_kp (Below.refl _ W) k1
  simp only [hk]
  clear hk
  go_wp2_with fail
  refine (canon_c W hN a w1 b1).mono ?_
  rintro e w2 ⟨rfl, k2⟩
  have b2 := below_kp b1 k2
  rw [ca]
  clear ca
  go_wp2_with fail
  refine (canon_c W hN b w2 b2).mono ?_
  rintro e w3 ⟨rfl, k3⟩
  have b3 := below_kp b2 k3
  rw [cb]
  clear cb
  have HK := hide (k1.trans (k2.trans k3))
  clear k1 k2 k3 b1 b2
  go_wp2_with fail
  refine (canon_c W hN _ w3 b3).mono ?_
  rintro e w4 ⟨rfl, k4⟩
  have b4 := below_kp b3 k4
  rw [ba1, hc1]
  go_wp2_with fail
  refine (canon_c W hN _ w4 b4).mono ?_
  rintro e w5 ⟨rfl, k5⟩
  rw [ba2, hc2]
  have HK2 := hide (HK.out.trans (k4.trans k5))
  clear k4 k5 b3 b4 hc1 hc2
  rcases hrn with ⟨rfl, hrr⟩ | rfl
  · have hrr' := hide hrr
    clear hrr
    go_wp2_with fail
    go_ret
    refine ⟨?_, HK2.out⟩
    rw [ByteArray.toList_eq, ba3, ← hrr'.out]
    simp
  · go_wp2_with fail
    go_ret
    exact ⟨rfl, HK2.out⟩

/-- notarykeep.Ordered. -/
theorem ordered_c (W : World) (hN : NG W) (a b : ByteArray) :
    Calls Tryz.prog 12 #[.string a, .string b] W fun e w' => e = .returned (.bool true) ∧ Kp (fun _ => False) W w' := by
  have hla := dlen a
  have hlb := dlen b
  by_cases ha : (canonF a.data.toList).2 = 0
  · rcases canon_cases a.data.toList with ⟨ja, pa, la, ca⟩ | h | h
    · by_cases hb : (canonF b.data.toList).2 = 0
      · rcases canon_cases b.data.toList with ⟨jb, pb, lb, cb⟩ | h | h
        · by_cases hl : a.size + b.size ≤ 500
          · exact ordered_good W hN a b ja jb pa pb hl
          · exact ordered_bad2 W hN a b ja ca (Or.inr ⟨jb, cb, by omega, by omega⟩) (by omega)
        · rw [h] at hb; cases hb
        · rw [h] at hb; cases hb
      · exact ordered_bad2 W hN a b ja ca (Or.inl hb) (by omega)
    · rw [h] at ha; cases ha
    · rw [h] at ha; cases ha
  · exact ordered_bad W hN a b ha
end Go.Proofs.YtocligpfmfmihaaGreatDoor
namespace Go.Proofs.YtocligpfmfmihaaGreatDoor
open Go Go.RowKit Go.Maps

theorem canon_long {s : Bs} (h : 600 < s.length) : canonF s = ([], 1) := by
  unfold canonF valueF
  rw [if_pos h]
  rfl
set_option maxRecDepth 20000 in
theorem rcanon_c (W : World) (hG : GL W) (s : ByteArray) (w : World) (ho : Below W.heap.size W w) :
    Calls Tryz.prog 15 #[.string s] w fun e w' => e = .returned (.tuple #[.string ⟨(canonF s.data.toList).1.toArray⟩, .int .i64 ((canonF s.data.toList).2 : Int)]) ∧ Kp (fun _ => False) w w' := by
  go_enter Tryz.func15, Tryz.ntmps15
  go_wp2_with fail
  refine (rparse_c W hG s w ho).mono ?_
  have hsl : s.data.toList.length = s.size := Array.length_toList
  rintro e w1 ⟨K1, (⟨h6, rfl⟩ | ⟨h6, hp, rfl⟩ | ⟨h6, j, b, hp, rfl, hr⟩)⟩
  · have HC := hide (canon_long (s := s.data.toList) (by omega))
    clear hsl
    go_wp2
    go_ret2
    exact ⟨by rw [HC.out]; rfl, K1⟩
  · have HC := hide (canon_bad hp (by omega))
    clear hsl hp
    go_wp2
    go_ret2
    exact ⟨by rw [HC.out]; rfl, K1⟩
  · have HC := hide (canon_ok hp (by omega))
    have hle := (parse_ok hp).2
    have ht := rtextJ hr (by omega) w1 (Kp.refl _ _)
    have HT := hide ht
    clear hsl hp ht hle
    go_wp2_with fail
    refine HT.out.mono ?_
    rintro e w2 ⟨rfl, K2⟩
    go_wp2
    go_ret2
    exact ⟨by rw [HC.out]; rfl, K1.trans K2⟩
set_option maxRecDepth 20000 in
theorem canons_c (W : World) (hN : NG W) (s : ByteArray) :
    Calls Tryz.prog 3 #[.string s] W fun e w' => e = .returned (.bool true) ∧ Kp (fun _ => False) W w' := by
  go_enter Tryz.func3, Tryz.ntmps3
  go_wp2_with fail
  refine (canon_c W hN s W (Below.refl _ _)).mono ?_
  rintro e w1 ⟨rfl, K1⟩
  go_wp2_with fail
  refine (rcanon_c W hN.gl s w1 (below_kp (Below.refl _ W) K1)).mono ?_
  rintro e w2 ⟨rfl, K2⟩
  generalize (canonF s.data.toList).1 = a at *
  generalize (canonF s.data.toList).2 = n at *
  go_wp2
  all_goals
    go_ret
    exact ⟨by simp, K1.trans K2⟩
end Go.Proofs.YtocligpfmfmihaaGreatDoor
namespace Go.Proofs.YtocligpfmfmihaaGreatDoor
open Go Go.RowKit Go.Maps

/-- The sign of a tree's kind. -/
def rkind : J → Nat | .null => 110 | .bool true => 116 | .bool false => 102 | .num _ => 35 | .str _ => 34 | .arr _ => 91 | .obj _ => 123
theorem RR.kind {w : World} {F : Nat → Prop} {j : J} {b : Nat} (h : RR w F j b) : ∃ n t K L, w.heap[b]? = some (vCells (rkind j) n t K L) := by
  cases h with
  | null hF h => exact ⟨_, _, _, _, h⟩
  | tt hF h => exact ⟨_, _, _, _, h⟩
  | ff hF h => exact ⟨_, _, _, _, h⟩
  | num n hn hF h => exact ⟨_, _, _, _, h⟩
  | str t hF h => exact ⟨_, _, _, _, h⟩
  | arr x L hF h => exact ⟨_, _, _, _, h⟩
  | obj x K L hF h => exact ⟨_, _, _, _, h⟩
/-- What the reference's Object tells. -/
def RoR (w : World) (l : Bs) (e : Ending) (w' : World) : Prop :=
  Kp (fun _ => False) w w' ∧ ((∃ n : Nat, n ≠ 0 ∧ objectF l = .error n ∧ e = .returned (.tuple #[.pointer none, .int .i64 (n : Int)])) ∨
    (∃ o b, objectF l = .ok o ∧ (cJ (.obj o)).length ≤ 600 ∧ e = .returned (.tuple #[.pointer (some ⟨b, 0, none⟩), .int .i64 0]) ∧ RR w' (fun c => w.heap.size ≤ c ∧ c < w'.heap.size) (.obj o) b))
set_option maxRecDepth 20000 in
theorem robject_c (W : World) (hG : GL W) (s : ByteArray) (w : World) (ho : Below W.heap.size W w) :
    Calls Tryz.prog 41 #[.string s] w fun e w' => RoR w s.data.toList e w' := by
  go_enter Tryz.func41, Tryz.ntmps41
  go_wp2_with fail
  refine (rparse_c W hG s w ho).mono ?_
  have hsl : s.data.toList.length = s.size := Array.length_toList
  rintro e w1 ⟨K1, (⟨h6, rfl⟩ | ⟨h6, hp, rfl⟩ | ⟨h6, j, b, hp, rfl, hr⟩)⟩
  · have HC : Hid (objectF s.data.toList = .error 1) := by show _ = _; unfold objectF valueF; rw [if_pos (by omega)]
    clear hsl
    go_wp2
    go_ret2
    exact ⟨K1, Or.inl ⟨1, by decide, HC.out, rfl⟩⟩
  · have HC : Hid (objectF s.data.toList = .error 2) := by show _ = _; unfold objectF valueF; rw [if_neg (by omega), hp]
    clear hsl hp
    go_wp2
    go_ret2
    exact ⟨K1, Or.inl ⟨2, by decide, HC.out, rfl⟩⟩
  · have hle := (parse_ok hp).2
    have hv : valueF s.data.toList = .ok j := by unfold valueF; rw [if_neg (by omega), hp]
    obtain ⟨n, t, K, L, hb⟩ := hr.kind
    by_cases hk : rkind j = 123
    · obtain ⟨o, rfl⟩ : ∃ o, j = .obj o := by
        cases j with
        | obj o => exact ⟨o, rfl⟩
        | bool b => cases b <;> cases hk
        | _ => cases hk
      have HC : Hid (objectF s.data.toList = .ok o) := by show _ = _; unfold objectF; rw [hv]
      have HH := hide (And.intro hr (And.intro hle hsl))
      rw [hk] at hb
      obtain ⟨v0, v1, v2, v3, v4, z0, z1, z2, z3, z4, hvb⟩ := vfacts hb
      clear hv hp hr hle hsl hk
      go_wp2
      go_ret2
      exact ⟨K1, Or.inr ⟨o, b, HC.out, by have := HH.out.2; omega, rfl, HH.out.1⟩⟩
    · have HC : Hid (objectF s.data.toList = .error 3) := by
        show _ = _
        unfold objectF
        rw [hv]
        cases j with
        | obj o => exact absurd rfl hk
        | _ => rfl
      obtain ⟨v0, v1, v2, v3, v4, z0, z1, z2, z3, z4, hvb⟩ := vfacts hb
      have hkn : (((rkind j : Nat) : Int) != 123) = true := by simp; omega
      clear hv hp hr hle hsl hb
      generalize rkind j = kd at *
      go_wp2
      go_ret2
      exact ⟨K1, Or.inl ⟨3, by decide, HC.out, rfl⟩⟩

theorem delK_insK_ne {α : Type} (k a : Bs) (v : α) (h : a ≠ k) : ∀ (l : List (Bs × α)), Srt l → delK k (insK a v l) = insK a v (delK k l)
  | [], _ => by simp [insK, delK, h]
  | (c, x) :: l, hs => by
    obtain ⟨h1, h2⟩ := List.pairwise_cons.1 hs
    have ih := delK_insK_ne k a v h l h2
    unfold delK at ih ⊢
    rw [insK]
    by_cases hac : a < c
    · rw [if_pos hac]
      by_cases hc : c = k
      · subst hc
        simp only [List.filter_cons, h, decide_false, Bool.not_false, if_true, decide_true, Bool.not_true, Bool.false_eq_true, if_false]
        cases hl : l.filter (fun p => !decide (p.1 = c)) with
        | nil => rfl
        | cons p q =>
          have hp : p ∈ l := (List.mem_filter.1 (by rw [hl]; simp)).1
          rw [insK, if_pos (lt_tr hac (h1 p hp))]
      · simp only [List.filter_cons, h, hc, decide_false, Bool.not_false, if_true]
        rw [insK, if_pos hac]
    · rw [if_neg hac]
      by_cases hca : c = a
      · rw [if_pos hca]
        subst hca
        simp only [List.filter_cons, h, decide_false, Bool.not_false, if_true]
        rw [insK, if_neg hac, if_pos rfl]
      · rw [if_neg hca]
        by_cases hc : c = k
        · simp only [List.filter_cons, hc, decide_true, Bool.not_true, Bool.false_eq_true, if_false]
          exact ih
        · simp only [List.filter_cons, hc, decide_false, Bool.not_false, if_true]
          rw [insK, if_neg hac, if_neg hca, ih]
theorem ofL_filter {α : Type} (k : Bs) (m : List (Bs × α)) : ofL (m.filter fun p => !decide (p.1 = k)) = delK k (ofL m) := by
  have : ∀ n (m : List (Bs × α)), m.length = n → ofL (m.filter fun p => !decide (p.1 = k)) = delK k (ofL m) := by
    intro n
    induction n with
    | zero => intro m hm; obtain rfl := List.eq_nil_of_length_eq_zero hm; rfl
    | succ n ih =>
      intro m hm
      have hne : m ≠ [] := by intro e; subst e; simp at hm
      obtain ⟨l, p, rfl⟩ : ∃ l p, m = l ++ [p] := ⟨m.dropLast, m.getLast hne, (List.dropLast_concat_getLast hne).symm⟩
      obtain ⟨a, x⟩ := p
      have ih := ih l (by simpa using hm)
      rw [ofL_snoc, List.filter_append]
      by_cases h : a = k
      · subst h
        rw [delK_insK, ← ih]
        simp
      · rw [delK_insK_ne k a x h _ (srt_ofL _), ← ih, ← ofL_snoc]
        simp [h]
  exact this m.length m rfl

/-- An object under work, at block vb. -/
structure BaI (lo vb : Nat) (y : List (Bs × Nat)) (K L : Value) (w : World) : Prop where
  blk : w.heap[vb]? = some (vCells 123 0 [] K L)
  rowK : w.ownsRow lo 9 1 K y.length (y.map fun p => .string ⟨p.1.toArray⟩)
  rowL : w.ownsRow lo 66 1 L y.length (y.map fun p => ptr p.2)
  ownK : ∀ k, K.ownBlock = some k → k ≠ vb
  ownL : ∀ k, L.ownBlock = some k → k ≠ vb
  kl : ∀ k, K.ownBlock = some k → L.ownBlock ≠ some k
structure BaK (lo vb : Nat) (y : List (Bs × Nat)) (a : Bs) (K L : Value) (w : World) : Prop where
  blk : w.heap[vb]? = some (vCells 123 0 [] K L)
  rowK : w.ownsRow lo 9 1 K (y.length + 1) ((y.map fun p => .string ⟨p.1.toArray⟩) ++ [.string ⟨a.toArray⟩])
  rowL : w.ownsRow lo 66 1 L y.length (y.map fun p => ptr p.2)
  ownK : ∀ k, K.ownBlock = some k → k ≠ vb
  ownL : ∀ k, L.ownBlock = some k → k ≠ vb
  kl : ∀ k, K.ownBlock = some k → L.ownBlock ≠ some k
theorem BaI.key {lo vb : Nat} {y : List (Bs × Nat)} {a : Bs} {K L K' : Value} {w5 w6 : World} (h : BaI lo vb y K L w5) (B : Kp (fun k => K.ownBlock = some k) w5 w6)
    (y1 : w6.ownsRow lo 9 1 K' (y.length + 1) ((y.map fun p => .string ⟨p.1.toArray⟩) ++ [.string ⟨a.toArray⟩])) (y3 : K'.ownBlock = K.ownBlock ∨ ∃ q, w5.heap.size ≤ q ∧ K'.ownBlock = some q) :
    BaK lo vb y a K' L (w6.setCell ⟨vb, 3, none⟩ K') := by
  have hvb := lt_heap h.blk
  have own' : ∀ k, K'.ownBlock = some k → k ≠ vb ∧ L.ownBlock ≠ some k := by
    intro k hk
    rcases y3 with e | ⟨q, hq, e⟩
    · rw [e] at hk
      exact ⟨h.ownK k hk, h.kl k hk⟩
    · rw [e] at hk
      injection hk with hk
      exact ⟨by omega, fun hl => by have := (h.rowL.lt k hl).2; omega⟩
  have h6 : w6.heap[vb]? = some (vCells 123 0 [] K L) := (B.block vb hvb (fun e => h.ownK _ e rfl)).trans h.blk
  refine ⟨?_, ?_, ?_, fun k hk => (own' k hk).1, h.ownL, fun k hk => (own' k hk).2⟩
  · simp [World.setCell, Array.getElem?_modify, h6, vCells]
  · exact ownsRow_heap y1 fun k hk => heap_set_other (own' k hk).1
  · refine ownsRow_heap h.rowL fun k hk => ?_
    rw [heap_set_other (h.ownL k hk), B.block k (h.rowL.lt k hk).2 (fun e => h.kl k e hk)]
theorem BaK.more {lo vb b : Nat} {y : List (Bs × Nat)} {a : Bs} {K L L' : Value} {w7 w8 : World} (h : BaK lo vb y a K L w7) (B : Kp (fun k => L.ownBlock = some k) w7 w8)
    (y1 : w8.ownsRow lo 66 1 L' (y.length + 1) ((y.map fun p => ptr p.2) ++ [ptr b])) (y3 : L'.ownBlock = L.ownBlock ∨ ∃ q, w7.heap.size ≤ q ∧ L'.ownBlock = some q) :
    BaI lo vb (y ++ [(a, b)]) K L' (w8.setCell ⟨vb, 4, none⟩ L') := by
  have hvb := lt_heap h.blk
  have own' : ∀ k, L'.ownBlock = some k → k ≠ vb ∧ K.ownBlock ≠ some k := by
    intro k hk
    rcases y3 with e | ⟨q, hq, e⟩
    · rw [e] at hk
      exact ⟨h.ownL k hk, fun e => h.kl k e hk⟩
    · rw [e] at hk
      injection hk with hk
      exact ⟨by omega, fun e => by have := (h.rowK.lt k e).2; omega⟩
  have h8 : w8.heap[vb]? = some (vCells 123 0 [] K L) := (B.block vb hvb (fun e => h.ownL _ e rfl)).trans h.blk
  refine ⟨?_, ?_, ?_, h.ownK, fun k hk => (own' k hk).1, fun k hk e => (own' k e).2 hk⟩
  · simp [World.setCell, Array.getElem?_modify, h8, vCells]
  · rw [List.length_append, List.map_append]
    refine ownsRow_heap h.rowK fun k hk => ?_
    rw [heap_set_other (h.ownK k hk), B.block k (h.rowK.lt k hk).2 (fun e => h.kl k hk e)]
  · rw [List.length_append, List.map_append]
    exact ownsRow_heap y1 fun k hk => heap_set_other (own' k hk).1
end Go.Proofs.YtocligpfmfmihaaGreatDoor

import Derived.Test.YtocligpfmfmihaaGreatDoorCore
namespace Go.Proofs.YtocligpfmfmihaaGreatDoor
open Go.Lib

theorem pVal_up (u : Bool) : ∀ (d : Nat) (s : Bs) (j : J) (r : Bs), pVal u d s = some (j, r) → pVal u (d + 1) s = some (j, r)
  | 0, s, j, r, h => by
    unfold pVal at h ⊢
    split at h
    · simp at h
    · rename_i c t hs
      split at h
      · simp at h
      · rename_i hc
        rw [if_neg (fun g => hc (.inl g)), if_neg (fun g => hc (.inr g))]
        exact h
  | d + 1, s, j, r, h => by
    rw [pVal] at h ⊢
    split at h
    · simp at h
    · rename_i c t hs
      split at h
      · rename_i hc
        rw [if_pos hc]
        simp only [Option.map_eq_some_iff, Prod.mk.injEq] at h
        obtain ⟨⟨x, z⟩, h2, rfl, rfl⟩ := h
        rw [pSev_sub (fun _ : List (Bs × J) => True) (p' := pMem u (pVal u (d + 1))) ?_ 125 h2 trivial]
        · rfl
        · intro a s b r hh _
          obtain ⟨k, y, rfl, h1, q, h3, h4⟩ := pMem_nod hh
          exact ⟨trivial, h4 _ (pVal_up u d _ _ _ h3)⟩
      · rename_i hc
        rw [if_neg hc]
        split at h
        · rename_i hc2
          rw [if_pos hc2]
          simp only [Option.map_eq_some_iff, Prod.mk.injEq] at h
          obtain ⟨⟨x, z⟩, h2, rfl, rfl⟩ := h
          rw [pSev_sub (fun _ : List J => True) (p' := pEl (pVal u (d + 1))) ?_ 93 h2 trivial]
          · rfl
          · intro a s b r hh _
            unfold pEl at hh
            simp only [Option.map_eq_some_iff, Prod.mk.injEq] at hh
            obtain ⟨⟨x, z⟩, h3, rfl, rfl⟩ := hh
            rw [pEl, pVal_up u d _ _ _ h3]; exact ⟨trivial, rfl⟩
        · rename_i hc2
          rw [if_neg hc2]
          exact h
/-- A text that parses: as the value of a member. -/
theorem parse_part {s : Bs} {j : J} (h : parse s = some j) : validD s = true ∧ ∃ t, sk t = [] ∧ pVal false 6 s = some (j, t) := by
  unfold parse at h
  split at h
  · rename_i hv
    unfold pTop at h
    split at h
    · rename_i j' t h1
      split at h
      · rename_i ht
        simp only [Option.some.injEq] at h
        subst h
        exact ⟨hv, t, ht, h1⟩
      · simp at h
    · simp at h
  · simp at h
theorem member_val {s : Bs} {j : J} (h : parse s = some j) (q : Bs) (hq : NoDg q) (hv : validD q = true) :
    ∃ t, sk t = [] ∧ (WF 5 j → pVal false 5 (s ++ q) = some (j, t ++ q)) ∧ (¬ WF 5 j → pVal false 5 (s ++ q) = none) := by
  obtain ⟨hs, t, ht, hp⟩ := parse_part h
  refine ⟨t, ht, ?_, ?_⟩
  · intro hw
    exact pVal_app 5 s j t q (pVal_down false 5 s j t hp hw) (.inr hq)
  · intro hw
    cases h5 : pVal false 5 (s ++ q) with
    | none => rfl
    | some p =>
      obtain ⟨j', r'⟩ := p
      have h6 := pVal_up false 5 _ _ _ h5
      rw [pVal_app 6 s j t q hp (.inr hq)] at h6
      simp only [Option.some.injEq, Prod.mk.injEq] at h6
      rw [← pVal_eq 5 (s ++ q) (by rw [validD_app _ _ _ (Nat.le_refl _) hs]; exact hv)] at h5
      rw [← h6.1] at h5
      exact absurd (pVal_ok 5 _ _ _ h5).1 hw
/-- An object of two members. -/
theorem parse_two (K1 K2 a b B : Bs) (k1 k2 : Bs) (ja jb : J) (hB : sk B = []) (hk : k1 ≠ k2) (h1 : ∀ q, pStr false (K1 ++ q) = some (k1, q)) (h2 : ∀ q, pStr false (K2 ++ q) = some (k2, q))
    (v1 : ∀ q, validD (K1 ++ q) = validD q) (v2 : ∀ q, validD (K2 ++ q) = validD q) (ha : parse a = some ja) (hb : parse b = some jb) :
    (WF 5 ja ∧ WF 5 jb → parse (123 :: 34 :: (K1 ++ 58 :: (a ++ 44 :: (B ++ 34 :: (K2 ++ 58 :: (b ++ [125])))))) = some (.obj (ofL [(k1, ja), (k2, jb)]))) ∧
    (¬ (WF 5 ja ∧ WF 5 jb) → parse (123 :: 34 :: (K1 ++ 58 :: (a ++ 44 :: (B ++ 34 :: (K2 ++ 58 :: (b ++ [125])))))) = none) := by
  have va := (parse_part ha).1
  have vb := (parse_part hb).1
  have w3 : validD (b ++ [125]) = true := by rw [validD_app _ _ _ (Nat.le_refl _) vb]; decide
  have w2 : validD (B ++ 34 :: (K2 ++ 58 :: (b ++ [125]))) = true := by
    rw [← sk_valid, sk_app_nil hB, sk_valid, validD_cons _ _ (by decide), v2, validD_cons _ _ (by decide)]; exact w3
  have w1 : validD (44 :: (B ++ 34 :: (K2 ++ 58 :: (b ++ [125])))) = true := by rw [validD_cons _ _ (by decide)]; exact w2
  have w0 : validD (123 :: 34 :: (K1 ++ 58 :: (a ++ 44 :: (B ++ 34 :: (K2 ++ 58 :: (b ++ [125])))))) = true := by
    rw [validD_cons _ _ (by decide), validD_cons _ _ (by decide), v1, validD_cons _ _ (by decide), validD_app _ _ _ (Nat.le_refl _) va]; exact w1
  have nd : ∀ (c : UInt8) (t : Bs), isDg c = false → NoDg (c :: t) := by intro c t hc x hx; simp at hx; subst hx; exact hc
  obtain ⟨ta, hta, pa, na⟩ := member_val ha (44 :: (B ++ 34 :: (K2 ++ 58 :: (b ++ [125])))) (nd _ _ (by decide)) w1
  obtain ⟨tb, htb, pb, nb⟩ := member_val hb [125] (nd _ _ (by decide)) (by decide)
  have hh : (sk (34 :: (K1 ++ 58 :: (a ++ 44 :: (B ++ 34 :: (K2 ++ 58 :: (b ++ [125]))))))).head? ≠ some 125 := by rw [sk_non _ (by decide)]; simp
  have m1 : pMem false (pVal false 5) [] (34 :: (K1 ++ 58 :: (a ++ 44 :: (B ++ 34 :: (K2 ++ 58 :: (b ++ [125])))))) =
      (pVal false 5 (a ++ 44 :: (B ++ 34 :: (K2 ++ 58 :: (b ++ [125]))))).map fun x => ([(k1, x.1)], x.2) := by
    rw [pMem, sk_non _ (by decide)]
    simp only [if_true, h1, lookK, Option.isSome_none, Bool.false_eq_true, if_false]
    rw [sk_non _ (by decide)]
    simp
  have m2 : pMem false (pVal false 5) [(k1, ja)] (B ++ 34 :: (K2 ++ 58 :: (b ++ [125]))) = (pVal false 5 (b ++ [125])).map fun x => ([(k1, ja), (k2, x.1)], x.2) := by
    rw [pMem, sk_app_nil hB, sk_non _ (by decide)]
    simp only [if_true, h2, lookK, if_neg hk, Option.isSome_none, Bool.false_eq_true, if_false]
    rw [sk_non _ (by decide)]
    simp
  unfold parse
  rw [w0]
  simp only [if_true, pTop]
  rw [pVal, sk_non _ (by decide)]
  simp only [if_true]
  rw [pSev, if_neg hh, m1]
  constructor
  · rintro ⟨hwa, hwb⟩
    rw [pa hwa]
    simp only [Option.map_some]
    rw [pMore, sk_app_nil hta, sk_non _ (by decide)]
    simp only [if_true, m2, pb hwb, Option.map_some]
    generalize hn : (ta ++ 44 :: (B ++ 34 :: (K2 ++ 58 :: (b ++ [125])))).length = n
    obtain ⟨m, rfl⟩ : ∃ m, n = m + 1 := ⟨n - 1, by simp at hn; omega⟩
    rw [pMore, sk_app_nil htb, sk_non _ (by decide)]
    simp [sk]
  · intro hw
    by_cases hwa : WF 5 ja
    · have hwb : ¬ WF 5 jb := fun h => hw ⟨hwa, h⟩
      rw [pa hwa]
      simp only [Option.map_some]
      rw [pMore, sk_app_nil hta, sk_non _ (by decide)]
      simp [m2, nb hwb]
    · rw [na hwa]; simp

/-! ### Ordered -/
def tK (c : UInt8) : Bs := [c, 34]
theorem tK_ok (c : UInt8) (h : c = 107 ∨ c = 75 ∨ c = 97 ∨ c = 98) (q : Bs) : pStr false (tK c ++ q) = some ([c], q) ∧ validD (tK c ++ q) = validD q := by
  rcases h with rfl | rfl | rfl | rfl <;> exact ⟨by simp [tK, pStr_cons, ch], by simp [tK]; rw [validD_cons _ _ (by decide), validD_cons _ _ (by decide)]⟩
theorem tU_ok (q : Bs) : pStr false ([92, 117, 48, 48, 54, 98, 34] ++ q) = some ([107], q) ∧ validD ([92, 117, 48, 48, 54, 98, 34] ++ q) = validD q := by
  refine ⟨?_, validD_low _ _ (by decide)⟩
  have e : esc (117 :: 48 :: 48 :: 54 :: 98 :: 34 :: q) = some (107, 34 :: q) := by simp [esc, escU, hex4, hexV]
  simp only [List.cons_append, List.nil_append]
  rw [pStr_cons]
  simp [ch, e, pStr_cons]
  exact enc_lt 107 (by decide)
theorem ofL_kK (x y : J) : ofL [([107], x), ([75], y)] = [([75], y), ([107], x)] ∧ ofL [([75], y), ([107], x)] = [([75], y), ([107], x)] := by
  have h1 : ([75] : Bs) < [107] := by decide
  have h2 : ¬ ([107] : Bs) < [75] := by decide
  constructor <;> simp [ofL, insK, h1, h2]
def two1 (a b : Bs) : Bs := 123 :: 34 :: 107 :: 34 :: 58 :: (a ++ 44 :: 34 :: 75 :: 34 :: 58 :: (b ++ [125]))
def two2 (x y : Bs) : Bs := 123 :: 34 :: 75 :: 34 :: 58 :: (y ++ 32 :: 44 :: 32 :: 34 :: 92 :: 117 :: 48 :: 48 :: 54 :: 98 :: 34 :: 58 :: (x ++ [125]))
theorem ordered_pure (a b : Bs) (ja jb : J) (ha : parse a = some ja) (hb : parse b = some jb) :
    (parse (two1 a b) = some (.obj [([75], jb), ([107], ja)]) ∧ parse (two2 (cJ ja) (cJ jb)) = some (.obj [([75], jb), ([107], ja)])) ∨ (parse (two1 a b) = none ∧ parse (two2 (cJ ja) (cJ jb)) = none) := by
  have wa := (parse_ok ha).1
  have wb := (parse_ok hb).1
  have t1 := parse_two (tK 107) (tK 75) a b [] [107] [75] ja jb rfl (by decide) (fun q => (tK_ok 107 (by simp) q).1) (fun q => (tK_ok 75 (by simp) q).1) (fun q => (tK_ok 107 (by simp) q).2) (fun q => (tK_ok 75 (by simp) q).2) ha hb
  rw [(ofL_kK ja jb).1] at t1
  have hb' : parse (cJ jb ++ [32]) = some jb := by
    have hv : validD (cJ jb ++ [32]) = true := by rw [validD_cJ 6 jb _ wb]; decide
    have hp := pVal_cJ 6 jb [32] wb (by intro c hc; simp at hc; subst hc; decide)
    unfold parse
    rw [hv]
    simp only [if_true, pTop, hp]
    simp [sk, isBl]
  have t2 := parse_two (tK 75) [92, 117, 48, 48, 54, 98, 34] (cJ jb ++ [32]) (cJ ja) [32] [75] [107] jb ja (by simp [sk, isBl]) (by decide) (fun q => (tK_ok 75 (by simp) q).1) (fun q => (tU_ok q).1) (fun q => (tK_ok 75 (by simp) q).2) (fun q => (tU_ok q).2) hb' (parse_cJ ja wa)
  rw [(ofL_kK ja jb).2] at t2
  simp only [tK, List.append_assoc, List.cons_append, List.nil_append] at t1 t2
  unfold two1 two2
  by_cases h : WF 5 ja ∧ WF 5 jb
  · exact .inl ⟨t1.1 h, t2.1 h.symm⟩
  · exact .inr ⟨t1.2 h, t2.2 (fun g => h g.symm)⟩
theorem known_two : parse [123, 34, 98, 34, 58, 49, 44, 34, 97, 34, 58, 50, 125] = some (.obj [([97], .num 2), ([98], .num 1)]) := by
  have h1 : parse [49] = some (.num 1) := by
    have := parse_cJ (.num 1) (by simp [WF, maxNum])
    rwa [show cJ (.num 1) = [49] by rw [cJ, cNum, if_neg (by decide), decN, if_pos (by decide)]; rfl] at this
  have h2 : parse [50] = some (.num 2) := by
    have := parse_cJ (.num 2) (by simp [WF, maxNum])
    rwa [show cJ (.num 2) = [50] by rw [cJ, cNum, if_neg (by decide), decN, if_pos (by decide)]; rfl] at this
  have := parse_two (tK 98) (tK 97) [49] [50] [] [98] [97] _ _ rfl (by decide) (fun q => (tK_ok 98 (by simp) q).1) (fun q => (tK_ok 97 (by simp) q).1) (fun q => (tK_ok 98 (by simp) q).2) (fun q => (tK_ok 97 (by simp) q).2) h1 h2
  have this := this.1 ⟨by simp [WF, maxNum], by simp [WF, maxNum]⟩
  have h3 : ([97] : Bs) < [98] := by decide
  simpa [tK, ofL, insK, h3] using this
theorem known_empty : parse [32, 123, 32, 125, 32] = some (.obj []) := by
  have e : pVal false 6 [32, 123, 32, 125, 32] = some (.obj [], [32]) := by
    rw [pVal]; simp [sk, isBl, pSev, ofL]
  unfold parse
  rw [show validD [32, 123, 32, 125, 32] = true by decide]
  simp [pTop, e, sk, isBl]
end Go.Proofs.YtocligpfmfmihaaGreatDoor

import Derived.Test.YtocligpfmfmihabGreatDoorJson
namespace Go.Proofs.YtocligpfmfmihabGreatDoor
open Go.Lib

/-! ### canonical JSON -/
def hexD (n : Nat) : UInt8 := if n < 10 then UInt8.ofNat (48 + n) else UInt8.ofNat (87 + n)
def cB (c : UInt8) : Bs :=
  if c = 34 ∨ c = 92 then [92, c] else if c = 8 then [92, 98] else if c = 12 then [92, 102] else if c = 10 then [92, 110] else if c = 13 then [92, 114] else if c = 9 then [92, 116]
  else if c < 32 then [92, 117, 48, 48, hexD (c.toNat / 16), hexD (c.toNat % 16)] else [c]
def cStr (s : Bs) : Bs := 34 :: (s.flatMap cB ++ [34])
def decN (n : Nat) : Bs := if n < 10 then [UInt8.ofNat (48 + n)] else decN (n / 10) ++ [UInt8.ofNat (48 + n % 10)]
def cNum (n : Int) : Bs := if n < 0 then 45 :: decN n.natAbs else decN n.natAbs
/-- With commas between. -/
def joinC : List Bs → Bs
  | [] => []
  | [x] => x
  | x :: y :: l => x ++ 44 :: joinC (y :: l)
mutual
def cJ : J → Bs
  | .null => [110, 117, 108, 108]
  | .bool b => if b then [116, 114, 117, 101] else [102, 97, 108, 115, 101]
  | .num n => cNum n
  | .str s => cStr s
  | .arr l => 91 :: (joinC (cJs l) ++ [93])
  | .obj l => 123 :: (joinC (cMs l) ++ [125])
def cJs : List J → List Bs
  | [] => []
  | x :: l => cJ x :: cJs l
def cMs : List (Bs × J) → List Bs
  | [] => []
  | (k, x) :: l => (cStr k ++ 58 :: cJ x) :: cMs l
end
def cMem (p : Bs × J) : Bs := cStr p.1 ++ 58 :: cJ p.2
theorem cJs_map (l : List J) : cJs l = l.map cJ := by
  induction l with
  | nil => rfl
  | cons x l ih => simp [cJs, ih]
theorem cMs_map (l : List (Bs × J)) : cMs l = l.map cMem := by
  induction l with
  | nil => rfl
  | cons x l ih => obtain ⟨k, v⟩ := x; simp [cMs, cMem, ih]
theorem cJ_arr (l : List J) : cJ (.arr l) = 91 :: (joinC (l.map cJ) ++ [93]) := by rw [cJ, cJs_map]
theorem cJ_obj (l : List (Bs × J)) : cJ (.obj l) = 123 :: (joinC (l.map cMem) ++ [125]) := by rw [cJ, cMs_map]
theorem joinC_snoc (l : List Bs) (x : Bs) : joinC (l ++ [x]) = if l = [] then x else joinC l ++ 44 :: x := by
  induction l with
  | nil => simp [joinC]
  | cons a l ih =>
    cases l with
    | nil => simp [joinC]
    | cons b l => simp [joinC] at ih ⊢; rw [ih]

/-! ### trees that a text gives -/
mutual
def WF : Nat → J → Prop
  | _, .null => True
  | _, .bool _ => True
  | _, .num n => n.natAbs ≤ maxNum
  | _, .str s => validD s = true
  | 0, .arr _ => False
  | 0, .obj _ => False
  | d + 1, .arr l => WFs d l
  | d + 1, .obj l => Srt l ∧ WFm d l
def WFs : Nat → List J → Prop
  | _, [] => True
  | d, x :: l => WF d x ∧ WFs d l
def WFm : Nat → List (Bs × J) → Prop
  | _, [] => True
  | d, (k, x) :: l => validD k = true ∧ WF d x ∧ WFm d l
end
theorem WFs_iff (d : Nat) (l : List J) : WFs d l ↔ ∀ x ∈ l, WF d x := by
  induction l with
  | nil => simp [WFs]
  | cons x l ih => simp [WFs, ih]
theorem WFm_iff (d : Nat) (l : List (Bs × J)) : WFm d l ↔ ∀ p ∈ l, validD p.1 = true ∧ WF d p.2 := by
  induction l with
  | nil => simp [WFm]
  | cons x l ih => obtain ⟨k, v⟩ := x; simp [WFm, ih, and_assoc]

/-! ### strings -/
theorem enc_lt (n : Nat) (h : n < 128) : (Utf8.encode (n : Int)).data.toList = [UInt8.ofNat n] := by
  have hv : Utf8.valid (n : Int) = true := by unfold Utf8.valid; simp; omega
  unfold Utf8.encode
  simp [hv, h]
theorem hexV_hexD : ∀ k, k < 16 → hexV (hexD k) = some k := by decide
theorem esc_u00 (a b : Nat) (ha : a < 2) (hb : b < 16) (r : Bs) : esc (117 :: 48 :: 48 :: hexD a :: hexD b :: r) = some (a * 16 + b, r) := by
  have h0 : hexV 48 = some 0 := by decide
  simp [esc, escU, hex4, h0, hexV_hexD a (by omega), hexV_hexD b hb]
  omega
theorem ofNat_toNat' (c : UInt8) : UInt8.ofNat c.toNat = c := by simp
/-- A byte of a string, written and read again. -/
theorem pStr_cB (c : UInt8) (r : Bs) : pStr false (cB c ++ r) = (pStr false r).map fun x => (c :: x.1, x.2) := by
  have hesc : ∀ (x : Nat) (q : Bs), x < 128 → esc q = some (x, r) → pStr false (92 :: q) = (pStr false r).map fun y => (UInt8.ofNat x :: y.1, y.2) := by
    intro x q hx he
    rw [pStr_cons, if_neg (by decide)]
    simp [ch, he, enc_lt x hx]
  unfold cB
  split
  · rename_i h
    rcases h with rfl | rfl
    · exact hesc 34 _ (by decide) (by simp [esc])
    · exact hesc 92 _ (by decide) (by simp [esc])
  · rename_i h
    split
    · rename_i h; subst h; exact hesc 8 _ (by decide) (by simp [esc])
    · split
      · rename_i h; subst h; exact hesc 12 _ (by decide) (by simp [esc])
      · split
        · rename_i h; subst h; exact hesc 10 _ (by decide) (by simp [esc])
        · split
          · rename_i h; subst h; exact hesc 13 _ (by decide) (by simp [esc])
          · split
            · rename_i h; subst h; exact hesc 9 _ (by decide) (by simp [esc])
            · split
              · rename_i h
                have h := UInt8.lt_iff_toNat_lt.1 h
                simp at h
                have := hesc (c.toNat / 16 * 16 + c.toNat % 16) _ (by omega) (esc_u00 (c.toNat / 16) (c.toNat % 16) (by omega) (by omega) r)
                rw [show c.toNat / 16 * 16 + c.toNat % 16 = c.toNat by omega, ofNat_toNat'] at this
                exact this
              · rename_i h32
                have h34 : c ≠ 34 := fun e => h (.inl e)
                have h92 : c ≠ 92 := fun e => h (.inr e)
                rw [List.singleton_append, pStr_cons, if_neg h34]
                simp [ch, h32, h92]
theorem pStr_cStr (s r : Bs) : pStr false (s.flatMap cB ++ 34 :: r) = some (s, r) := by
  induction s with
  | nil => simp [pStr_cons]
  | cons c s ih => rw [List.flatMap_cons, List.append_assoc, pStr_cB, ih]; simp

/-! ### UTF-8 of what is written -/
set_option maxRecDepth 100000 in
set_option maxHeartbeats 4000000 in
theorem decN_more (n m b0 b1 b2 b3 c1 c2 c3 k : Nat) (hk : (decodeN n b0 b1 b2 b3).2 = k) (hkn : k ≤ n) (hkm : k ≤ m) (hb : ¬ ((decodeN n b0 b1 b2 b3).1 = 65533 ∧ k = 1))
    (h1 : 1 < k → c1 = b1) (h2 : 2 < k → c2 = b2) (h3 : 3 < k → c3 = b3) : decodeN m b0 c1 c2 c3 = decodeN n b0 b1 b2 b3 := by
  have h4 : k = 1 ∨ k = 2 ∨ k = 3 ∨ k = 4 := by
    rw [← hk]; unfold decodeN
    repeat' split
    all_goals simp
  have hb' : ¬ (decodeN n b0 b1 b2 b3 = (65533, 1)) := by
    intro e; rw [e] at hk hb; simp at hk; exact hb ⟨rfl, hk.symm⟩
  rcases h4 with rfl | rfl | rfl | rfl
  · have hlt : b0 < 128 := by
      clear h1 h2 h3 hb
      unfold decodeN at hk hb'
      repeat' split at hk
      all_goals first | assumption | (simp at hk; done) | simp_all
    simp [decodeN, hlt]
  · obtain rfl := h1 (by decide)
    clear h1 h2 h3 hb
    unfold decodeN at hk hb' ⊢
    repeat' split at hk
    all_goals first | (simp at hk; done) | skip
    all_goals clear hb' hk
    all_goals repeat' split
    all_goals first | rfl | (exfalso; omega)
  · obtain rfl := h1 (by decide)
    obtain rfl := h2 (by decide)
    clear h1 h2 h3 hb
    unfold decodeN at hk hb' ⊢
    repeat' split at hk
    all_goals first | (simp at hk; done) | skip
    all_goals clear hb' hk
    all_goals repeat' split
    all_goals first | rfl | (exfalso; omega)
  · obtain rfl := h1 (by decide)
    obtain rfl := h2 (by decide)
    obtain rfl := h3 (by decide)
    clear h1 h2 h3 hb
    unfold decodeN at hk hb' ⊢
    repeat' split at hk
    all_goals first | (simp at hk; done) | skip
    all_goals clear hb' hk
    all_goals repeat' split
    all_goals first | rfl | (exfalso; omega)
theorem getD_append_left' (l r : Bs) (i : Nat) (h : i < l.length) : (l ++ r).getD i 0 = l.getD i 0 := by
  simp [List.getD_eq_getElem?_getD, List.getElem?_append_left h]
/-- The first rune hangs on its own bytes alone. -/
theorem dec_own (l r : Bs) (hne : l ≠ []) (hb : ¬ ((decodeL l).1 = 65533 ∧ (decodeL l).2 = 1)) : decodeL (l.take (decodeL l).2 ++ r) = decodeL l := by
  have hk := decodeL_le l hne
  have hw := decodeL_width l
  generalize hkk : (decodeL l).2 = k at hk hw hb
  have hlen : (l.take k).length = k := by simp; omega
  have g : ∀ i, i < k → (l.take k ++ r).getD i 0 = l.getD i 0 := by
    intro i hi
    rw [getD_append_left' _ _ _ (by omega)]
    simp [List.getD_eq_getElem?_getD, hi]
  rw [decodeL_N (l.take k ++ r), g 0 (by omega)]
  rw [decodeL_N l] at hkk hb ⊢
  refine decN_more _ _ _ _ _ _ _ _ _ k hkk hk (by simp; omega) hb ?_ ?_ ?_
  · intro h; rw [g 1 h]
  · intro h; rw [g 2 h]
  · intro h; rw [g 3 h]
theorem cB_high (c : UInt8) (h : 128 ≤ c.toNat) : cB c = [c] := by
  have ne : ∀ x : UInt8, x.toNat < 128 → c ≠ x := by rintro x hx rfl; omega
  have n32 : ¬ c < 32 := by rw [UInt8.lt_iff_toNat_lt]; simp; omega
  simp [cB, ne 34 (by decide), ne 92 (by decide), ne 8 (by decide), ne 12 (by decide), ne 10 (by decide), ne 13 (by decide), ne 9 (by decide), n32]
theorem hexD_lt (k : Nat) (h : k < 16) : (hexD k).toNat < 128 := by
  have : ∀ k, k < 16 → (hexD k).toNat < 128 := by decide
  exact this k h
theorem cB_low (c : UInt8) (h : c.toNat < 128) : ∀ b ∈ cB c, b.toNat < 128 := by
  unfold cB
  intro b hb
  repeat' split at hb
  all_goals simp only [List.mem_cons, List.not_mem_nil, or_false] at hb
  case isFalse.isFalse.isFalse.isFalse.isFalse.isFalse.isTrue =>
    rename_i h32
    have h32 := UInt8.lt_iff_toNat_lt.1 h32
    simp at h32
    rcases hb with rfl | rfl | rfl | rfl | rfl | rfl
    all_goals first | decide | exact hexD_lt _ (by omega)
  all_goals first | (rcases hb with rfl | rfl <;> first | decide | exact h) | (subst hb; exact h)
theorem flat_high (l : Bs) (h : ∀ b ∈ l, 128 ≤ b.toNat) : l.flatMap cB = l := by
  induction l with
  | nil => rfl
  | cons c l ih => rw [List.flatMap_cons, cB_high c (h c (by simp)), ih (fun b hb => h b (by simp [hb]))]; rfl
theorem validD_low (l r : Bs) (h : ∀ b ∈ l, b.toNat < 128) : validD (l ++ r) = validD r := by
  induction l with
  | nil => rfl
  | cons c l ih => rw [List.cons_append, validD_cons _ _ (h c (by simp)), ih (fun b hb => h b (by simp [hb]))]
theorem validD_flat : ∀ (n : Nat) (l r : Bs), l.length ≤ n → validD l = true → validD (l.flatMap cB ++ r) = validD r
  | n, [], r, _, _ => by simp
  | 0, c :: t, r, hn, _ => by simp at hn
  | n + 1, c :: t, r, hn, hv => by
    have hbad : ¬ ((decodeL (c :: t)).1 = 65533 ∧ (decodeL (c :: t)).2 = 1) := by
      intro hb
      rw [validD_step _ (by simp), if_pos hb] at hv
      cases hv
    rw [validD_step _ (by simp), if_neg hbad] at hv
    have hw := decodeL_width (c :: t)
    by_cases hc : c.toNat < 128
    · rw [decodeL_ascii c t hc] at hv
      rw [List.flatMap_cons, List.append_assoc, validD_low _ _ (cB_low c hc)]
      exact validD_flat n t r (by simpa using hn) (by simpa using hv)
    · obtain ⟨hk, hh⟩ := dec_high (c :: t) (by simp) (by simpa using hc)
      have hi := getD_take hh hk
      have e := dec_own (c :: t) (((c :: t).drop (decodeL (c :: t)).2).flatMap cB ++ r) (by simp) hbad
      have e1 : (c :: t).flatMap cB = (c :: t).take (decodeL (c :: t)).2 ++ ((c :: t).drop (decodeL (c :: t)).2).flatMap cB := by
        conv => lhs; rw [← List.take_append_drop (decodeL (c :: t)).2 (c :: t), List.flatMap_append, flat_high _ hi]
      rw [e1, List.append_assoc]
      generalize hk' : (decodeL (c :: t)).2 = k at *
      have hlen : ((c :: t).take k).length = k := by simp only [List.length_take]; omega
      rw [validD_step _ (by intro h0; have := congrArg List.length h0; rw [List.length_append, hlen] at this; simp at this; omega), e, hk', if_neg hbad]
      rw [List.drop_append_of_le_length (by omega), List.drop_eq_nil_of_le (by omega), List.nil_append]
      exact validD_flat n _ r (by rw [List.length_drop]; simp only [List.length_cons] at *; omega) hv
theorem validD_cStr (s r : Bs) (h : validD s = true) : validD (cStr s ++ r) = validD r := by
  unfold cStr
  rw [List.cons_append, validD_cons _ _ (by decide), List.append_assoc, validD_flat _ _ _ (Nat.le_refl _) h]
  exact validD_cons _ _ (by decide)

end Go.Proofs.YtocligpfmfmihabGreatDoor
namespace Go.Proofs.YtocligpfmfmihabGreatDoor
open Go.Lib

/-! ### numbers -/
theorem natOf_snoc (l : Bs) (c : UInt8) : natOf (l ++ [c]) = natOf l * 10 + (c.toNat - 48) := by simp [natOf]
theorem dg_of (k : Nat) (h : k < 10) : isDg (UInt8.ofNat (48 + k)) = true ∧ (UInt8.ofNat (48 + k)).toNat = 48 + k := by
  have : ∀ k, k < 10 → isDg (UInt8.ofNat (48 + k)) = true ∧ (UInt8.ofNat (48 + k)).toNat = 48 + k := by decide
  exact this k h
theorem decN_dg (n : Nat) : ∀ c ∈ decN n, isDg c = true := by
  induction n using Nat.strongRecOn with
  | _ n ih =>
    rw [decN]
    split
    · rename_i h
      intro c hc
      obtain rfl := List.mem_singleton.1 hc
      exact (dg_of n h).1
    · rename_i h
      intro c hc
      rcases List.mem_append.1 hc with hc | hc
      · exact ih (n / 10) (by omega) c hc
      · obtain rfl := List.mem_singleton.1 hc
        exact (dg_of (n % 10) (by omega)).1
theorem natOf_decN (n : Nat) : natOf (decN n) = n := by
  induction n using Nat.strongRecOn with
  | _ n ih =>
    rw [decN]
    split
    · rename_i h
      simp only [natOf, List.foldl_cons, List.foldl_nil]
      rw [(dg_of n h).2]; omega
    · rename_i h
      rw [natOf_snoc, ih (n / 10) (by omega), (dg_of (n % 10) (by omega)).2]; omega
theorem decN_ne (n : Nat) : decN n ≠ [] := by
  rw [decN]; split <;> simp
theorem decN_head (n : Nat) (h : 0 < n) : (decN n).head? ≠ some 48 := by
  induction n using Nat.strongRecOn with
  | _ n ih =>
    rw [decN]
    split
    · rename_i hl
      simp only [List.head?_cons, ne_eq, Option.some.injEq]
      intro e
      have := (dg_of n hl).2
      rw [e] at this
      simp at this; omega
    · rename_i hl
      have := ih (n / 10) (by omega) (by omega)
      cases hd : decN (n / 10) with
      | nil => exact absurd hd (decN_ne _)
      | cons c t => rw [hd] at this; simpa using this
theorem whole_decN (n : Nat) : whole (decN n) = true := by
  unfold whole
  by_cases h : n = 0
  · subst h; rw [decN]; decide
  · simp [decN_ne, decN_head n (by omega)]
/-- No digit comes next. -/
def NoDg (r : Bs) : Prop := ∀ c ∈ r.head?, isDg c = false
theorem takeDg_app (l r : Bs) (h : ∀ c ∈ l, isDg c = true) (hr : NoDg r) : (l ++ r).takeWhile isDg = l ∧ (l ++ r).dropWhile isDg = r := by
  induction l with
  | nil =>
    cases r with
    | nil => simp
    | cons c t =>
      have := hr c (by simp)
      simp [this]
  | cons c l ih =>
    have hc := h c (by simp)
    obtain ⟨h1, h2⟩ := ih (fun b hb => h b (by simp [hb]))
    simp [hc, h1, h2]
theorem pNat_decN (n : Nat) (r : Bs) (hn : n ≤ maxNum) (hr : NoDg r) : pNat (decN n ++ r) = some (n, r) := by
  obtain ⟨h1, h2⟩ := takeDg_app (decN n) r (decN_dg n) hr
  unfold pNat dgs
  rw [h1, h2, whole_decN, natOf_decN]
  simp [hn]
theorem decN_cons (n : Nat) : ∃ c t, decN n = c :: t ∧ isDg c = true := by
  cases h : decN n with
  | nil => exact absurd h (decN_ne n)
  | cons c t => exact ⟨c, t, rfl, decN_dg n c (by simp [h])⟩
theorem dg_ne {c x : UInt8} (h : isDg c = true) (hx : isDg x = false) : c ≠ x := by rintro rfl; rw [h] at hx; cases hx
theorem pNum_cNum (n : Int) (r : Bs) (hn : n.natAbs ≤ maxNum) (hr : NoDg r) : pNum (cNum n ++ r) = some (n, r) := by
  unfold cNum
  split
  · rename_i h
    simp only [List.cons_append, pNum, if_true, pNat_decN _ _ hn hr]
    rw [if_neg (by omega)]
    simp; omega
  · rename_i h
    obtain ⟨c, t, e, hc⟩ := decN_cons n.natAbs
    have := pNat_decN _ _ hn hr
    rw [e] at this ⊢
    simp only [List.cons_append] at this ⊢
    simp only [pNum, if_neg (dg_ne hc (by decide : isDg 45 = false)), this, Option.map_some]
    simp; omega

/-! ### heads -/
theorem cJ_head (j : J) : ∃ c t, cJ j = c :: t ∧ isBl c = false ∧ c ≠ 93 ∧ c ≠ 125 := by
  have dgh : ∀ c, isDg c = true → isBl c = false ∧ c ≠ 93 ∧ c ≠ 125 := by
    intro c h
    have nb : isBl c = false := by
      cases hb : isBl c with
      | false => rfl
      | true =>
        unfold isBl at hb
        simp only [Bool.or_eq_true, beq_iff_eq] at hb
        rcases hb with ((rfl | rfl) | rfl) | rfl <;> revert h <;> decide
    exact ⟨nb, dg_ne h (by decide), dg_ne h (by decide)⟩
  cases j with
  | null => exact ⟨_, _, by rw [cJ], by decide, by decide, by decide⟩
  | bool b => cases b with
    | true => exact ⟨116, [114, 117, 101], by simp [cJ], by decide, by decide, by decide⟩
    | false => exact ⟨102, [97, 108, 115, 101], by simp [cJ], by decide, by decide, by decide⟩
  | num n =>
    simp only [cJ, cNum]
    split
    · exact ⟨_, _, rfl, by decide, by decide, by decide⟩
    · obtain ⟨c, t, e, hc⟩ := decN_cons n.natAbs
      exact ⟨c, t, e, dgh c hc⟩
  | str s => exact ⟨34, _, by rw [cJ, cStr], by decide, by decide, by decide⟩
  | arr l => exact ⟨91, _, by rw [cJ], by decide, by decide, by decide⟩
  | obj l => exact ⟨123, _, by rw [cJ], by decide, by decide, by decide⟩
theorem sk_non {c : UInt8} (t : Bs) (h : isBl c = false) : sk (c :: t) = c :: t := by simp [sk, h]

/-! ### lists -/
theorem joinC_cons (x : Bs) (l : List Bs) : joinC (x :: l) = x ++ l.flatMap (fun y => 44 :: y) := by
  induction l generalizing x with
  | nil => simp [joinC]
  | cons y l ih => rw [joinC, ih y]; simp
theorem pMore_tail {σ α : Type} (p : σ → Bs → Option (σ × Bs)) (e : UInt8) (he : isBl e = false) (he' : e ≠ 44) (f : α → Bs) (st : σ → α → σ) (r : Bs) :
    ∀ (l : List α) (a : σ) (n : Nat), l.length < n →
      (∀ (l1 : List α) (x : α) (l2 : List α) (q : Bs), l = l1 ++ x :: l2 → NoDg q → p (l1.foldl st a) (f x ++ q) = some (st (l1.foldl st a) x, q)) → isDg e = false →
      pMore p e n a (l.flatMap (fun y => 44 :: f y) ++ e :: r) = some (l.foldl st a, r)
  | [], a, n, hn, _, _ => by
    obtain ⟨m, rfl⟩ : ∃ m, n = m + 1 := ⟨n - 1, by simp at hn; omega⟩
    simp [pMore, sk_non _ he, he']
  | x :: l, a, n, hn, hp, hd => by
    obtain ⟨m, rfl⟩ : ∃ m, n = m + 1 := ⟨n - 1, by simp at hn; omega⟩
    have nd : NoDg (l.flatMap (fun y => 44 :: f y) ++ e :: r) := by
      cases l with
      | nil => intro c hc; simp at hc; subst hc; exact hd
      | cons y l => intro c hc; simp at hc; subst hc; decide
    have hx := hp [] x l _ rfl nd
    simp only [List.foldl_nil] at hx
    simp only [List.flatMap_cons, List.cons_append, List.append_assoc]
    rw [pMore, sk_non _ (by decide)]
    simp only [if_true, hx]
    rw [List.foldl_cons]
    refine pMore_tail p e he he' f st r l (st a x) m (by simp at hn; omega) ?_ hd
    intro l1 y l2 q hl hq
    have := hp (x :: l1) y l2 q (by rw [hl]; rfl) hq
    simpa using this
theorem flat_len {α : Type} (f : α → Bs) (l : List α) (r : Bs) : l.length ≤ (l.flatMap (fun y => 44 :: f y) ++ r).length := by
  induction l with
  | nil => simp
  | cons x l ih => simp at ih ⊢; omega
theorem pSev_list {σ α : Type} (p : σ → Bs → Option (σ × Bs)) (e : UInt8) (he : isBl e = false) (he' : e ≠ 44) (hd : isDg e = false) (f : α → Bs) (st : σ → α → σ) (r : Bs) (a : σ) (l : List α)
    (hf : ∀ x, ∃ c t, f x = c :: t ∧ isBl c = false ∧ c ≠ e)
    (hp : ∀ (l1 : List α) (x : α) (l2 : List α) (q : Bs), l = l1 ++ x :: l2 → NoDg q → p (l1.foldl st a) (f x ++ q) = some (st (l1.foldl st a) x, q)) :
    pSev p e a (joinC (l.map f) ++ e :: r) = some (l.foldl st a, r) := by
  cases l with
  | nil => simp [pSev, joinC, sk_non _ he]
  | cons x l =>
    obtain ⟨c, t, hx, hb, hc⟩ := hf x
    have ejl : joinC ((x :: l).map f) = f x ++ l.flatMap (fun y => 44 :: f y) := by
      rw [List.map_cons, joinC_cons, List.flatMap_map]
    rw [ejl, List.append_assoc]
    have nd : NoDg (l.flatMap (fun y => 44 :: f y) ++ e :: r) := by
      cases l with
      | nil => intro c hc; simp at hc; subst hc; exact hd
      | cons y l => intro c hc; simp at hc; subst hc; decide
    have h1 := hp [] x l _ rfl nd
    simp only [List.foldl_nil] at h1
    unfold pSev
    have hsk : (sk (f x ++ (l.flatMap (fun y => 44 :: f y) ++ e :: r))).head? ≠ some e := by
      rw [hx, List.cons_append, sk_non _ hb]; simpa using hc
    rw [if_neg hsk, h1]
    simp only
    refine pMore_tail p e he he' f st r l (st a x) _ (by have := flat_len f l (e :: r); omega) ?_ hd
    intro l1 y l2 q hl hq
    have := hp (x :: l1) y l2 q (by rw [hl]; rfl) hq
    simpa using this
theorem foldl_snoc {α : Type} (l a : List α) : l.foldl (fun a x => a ++ [x]) a = a ++ l := by
  induction l generalizing a with
  | nil => simp
  | cons x l ih => simp [ih]
theorem insK_last {α : Type} (k : Bs) (v : α) (l : List (Bs × α)) (h : ∀ p ∈ l, p.1 < k) : insK k v l = l ++ [(k, v)] := by
  induction l with
  | nil => rfl
  | cons q l ih =>
    obtain ⟨a, x⟩ := q
    have ha : a < k := h (a, x) (by simp)
    rw [insK, if_neg (fun g => lt_irr _ (lt_tr ha g)), if_neg (fun e => by subst e; exact lt_irr _ ha), ih (fun p hp => h p (by simp [hp]))]
    rfl
theorem ofL_srt {α : Type} (l : List (Bs × α)) (h : Srt l) : ofL l = l := by
  have : ∀ (l a : List (Bs × α)), Srt (a ++ l) → l.foldl (fun a p => insK p.1 p.2 a) a = a ++ l := by
    intro l
    induction l with
    | nil => intro a _; simp
    | cons p l ih =>
      intro a ha
      have h1 : ∀ q ∈ a, q.1 < p.1 := fun q hq => (List.pairwise_append.1 ha).2.2 q hq p (by simp)
      rw [List.foldl_cons, insK_last _ _ _ h1, ih _ (by simpa using ha)]
      simp
  exact this l [] h
theorem srt_look {α : Type} {l1 l2 : List (Bs × α)} {k : Bs} {v : α} (h : Srt (l1 ++ (k, v) :: l2)) : lookK k l1 = none := by
  rw [lookK_none]
  intro p hp e
  have := (List.pairwise_append.1 h).2.2 p hp (k, v) (by simp)
  rw [e] at this
  exact lt_irr _ this

/-! ### canonical JSON, read again -/
theorem pVal_sca (d : Nat) (c : UInt8) (t : Bs) (hb : isBl c = false) (h1 : c ≠ 123) (h2 : c ≠ 91) : pVal false d (c :: t) = pSca false c t := by
  cases d with
  | zero => simp [pVal, sk_non _ hb, h1, h2]
  | succ d => simp [pVal, sk_non _ hb, h1, h2]
theorem pVal_num (d : Nat) (n : Int) (r : Bs) (hn : n.natAbs ≤ maxNum) (hr : NoDg r) : pVal false d (cNum n ++ r) = some (.num n, r) := by
  have h := pNum_cNum n r hn hr
  obtain ⟨c, t, e, hb, hc⟩ : ∃ c t, cNum n = c :: t ∧ isBl c = false ∧ (c = 45 ∨ isDg c = true) := by
    obtain ⟨c, t, e, hb, _, _⟩ := cJ_head (.num n)
    simp only [cJ] at e
    refine ⟨c, t, e, hb, ?_⟩
    unfold cNum at e
    split at e
    · simp at e; exact .inl e.1.symm
    · obtain ⟨c', t', e', hc'⟩ := decN_cons n.natAbs
      rw [e'] at e; simp at e; rw [← e.1]; exact .inr hc'
  have n34 : c ≠ 34 := by rcases hc with rfl | hc; decide; exact dg_ne hc (by decide)
  rw [e] at h ⊢
  rw [List.cons_append, pVal_sca d c _ hb (by rcases hc with rfl | hc; decide; exact dg_ne hc (by decide)) (by rcases hc with rfl | hc; decide; exact dg_ne hc (by decide))]
  simp only [pSca, if_neg n34, if_pos hc]
  rw [List.cons_append] at h
  rw [h]; rfl
theorem pVal_str (d : Nat) (s r : Bs) : pVal false d (cStr s ++ r) = some (.str s, r) := by
  unfold cStr
  rw [List.cons_append, pVal_sca d _ _ (by decide) (by decide) (by decide)]
  simp [pSca, pStr_cStr]
theorem pVal_word (d : Nat) (j : J) (r : Bs) (h : j = .null ∨ ∃ b, j = .bool b) : pVal false d (cJ j ++ r) = some (j, r) := by
  rcases h with rfl | ⟨b, rfl⟩
  · simp only [cJ, List.cons_append]; rw [pVal_sca _ _ _ (by decide) (by decide) (by decide)]; simp [pSca, isDg, pWord]
  · cases b <;> (simp only [cJ, if_true, Bool.false_eq_true, if_false, List.cons_append]; rw [pVal_sca _ _ _ (by decide) (by decide) (by decide)]; simp [pSca, isDg, pWord])
theorem pVal_cJ : ∀ (d : Nat) (j : J) (r : Bs), WF d j → NoDg r → pVal false d (cJ j ++ r) = some (j, r)
  | d, .null, r, _, _ => pVal_word d _ r (.inl rfl)
  | d, .bool b, r, _, _ => pVal_word d _ r (.inr ⟨b, rfl⟩)
  | d, .num n, r, hw, hr => by rw [cJ]; exact pVal_num d n r (by simpa [WF] using hw) hr
  | d, .str s, r, _, _ => by rw [cJ]; exact pVal_str d s r
  | 0, .arr l, r, hw, _ => by simp [WF] at hw
  | 0, .obj l, r, hw, _ => by simp [WF] at hw
  | d + 1, .arr l, r, hw, _ => by
    simp only [WF, WFs_iff] at hw
    rw [cJ_arr, List.cons_append, pVal, sk_non _ (by decide)]
    simp only [show ¬ ((91 : UInt8) = 123) by decide, if_false, if_true, List.append_assoc, List.singleton_append]
    rw [pSev_list (pEl (pVal false d)) 93 (by decide) (by decide) (by decide) cJ (fun a x => a ++ [x]) r [] l]
    · rw [foldl_snoc]; rfl
    · intro x; obtain ⟨c, t, h1, h2, h3, _⟩ := cJ_head x; exact ⟨c, t, h1, h2, h3⟩
    · intro l1 x l2 q hl hq
      rw [pEl, pVal_cJ d x q (hw x (by rw [hl]; simp)) hq]; rfl
  | d + 1, .obj l, r, hw, _ => by
    simp only [WF, WFm_iff] at hw
    obtain ⟨hs, hw⟩ := hw
    rw [cJ_obj, List.cons_append, pVal, sk_non _ (by decide)]
    simp only [if_true, List.append_assoc, List.singleton_append]
    rw [pSev_list (pMem false (pVal false d)) 125 (by decide) (by decide) (by decide) cMem (fun a x => a ++ [x]) r [] l]
    · rw [foldl_snoc, List.nil_append]; simp only [Option.map_some, ofL_srt l hs]
    · intro x; exact ⟨34, _, by rw [cMem, cStr]; rfl, by decide, by decide⟩
    · intro l1 x l2 q hl hq
      obtain ⟨k, v⟩ := x
      have hv := pVal_cJ d v q (hw (k, v) (by rw [hl]; simp)).2 hq
      have hk : lookK k l1 = none := srt_look (by rw [hl] at hs; exact hs)
      simp only [foldl_snoc, List.nil_append, cMem, cStr, List.cons_append, List.append_assoc, pMem]
      rw [sk_non _ (by decide)]
      simp only [if_true, pStr_cStr, hk, Option.isSome_none, Bool.false_eq_true, if_false]
      rw [sk_non _ (by decide)]
      simp only [if_true, hv, Option.map_some]
theorem validD_decN (n : Nat) (r : Bs) : validD (decN n ++ r) = validD r := validD_low _ _ (fun b hb => dg_lt (decN_dg n b hb))
theorem validD_cNum (n : Int) (r : Bs) : validD (cNum n ++ r) = validD r := by
  unfold cNum
  split
  · rw [List.cons_append, validD_cons _ _ (by decide), validD_decN]
  · exact validD_decN _ _
theorem validD_join {α : Type} (f : α → Bs) (r : Bs) : ∀ (l : List α), (∀ x ∈ l, ∀ q, validD (f x ++ q) = validD q) → validD (joinC (l.map f) ++ r) = validD r
  | [], _ => by simp [joinC]
  | x :: l, h => by
    rw [List.map_cons, joinC_cons, List.append_assoc, h x (by simp), List.flatMap_map]
    have : ∀ (l : List α), (∀ x ∈ l, ∀ q, validD (f x ++ q) = validD q) → validD (l.flatMap (fun a => 44 :: f a) ++ r) = validD r := by
      intro l
      induction l with
      | nil => intro _; rfl
      | cons y l ih =>
        intro h
        rw [List.flatMap_cons, List.cons_append, List.cons_append, validD_cons _ _ (by decide), List.append_assoc, h y (by simp), ih (fun x hx => h x (by simp [hx]))]
    exact this l (fun x hx => h x (by simp [hx]))
theorem validD_cJ : ∀ (d : Nat) (j : J) (r : Bs), WF d j → validD (cJ j ++ r) = validD r
  | d, .null, r, _ => by rw [cJ]; exact validD_low _ _ (by decide)
  | d, .bool b, r, _ => by rw [cJ]; exact validD_low _ _ (by cases b <;> decide)
  | d, .num n, r, hw => by rw [cJ]; exact validD_cNum n r
  | d, .str s, r, hw => by rw [cJ]; exact validD_cStr s r (by simpa [WF] using hw)
  | 0, .arr l, r, hw => by simp [WF] at hw
  | 0, .obj l, r, hw => by simp [WF] at hw
  | d + 1, .arr l, r, hw => by
    simp only [WF, WFs_iff] at hw
    rw [cJ_arr, List.cons_append, validD_cons _ _ (by decide), List.append_assoc, validD_join cJ _ l (fun x hx q => validD_cJ d x q (hw x hx))]
    exact validD_cons _ _ (by decide)
  | d + 1, .obj l, r, hw => by
    simp only [WF, WFm_iff] at hw
    obtain ⟨hs, hw⟩ := hw
    rw [cJ_obj, List.cons_append, validD_cons _ _ (by decide), List.append_assoc, validD_join cMem _ l ?_]
    · exact validD_cons _ _ (by decide)
    · intro p hp q
      rw [cMem, List.append_assoc, validD_cStr _ _ (hw p hp).1, List.cons_append, validD_cons _ _ (by decide)]
      exact validD_cJ d p.2 q (hw p hp).2
/-- Canonical JSON is JSON of this kind, and its tree is the one it was written of. -/
theorem parse_cJ (j : J) (h : WF 6 j) : parse (cJ j) = some j := by
  have hv := validD_cJ 6 j [] h
  rw [List.append_nil] at hv
  have hp := pVal_cJ 6 j [] h (by intro c hc; simp at hc)
  rw [List.append_nil] at hp
  unfold parse
  rw [hv, validD_nil]
  simp [pTop, hp, sk]

end Go.Proofs.YtocligpfmfmihabGreatDoor

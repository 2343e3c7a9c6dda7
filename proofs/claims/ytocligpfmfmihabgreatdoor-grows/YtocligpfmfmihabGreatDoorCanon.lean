import Derived.Test.YtocligpfmfmihabGreatDoorJson
namespace Go.Proofs.YtocligpfmfmihabGreatDoor
open Go.Lib

/-! ### canonical JSON -/
def hexD (n : Nat) : UInt8 := if n < 10 then UInt8.ofNat (48 + n) else UInt8.ofNat (87 + n)
def cB (c : UInt8) : Bs :=
  if c = 34 ∨ c = 92 then [92, c] else if c = 8 then [92, 98] else if c = 12 then [92, 102] else if c = 10 then [92, 110] else if c = 13 then [92, 114] else if c = 9 then [92, 116]
  else if c < 32 then [92, 117, 48, 48, hexD (c.toNat / 16), hexD (c.toNat % 16)] else [c]
def cStr (s : Bs) : Bs := 34 :: (s.flatMap cB ++ [34])
def decN (n : Nat) : Bs := if n < 10 then [UInt8.ofNat (48 + n)] else decN (n / 10) ++ [UInt8.ofNat (48 + n % 10)]
def cNum (n : Int) : Bs := if n < 0 then 45 :: decN n.natAbs else decN n.natAbs
/-- With commas between. -/
def joinC : List Bs → Bs
  | [] => []
  | [x] => x
  | x :: y :: l => x ++ 44 :: joinC (y :: l)
mutual
def cJ : J → Bs
  | .null => [110, 117, 108, 108]
  | .bool b => if b then [116, 114, 117, 101] else [102, 97, 108, 115, 101]
  | .num n => cNum n
  | .str s => cStr s
  | .arr l => 91 :: (joinC (cJs l) ++ [93])
  | .obj l => 123 :: (joinC (cMs l) ++ [125])
def cJs : List J → List Bs
  | [] => []
  | x :: l => cJ x :: cJs l
def cMs : List (Bs × J) → List Bs
  | [] => []
  | (k, x) :: l => (cStr k ++ 58 :: cJ x) :: cMs l
end
def cMem (p : Bs × J) : Bs := cStr p.1 ++ 58 :: cJ p.2
theorem cJs_map (l : List J) : cJs l = l.map cJ := by
  induction l with
  | nil => rfl
  | cons x l ih => simp [cJs, ih]
theorem cMs_map (l : List (Bs × J)) : cMs l = l.map cMem := by
  induction l with
  | nil => rfl
  | cons x l ih => obtain ⟨k, v⟩ := x; simp [cMs, cMem, ih]
theorem cJ_arr (l : List J) : cJ (.arr l) = 91 :: (joinC (l.map cJ) ++ [93]) := by rw [cJ, cJs_map]
theorem cJ_obj (l : List (Bs × J)) : cJ (.obj l) = 123 :: (joinC (l.map cMem) ++ [125]) := by rw [cJ, cMs_map]
theorem joinC_snoc (l : List Bs) (x : Bs) : joinC (l ++ [x]) = if l = [] then x else joinC l ++ 44 :: x := by
  induction l with
  | nil => simp [joinC]
  | cons a l ih =>
    cases l with
    | nil => simp [joinC]
    | cons b l => simp [joinC] at ih ⊢; rw [ih]

/-! ### trees that a text gives -/
mutual
def WF : Nat → J → Prop
  | _, .null => True
  | _, .bool _ => True
  | _, .num n => n.natAbs ≤ maxNum
  | _, .str s => validD s = true
  | 0, .arr _ => False
  | 0, .obj _ => False
  | d + 1, .arr l => WFs d l
  | d + 1, .obj l => Srt l ∧ WFm d l
def WFs : Nat → List J → Prop
  | _, [] => True
  | d, x :: l => WF d x ∧ WFs d l
def WFm : Nat → List (Bs × J) → Prop
  | _, [] => True
  | d, (k, x) :: l => validD k = true ∧ WF d x ∧ WFm d l
end
theorem WFs_iff (d : Nat) (l : List J) : WFs d l ↔ ∀ x ∈ l, WF d x := by
  induction l with
  | nil => simp [WFs]
  | cons x l ih => simp [WFs, ih]
theorem WFm_iff (d : Nat) (l : List (Bs × J)) : WFm d l ↔ ∀ p ∈ l, validD p.1 = true ∧ WF d p.2 := by
  induction l with
  | nil => simp [WFm]
  | cons x l ih => obtain ⟨k, v⟩ := x; simp [WFm, ih, and_assoc]

/-! ### strings -/
theorem enc_lt (n : Nat) (h : n < 128) : (Utf8.encode (n : Int)).data.toList = [UInt8.ofNat n] := by
  have hv : Utf8.valid (n : Int) = true := by unfold Utf8.valid; simp; omega
  unfold Utf8.encode
  simp [hv, h]
theorem hexV_hexD : ∀ k, k < 16 → hexV (hexD k) = some k := by decide
theorem esc_u00 (a b : Nat) (ha : a < 2) (hb : b < 16) (r : Bs) : esc (117 :: 48 :: 48 :: hexD a :: hexD b :: r) = some (a * 16 + b, r) := by
  have h0 : hexV 48 = some 0 := by decide
  simp [esc, escU, hex4, h0, hexV_hexD a (by omega), hexV_hexD b hb]
  omega
theorem ofNat_toNat' (c : UInt8) : UInt8.ofNat c.toNat = c := by simp
/-- A byte of a string, written and read again. -/
theorem pStr_cB (c : UInt8) (r : Bs) : pStr false (cB c ++ r) = (pStr false r).map fun x => (c :: x.1, x.2) := by
  have hesc : ∀ (x : Nat) (q : Bs), x < 128 → esc q = some (x, r) → pStr false (92 :: q) = (pStr false r).map fun y => (UInt8.ofNat x :: y.1, y.2) := by
    intro x q hx he
    rw [pStr_cons, if_neg (by decide)]
    simp [ch, he, enc_lt x hx]
  unfold cB
  split
  · rename_i h
    rcases h with rfl | rfl
    · exact hesc 34 _ (by decide) (by simp [esc])
    · exact hesc 92 _ (by decide) (by simp [esc])
  · rename_i h
    split
    · rename_i h; subst h; exact hesc 8 _ (by decide) (by simp [esc])
    · split
      · rename_i h; subst h; exact hesc 12 _ (by decide) (by simp [esc])
      · split
        · rename_i h; subst h; exact hesc 10 _ (by decide) (by simp [esc])
        · split
          · rename_i h; subst h; exact hesc 13 _ (by decide) (by simp [esc])
          · split
            · rename_i h; subst h; exact hesc 9 _ (by decide) (by simp [esc])
            · split
              · rename_i h
                have h := UInt8.lt_iff_toNat_lt.1 h
                simp at h
                have := hesc (c.toNat / 16 * 16 + c.toNat % 16) _ (by omega) (esc_u00 (c.toNat / 16) (c.toNat % 16) (by omega) (by omega) r)
                rw [show c.toNat / 16 * 16 + c.toNat % 16 = c.toNat by omega, ofNat_toNat'] at this
                exact this
              · rename_i h32
                have h34 : c ≠ 34 := fun e => h (.inl e)
                have h92 : c ≠ 92 := fun e => h (.inr e)
                rw [List.singleton_append, pStr_cons, if_neg h34]
                simp [ch, h32, h92]
theorem pStr_cStr (s r : Bs) : pStr false (s.flatMap cB ++ 34 :: r) = some (s, r) := by
  induction s with
  | nil => simp [pStr_cons]
  | cons c s ih => rw [List.flatMap_cons, List.append_assoc, pStr_cB, ih]; simp

/-! ### UTF-8 of what is written -/
set_option maxRecDepth 100000 in
set_option maxHeartbeats 4000000 in
theorem decN_more (n m b0 b1 b2 b3 c1 c2 c3 k : Nat) (hk : (decodeN n b0 b1 b2 b3).2 = k) (hkn : k ≤ n) (hkm : k ≤ m) (hb : ¬ ((decodeN n b0 b1 b2 b3).1 = 65533 ∧ k = 1))
    (h1 : 1 < k → c1 = b1) (h2 : 2 < k → c2 = b2) (h3 : 3 < k → c3 = b3) : decodeN m b0 c1 c2 c3 = decodeN n b0 b1 b2 b3 := by
  have h4 : k = 1 ∨ k = 2 ∨ k = 3 ∨ k = 4 := by
    rw [← hk]; unfold decodeN
    repeat' split
    all_goals simp
  have hb' : ¬ (decodeN n b0 b1 b2 b3 = (65533, 1)) := by
    intro e; rw [e] at hk hb; simp at hk; exact hb ⟨rfl, hk.symm⟩
  rcases h4 with rfl | rfl | rfl | rfl
  · have hlt : b0 < 128 := by
      clear h1 h2 h3 hb
      unfold decodeN at hk hb'
      repeat' split at hk
      all_goals first | assumption | (simp at hk; done) | simp_all
    simp [decodeN, hlt]
  · obtain rfl := h1 (by decide)
    clear h1 h2 h3 hb
    unfold decodeN at hk hb' ⊢
    repeat' split at hk
    all_goals first | (simp at hk; done) | skip
    all_goals clear hb' hk
    all_goals repeat' split
    all_goals first | rfl | (exfalso; omega)
  · obtain rfl := h1 (by decide)
    obtain rfl := h2 (by decide)
    clear h1 h2 h3 hb
    unfold decodeN at hk hb' ⊢
    repeat' split at hk
    all_goals first | (simp at hk; done) | skip
    all_goals clear hb' hk
    all_goals repeat' split
    all_goals first | rfl | (exfalso; omega)
  · obtain rfl := h1 (by decide)
    obtain rfl := h2 (by decide)
    obtain rfl := h3 (by decide)
    clear h1 h2 h3 hb
    unfold decodeN at hk hb' ⊢
    repeat' split at hk
    all_goals first | (simp at hk; done) | skip
    all_goals clear hb' hk
    all_goals repeat' split
    all_goals first | rfl | (exfalso; omega)
theorem getD_append_left' (l r : Bs) (i : Nat) (h : i < l.length) : (l ++ r).getD i 0 = l.getD i 0 := by
  simp [List.getD_eq_getElem?_getD, List.getElem?_append_left h]
/-- The first rune hangs on its own bytes alone. -/
theorem dec_own (l r : Bs) (hne : l ≠ []) (hb : ¬ ((decodeL l).1 = 65533 ∧ (decodeL l).2 = 1)) : decodeL (l.take (decodeL l).2 ++ r) = decodeL l := by
  have hk := decodeL_le l hne
  have hw := decodeL_width l
  generalize hkk : (decodeL l).2 = k at hk hw hb
  have hlen : (l.take k).length = k := by simp; omega
  have g : ∀ i, i < k → (l.take k ++ r).getD i 0 = l.getD i 0 := by
    intro i hi
    rw [getD_append_left' _ _ _ (by omega)]
    simp [List.getD_eq_getElem?_getD, hi]
  rw [decodeL_N (l.take k ++ r), g 0 (by omega)]
  rw [decodeL_N l] at hkk hb ⊢
  refine decN_more _ _ _ _ _ _ _ _ _ k hkk hk (by simp; omega) hb ?_ ?_ ?_
  · intro h; rw [g 1 h]
  · intro h; rw [g 2 h]
  · intro h; rw [g 3 h]
theorem cB_high (c : UInt8) (h : 128 ≤ c.toNat) : cB c = [c] := by
  have ne : ∀ x : UInt8, x.toNat < 128 → c ≠ x := by rintro x hx rfl; omega
  have n32 : ¬ c < 32 := by rw [UInt8.lt_iff_toNat_lt]; simp; omega
  simp [cB, ne 34 (by decide), ne 92 (by decide), ne 8 (by decide), ne 12 (by decide), ne 10 (by decide), ne 13 (by decide), ne 9 (by decide), n32]
theorem hexD_lt (k : Nat) (h : k < 16) : (hexD k).toNat < 128 := by
  have : ∀ k, k < 16 → (hexD k).toNat < 128 := by decide
  exact this k h
theorem cB_low (c : UInt8) (h : c.toNat < 128) : ∀ b ∈ cB c, b.toNat < 128 := by
  unfold cB
  intro b hb
  repeat' split at hb
  all_goals simp only [List.mem_cons, List.not_mem_nil, or_false] at hb
  case isFalse.isFalse.isFalse.isFalse.isFalse.isFalse.isTrue =>
    rename_i h32
    have h32 := UInt8.lt_iff_toNat_lt.1 h32
    simp at h32
    rcases hb with rfl | rfl | rfl | rfl | rfl | rfl
    all_goals first | decide | exact hexD_lt _ (by omega)
  all_goals first | (rcases hb with rfl | rfl <;> first | decide | exact h) | (subst hb; exact h)
theorem flat_high (l : Bs) (h : ∀ b ∈ l, 128 ≤ b.toNat) : l.flatMap cB = l := by
  induction l with
  | nil => rfl
  | cons c l ih => rw [List.flatMap_cons, cB_high c (h c (by simp)), ih (fun b hb => h b (by simp [hb]))]; rfl
theorem validD_low (l r : Bs) (h : ∀ b ∈ l, b.toNat < 128) : validD (l ++ r) = validD r := by
  induction l with
  | nil => rfl
  | cons c l ih => rw [List.cons_append, validD_cons _ _ (h c (by simp)), ih (fun b hb => h b (by simp [hb]))]
theorem validD_flat : ∀ (n : Nat) (l r : Bs), l.length ≤ n → validD l = true → validD (l.flatMap cB ++ r) = validD r
  | n, [], r, _, _ => by simp
  | 0, c :: t, r, hn, _ => by simp at hn
  | n + 1, c :: t, r, hn, hv => by
    have hbad : ¬ ((decodeL (c :: t)).1 = 65533 ∧ (decodeL (c :: t)).2 = 1) := by
      intro hb
      rw [validD_step _ (by simp), if_pos hb] at hv
      cases hv
    rw [validD_step _ (by simp), if_neg hbad] at hv
    have hw := decodeL_width (c :: t)
    by_cases hc : c.toNat < 128
    · rw [decodeL_ascii c t hc] at hv
      rw [List.flatMap_cons, List.append_assoc, validD_low _ _ (cB_low c hc)]
      exact validD_flat n t r (by simpa using hn) (by simpa using hv)
    · obtain ⟨hk, hh⟩ := dec_high (c :: t) (by simp) (by simpa using hc)
      have hi := getD_take hh hk
      have e := dec_own (c :: t) (((c :: t).drop (decodeL (c :: t)).2).flatMap cB ++ r) (by simp) hbad
      have e1 : (c :: t).flatMap cB = (c :: t).take (decodeL (c :: t)).2 ++ ((c :: t).drop (decodeL (c :: t)).2).flatMap cB := by
        conv => lhs; rw [← List.take_append_drop (decodeL (c :: t)).2 (c :: t), List.flatMap_append, flat_high _ hi]
      rw [e1, List.append_assoc]
      generalize hk' : (decodeL (c :: t)).2 = k at *
      have hlen : ((c :: t).take k).length = k := by simp only [List.length_take]; omega
      rw [validD_step _ (by intro h0; have := congrArg List.length h0; rw [List.length_append, hlen] at this; simp at this; omega), e, hk', if_neg hbad]
      rw [List.drop_append_of_le_length (by omega), List.drop_eq_nil_of_le (by omega), List.nil_append]
      exact validD_flat n _ r (by rw [List.length_drop]; simp only [List.length_cons] at *; omega) hv
theorem validD_cStr (s r : Bs) (h : validD s = true) : validD (cStr s ++ r) = validD r := by
  unfold cStr
  rw [List.cons_append, validD_cons _ _ (by decide), List.append_assoc, validD_flat _ _ _ (Nat.le_refl _) h]
  exact validD_cons _ _ (by decide)

end Go.Proofs.YtocligpfmfmihabGreatDoor

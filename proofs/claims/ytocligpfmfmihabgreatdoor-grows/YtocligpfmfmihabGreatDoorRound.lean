import Derived.Test.YtocligpfmfmihabGreatDoorCanon
namespace Go.Proofs.YtocligpfmfmihabGreatDoor
open Go.Lib

/-! ### numbers -/
theorem natOf_snoc (l : Bs) (c : UInt8) : natOf (l ++ [c]) = natOf l * 10 + (c.toNat - 48) := by simp [natOf]
theorem dg_of (k : Nat) (h : k < 10) : isDg (UInt8.ofNat (48 + k)) = true ∧ (UInt8.ofNat (48 + k)).toNat = 48 + k := by
  have : ∀ k, k < 10 → isDg (UInt8.ofNat (48 + k)) = true ∧ (UInt8.ofNat (48 + k)).toNat = 48 + k := by decide
  exact this k h
theorem decN_dg (n : Nat) : ∀ c ∈ decN n, isDg c = true := by
  induction n using Nat.strongRecOn with
  | _ n ih =>
    rw [decN]
    split
    · rename_i h
      intro c hc
      obtain rfl := List.mem_singleton.1 hc
      exact (dg_of n h).1
    · rename_i h
      intro c hc
      rcases List.mem_append.1 hc with hc | hc
      · exact ih (n / 10) (by omega) c hc
      · obtain rfl := List.mem_singleton.1 hc
        exact (dg_of (n % 10) (by omega)).1
theorem natOf_decN (n : Nat) : natOf (decN n) = n := by
  induction n using Nat.strongRecOn with
  | _ n ih =>
    rw [decN]
    split
    · rename_i h
      simp only [natOf, List.foldl_cons, List.foldl_nil]
      rw [(dg_of n h).2]; omega
    · rename_i h
      rw [natOf_snoc, ih (n / 10) (by omega), (dg_of (n % 10) (by omega)).2]; omega
theorem decN_ne (n : Nat) : decN n ≠ [] := by
  rw [decN]; split <;> simp
theorem decN_head (n : Nat) (h : 0 < n) : (decN n).head? ≠ some 48 := by
  induction n using Nat.strongRecOn with
  | _ n ih =>
    rw [decN]
    split
    · rename_i hl
      simp only [List.head?_cons, ne_eq, Option.some.injEq]
      intro e
      have := (dg_of n hl).2
      rw [e] at this
      simp at this; omega
    · rename_i hl
      have := ih (n / 10) (by omega) (by omega)
      cases hd : decN (n / 10) with
      | nil => exact absurd hd (decN_ne _)
      | cons c t => rw [hd] at this; simpa using this
theorem whole_decN (n : Nat) : whole (decN n) = true := by
  unfold whole
  by_cases h : n = 0
  · subst h; rw [decN]; decide
  · simp [decN_ne, decN_head n (by omega)]
/-- No digit comes next. -/
def NoDg (r : Bs) : Prop := ∀ c ∈ r.head?, isDg c = false
theorem takeDg_app (l r : Bs) (h : ∀ c ∈ l, isDg c = true) (hr : NoDg r) : (l ++ r).takeWhile isDg = l ∧ (l ++ r).dropWhile isDg = r := by
  induction l with
  | nil =>
    cases r with
    | nil => simp
    | cons c t =>
      have := hr c (by simp)
      simp [this]
  | cons c l ih =>
    have hc := h c (by simp)
    obtain ⟨h1, h2⟩ := ih (fun b hb => h b (by simp [hb]))
    simp [hc, h1, h2]
theorem pNat_decN (n : Nat) (r : Bs) (hn : n ≤ maxNum) (hr : NoDg r) : pNat (decN n ++ r) = some (n, r) := by
  obtain ⟨h1, h2⟩ := takeDg_app (decN n) r (decN_dg n) hr
  unfold pNat dgs
  rw [h1, h2, whole_decN, natOf_decN]
  simp [hn]
theorem decN_cons (n : Nat) : ∃ c t, decN n = c :: t ∧ isDg c = true := by
  cases h : decN n with
  | nil => exact absurd h (decN_ne n)
  | cons c t => exact ⟨c, t, rfl, decN_dg n c (by simp [h])⟩
theorem dg_ne {c x : UInt8} (h : isDg c = true) (hx : isDg x = false) : c ≠ x := by rintro rfl; rw [h] at hx; cases hx
theorem pNum_cNum (n : Int) (r : Bs) (hn : n.natAbs ≤ maxNum) (hr : NoDg r) : pNum (cNum n ++ r) = some (n, r) := by
  unfold cNum
  split
  · rename_i h
    simp only [List.cons_append, pNum, if_true, pNat_decN _ _ hn hr]
    rw [if_neg (by omega)]
    simp; omega
  · rename_i h
    obtain ⟨c, t, e, hc⟩ := decN_cons n.natAbs
    have := pNat_decN _ _ hn hr
    rw [e] at this ⊢
    simp only [List.cons_append] at this ⊢
    simp only [pNum, if_neg (dg_ne hc (by decide : isDg 45 = false)), this, Option.map_some]
    simp; omega

/-! ### heads -/
theorem cJ_head (j : J) : ∃ c t, cJ j = c :: t ∧ isBl c = false ∧ c ≠ 93 ∧ c ≠ 125 := by
  have dgh : ∀ c, isDg c = true → isBl c = false ∧ c ≠ 93 ∧ c ≠ 125 := by
    intro c h
    have nb : isBl c = false := by
      cases hb : isBl c with
      | false => rfl
      | true =>
        unfold isBl at hb
        simp only [Bool.or_eq_true, beq_iff_eq] at hb
        rcases hb with ((rfl | rfl) | rfl) | rfl <;> revert h <;> decide
    exact ⟨nb, dg_ne h (by decide), dg_ne h (by decide)⟩
  cases j with
  | null => exact ⟨_, _, by rw [cJ], by decide, by decide, by decide⟩
  | bool b => cases b with
    | true => exact ⟨116, [114, 117, 101], by simp [cJ], by decide, by decide, by decide⟩
    | false => exact ⟨102, [97, 108, 115, 101], by simp [cJ], by decide, by decide, by decide⟩
  | num n =>
    simp only [cJ, cNum]
    split
    · exact ⟨_, _, rfl, by decide, by decide, by decide⟩
    · obtain ⟨c, t, e, hc⟩ := decN_cons n.natAbs
      exact ⟨c, t, e, dgh c hc⟩
  | str s => exact ⟨34, _, by rw [cJ, cStr], by decide, by decide, by decide⟩
  | arr l => exact ⟨91, _, by rw [cJ], by decide, by decide, by decide⟩
  | obj l => exact ⟨123, _, by rw [cJ], by decide, by decide, by decide⟩
theorem sk_non {c : UInt8} (t : Bs) (h : isBl c = false) : sk (c :: t) = c :: t := by simp [sk, h]

/-! ### lists -/
theorem joinC_cons (x : Bs) (l : List Bs) : joinC (x :: l) = x ++ l.flatMap (fun y => 44 :: y) := by
  induction l generalizing x with
  | nil => simp [joinC]
  | cons y l ih => rw [joinC, ih y]; simp
theorem pMore_tail {σ α : Type} (p : σ → Bs → Option (σ × Bs)) (e : UInt8) (he : isBl e = false) (he' : e ≠ 44) (f : α → Bs) (st : σ → α → σ) (r : Bs) :
    ∀ (l : List α) (a : σ) (n : Nat), l.length < n →
      (∀ (l1 : List α) (x : α) (l2 : List α) (q : Bs), l = l1 ++ x :: l2 → NoDg q → p (l1.foldl st a) (f x ++ q) = some (st (l1.foldl st a) x, q)) → isDg e = false →
      pMore p e n a (l.flatMap (fun y => 44 :: f y) ++ e :: r) = some (l.foldl st a, r)
  | [], a, n, hn, _, _ => by
    obtain ⟨m, rfl⟩ : ∃ m, n = m + 1 := ⟨n - 1, by simp at hn; omega⟩
    simp [pMore, sk_non _ he, he']
  | x :: l, a, n, hn, hp, hd => by
    obtain ⟨m, rfl⟩ : ∃ m, n = m + 1 := ⟨n - 1, by simp at hn; omega⟩
    have nd : NoDg (l.flatMap (fun y => 44 :: f y) ++ e :: r) := by
      cases l with
      | nil => intro c hc; simp at hc; subst hc; exact hd
      | cons y l => intro c hc; simp at hc; subst hc; decide
    have hx := hp [] x l _ rfl nd
    simp only [List.foldl_nil] at hx
    simp only [List.flatMap_cons, List.cons_append, List.append_assoc]
    rw [pMore, sk_non _ (by decide)]
    simp only [if_true, hx]
    rw [List.foldl_cons]
    refine pMore_tail p e he he' f st r l (st a x) m (by simp at hn; omega) ?_ hd
    intro l1 y l2 q hl hq
    have := hp (x :: l1) y l2 q (by rw [hl]; rfl) hq
    simpa using this
theorem flat_len {α : Type} (f : α → Bs) (l : List α) (r : Bs) : l.length ≤ (l.flatMap (fun y => 44 :: f y) ++ r).length := by
  induction l with
  | nil => simp
  | cons x l ih => simp at ih ⊢; omega
theorem pSev_list {σ α : Type} (p : σ → Bs → Option (σ × Bs)) (e : UInt8) (he : isBl e = false) (he' : e ≠ 44) (hd : isDg e = false) (f : α → Bs) (st : σ → α → σ) (r : Bs) (a : σ) (l : List α)
    (hf : ∀ x, ∃ c t, f x = c :: t ∧ isBl c = false ∧ c ≠ e)
    (hp : ∀ (l1 : List α) (x : α) (l2 : List α) (q : Bs), l = l1 ++ x :: l2 → NoDg q → p (l1.foldl st a) (f x ++ q) = some (st (l1.foldl st a) x, q)) :
    pSev p e a (joinC (l.map f) ++ e :: r) = some (l.foldl st a, r) := by
  cases l with
  | nil => simp [pSev, joinC, sk_non _ he]
  | cons x l =>
    obtain ⟨c, t, hx, hb, hc⟩ := hf x
    have ejl : joinC ((x :: l).map f) = f x ++ l.flatMap (fun y => 44 :: f y) := by
      rw [List.map_cons, joinC_cons, List.flatMap_map]
    rw [ejl, List.append_assoc]
    have nd : NoDg (l.flatMap (fun y => 44 :: f y) ++ e :: r) := by
      cases l with
      | nil => intro c hc; simp at hc; subst hc; exact hd
      | cons y l => intro c hc; simp at hc; subst hc; decide
    have h1 := hp [] x l _ rfl nd
    simp only [List.foldl_nil] at h1
    unfold pSev
    have hsk : (sk (f x ++ (l.flatMap (fun y => 44 :: f y) ++ e :: r))).head? ≠ some e := by
      rw [hx, List.cons_append, sk_non _ hb]; simpa using hc
    rw [if_neg hsk, h1]
    simp only
    refine pMore_tail p e he he' f st r l (st a x) _ (by have := flat_len f l (e :: r); omega) ?_ hd
    intro l1 y l2 q hl hq
    have := hp (x :: l1) y l2 q (by rw [hl]; rfl) hq
    simpa using this
theorem foldl_snoc {α : Type} (l a : List α) : l.foldl (fun a x => a ++ [x]) a = a ++ l := by
  induction l generalizing a with
  | nil => simp
  | cons x l ih => simp [ih]
theorem insK_last {α : Type} (k : Bs) (v : α) (l : List (Bs × α)) (h : ∀ p ∈ l, p.1 < k) : insK k v l = l ++ [(k, v)] := by
  induction l with
  | nil => rfl
  | cons q l ih =>
    obtain ⟨a, x⟩ := q
    have ha : a < k := h (a, x) (by simp)
    rw [insK, if_neg (fun g => lt_irr _ (lt_tr ha g)), if_neg (fun e => by subst e; exact lt_irr _ ha), ih (fun p hp => h p (by simp [hp]))]
    rfl
theorem ofL_srt {α : Type} (l : List (Bs × α)) (h : Srt l) : ofL l = l := by
  have : ∀ (l a : List (Bs × α)), Srt (a ++ l) → l.foldl (fun a p => insK p.1 p.2 a) a = a ++ l := by
    intro l
    induction l with
    | nil => intro a _; simp
    | cons p l ih =>
      intro a ha
      have h1 : ∀ q ∈ a, q.1 < p.1 := fun q hq => (List.pairwise_append.1 ha).2.2 q hq p (by simp)
      rw [List.foldl_cons, insK_last _ _ _ h1, ih _ (by simpa using ha)]
      simp
  exact this l [] h
theorem srt_look {α : Type} {l1 l2 : List (Bs × α)} {k : Bs} {v : α} (h : Srt (l1 ++ (k, v) :: l2)) : lookK k l1 = none := by
  rw [lookK_none]
  intro p hp e
  have := (List.pairwise_append.1 h).2.2 p hp (k, v) (by simp)
  rw [e] at this
  exact lt_irr _ this

/-! ### canonical JSON, read again -/
theorem pVal_sca (d : Nat) (c : UInt8) (t : Bs) (hb : isBl c = false) (h1 : c ≠ 123) (h2 : c ≠ 91) : pVal false d (c :: t) = pSca false c t := by
  cases d with
  | zero => simp [pVal, sk_non _ hb, h1, h2]
  | succ d => simp [pVal, sk_non _ hb, h1, h2]
theorem pVal_num (d : Nat) (n : Int) (r : Bs) (hn : n.natAbs ≤ maxNum) (hr : NoDg r) : pVal false d (cNum n ++ r) = some (.num n, r) := by
  have h := pNum_cNum n r hn hr
  obtain ⟨c, t, e, hb, hc⟩ : ∃ c t, cNum n = c :: t ∧ isBl c = false ∧ (c = 45 ∨ isDg c = true) := by
    obtain ⟨c, t, e, hb, _, _⟩ := cJ_head (.num n)
    simp only [cJ] at e
    refine ⟨c, t, e, hb, ?_⟩
    unfold cNum at e
    split at e
    · simp at e; exact .inl e.1.symm
    · obtain ⟨c', t', e', hc'⟩ := decN_cons n.natAbs
      rw [e'] at e; simp at e; rw [← e.1]; exact .inr hc'
  have n34 : c ≠ 34 := by rcases hc with rfl | hc; decide; exact dg_ne hc (by decide)
  rw [e] at h ⊢
  rw [List.cons_append, pVal_sca d c _ hb (by rcases hc with rfl | hc; decide; exact dg_ne hc (by decide)) (by rcases hc with rfl | hc; decide; exact dg_ne hc (by decide))]
  simp only [pSca, if_neg n34, if_pos hc]
  rw [List.cons_append] at h
  rw [h]; rfl
theorem pVal_str (d : Nat) (s r : Bs) : pVal false d (cStr s ++ r) = some (.str s, r) := by
  unfold cStr
  rw [List.cons_append, pVal_sca d _ _ (by decide) (by decide) (by decide)]
  simp [pSca, pStr_cStr]
theorem pVal_word (d : Nat) (j : J) (r : Bs) (h : j = .null ∨ ∃ b, j = .bool b) : pVal false d (cJ j ++ r) = some (j, r) := by
  rcases h with rfl | ⟨b, rfl⟩
  · simp only [cJ, List.cons_append]; rw [pVal_sca _ _ _ (by decide) (by decide) (by decide)]; simp [pSca, isDg, pWord]
  · cases b <;> (simp only [cJ, if_true, Bool.false_eq_true, if_false, List.cons_append]; rw [pVal_sca _ _ _ (by decide) (by decide) (by decide)]; simp [pSca, isDg, pWord])
theorem pVal_cJ : ∀ (d : Nat) (j : J) (r : Bs), WF d j → NoDg r → pVal false d (cJ j ++ r) = some (j, r)
  | d, .null, r, _, _ => pVal_word d _ r (.inl rfl)
  | d, .bool b, r, _, _ => pVal_word d _ r (.inr ⟨b, rfl⟩)
  | d, .num n, r, hw, hr => by rw [cJ]; exact pVal_num d n r (by simpa [WF] using hw) hr
  | d, .str s, r, _, _ => by rw [cJ]; exact pVal_str d s r
  | 0, .arr l, r, hw, _ => by simp [WF] at hw
  | 0, .obj l, r, hw, _ => by simp [WF] at hw
  | d + 1, .arr l, r, hw, _ => by
    simp only [WF, WFs_iff] at hw
    rw [cJ_arr, List.cons_append, pVal, sk_non _ (by decide)]
    simp only [show ¬ ((91 : UInt8) = 123) by decide, if_false, if_true, List.append_assoc, List.singleton_append]
    rw [pSev_list (pEl (pVal false d)) 93 (by decide) (by decide) (by decide) cJ (fun a x => a ++ [x]) r [] l]
    · rw [foldl_snoc]; rfl
    · intro x; obtain ⟨c, t, h1, h2, h3, _⟩ := cJ_head x; exact ⟨c, t, h1, h2, h3⟩
    · intro l1 x l2 q hl hq
      rw [pEl, pVal_cJ d x q (hw x (by rw [hl]; simp)) hq]; rfl
  | d + 1, .obj l, r, hw, _ => by
    simp only [WF, WFm_iff] at hw
    obtain ⟨hs, hw⟩ := hw
    rw [cJ_obj, List.cons_append, pVal, sk_non _ (by decide)]
    simp only [if_true, List.append_assoc, List.singleton_append]
    rw [pSev_list (pMem false (pVal false d)) 125 (by decide) (by decide) (by decide) cMem (fun a x => a ++ [x]) r [] l]
    · rw [foldl_snoc, List.nil_append]; simp only [Option.map_some, ofL_srt l hs]
    · intro x; exact ⟨34, _, by rw [cMem, cStr]; rfl, by decide, by decide⟩
    · intro l1 x l2 q hl hq
      obtain ⟨k, v⟩ := x
      have hv := pVal_cJ d v q (hw (k, v) (by rw [hl]; simp)).2 hq
      have hk : lookK k l1 = none := srt_look (by rw [hl] at hs; exact hs)
      simp only [foldl_snoc, List.nil_append, cMem, cStr, List.cons_append, List.append_assoc, pMem]
      rw [sk_non _ (by decide)]
      simp only [if_true, pStr_cStr, hk, Option.isSome_none, Bool.false_eq_true, if_false]
      rw [sk_non _ (by decide)]
      simp only [if_true, hv, Option.map_some]
theorem validD_decN (n : Nat) (r : Bs) : validD (decN n ++ r) = validD r := validD_low _ _ (fun b hb => dg_lt (decN_dg n b hb))
theorem validD_cNum (n : Int) (r : Bs) : validD (cNum n ++ r) = validD r := by
  unfold cNum
  split
  · rw [List.cons_append, validD_cons _ _ (by decide), validD_decN]
  · exact validD_decN _ _
theorem validD_join {α : Type} (f : α → Bs) (r : Bs) : ∀ (l : List α), (∀ x ∈ l, ∀ q, validD (f x ++ q) = validD q) → validD (joinC (l.map f) ++ r) = validD r
  | [], _ => by simp [joinC]
  | x :: l, h => by
    rw [List.map_cons, joinC_cons, List.append_assoc, h x (by simp), List.flatMap_map]
    have : ∀ (l : List α), (∀ x ∈ l, ∀ q, validD (f x ++ q) = validD q) → validD (l.flatMap (fun a => 44 :: f a) ++ r) = validD r := by
      intro l
      induction l with
      | nil => intro _; rfl
      | cons y l ih =>
        intro h
        rw [List.flatMap_cons, List.cons_append, List.cons_append, validD_cons _ _ (by decide), List.append_assoc, h y (by simp), ih (fun x hx => h x (by simp [hx]))]
    exact this l (fun x hx => h x (by simp [hx]))
theorem validD_cJ : ∀ (d : Nat) (j : J) (r : Bs), WF d j → validD (cJ j ++ r) = validD r
  | d, .null, r, _ => by rw [cJ]; exact validD_low _ _ (by decide)
  | d, .bool b, r, _ => by rw [cJ]; exact validD_low _ _ (by cases b <;> decide)
  | d, .num n, r, hw => by rw [cJ]; exact validD_cNum n r
  | d, .str s, r, hw => by rw [cJ]; exact validD_cStr s r (by simpa [WF] using hw)
  | 0, .arr l, r, hw => by simp [WF] at hw
  | 0, .obj l, r, hw => by simp [WF] at hw
  | d + 1, .arr l, r, hw => by
    simp only [WF, WFs_iff] at hw
    rw [cJ_arr, List.cons_append, validD_cons _ _ (by decide), List.append_assoc, validD_join cJ _ l (fun x hx q => validD_cJ d x q (hw x hx))]
    exact validD_cons _ _ (by decide)
  | d + 1, .obj l, r, hw => by
    simp only [WF, WFm_iff] at hw
    obtain ⟨hs, hw⟩ := hw
    rw [cJ_obj, List.cons_append, validD_cons _ _ (by decide), List.append_assoc, validD_join cMem _ l ?_]
    · exact validD_cons _ _ (by decide)
    · intro p hp q
      rw [cMem, List.append_assoc, validD_cStr _ _ (hw p hp).1, List.cons_append, validD_cons _ _ (by decide)]
      exact validD_cJ d p.2 q (hw p hp).2
/-- Canonical JSON is JSON of this kind, and its tree is the one it was written of. -/
theorem parse_cJ (j : J) (h : WF 6 j) : parse (cJ j) = some j := by
  have hv := validD_cJ 6 j [] h
  rw [List.append_nil] at hv
  have hp := pVal_cJ 6 j [] h (by intro c hc; simp at hc)
  rw [List.append_nil] at hp
  unfold parse
  rw [hv, validD_nil]
  simp [pTop, hp, sk]

end Go.Proofs.YtocligpfmfmihabGreatDoor

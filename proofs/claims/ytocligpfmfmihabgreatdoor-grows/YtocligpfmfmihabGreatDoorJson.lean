import Derived.Lib.ValidLaws
namespace Go.Proofs.YtocligpfmfmihabGreatDoor
open Go.Lib

abbrev Bs := List UInt8

inductive J where
  | null
  | bool (b : Bool)
  | num (n : Int)
  | str (s : Bs)
  | arr (l : List J)
  | obj (l : List (Bs × J))

/-! ### sorted association lists -/
def lookK {α : Type} (k : Bs) : List (Bs × α) → Option α
  | [] => none
  | (a, x) :: l => if a = k then some x else lookK k l
def insK {α : Type} (k : Bs) (v : α) : List (Bs × α) → List (Bs × α)
  | [] => [(k, v)]
  | (a, x) :: l => if k < a then (k, v) :: (a, x) :: l else if a = k then (k, v) :: l else (a, x) :: insK k v l
def delK {α : Type} (k : Bs) (l : List (Bs × α)) : List (Bs × α) := l.filter fun p => !decide (p.1 = k)
def ofL {α : Type} (l : List (Bs × α)) : List (Bs × α) := l.foldl (fun a p => insK p.1 p.2 a) []
def Srt {α : Type} (l : List (Bs × α)) : Prop := l.Pairwise fun a b => a.1 < b.1

theorem lt_irr (a : Bs) : ¬ a < a := List.lt_irrefl a
theorem lt_tr {a b c : Bs} (h : a < b) (g : b < c) : a < c := List.lt_trans h g
theorem lt_tot (a b : Bs) : a < b ∨ a = b ∨ b < a := by
  by_cases h : a < b
  · exact .inl h
  · by_cases g : b < a
    · exact .inr (.inr g)
    · exact .inr (.inl (List.le_antisymm (List.not_lt.1 g) (List.not_lt.1 h)))

variable {α : Type}

theorem lookK_insK_same (k : Bs) (v : α) (l : List (Bs × α)) : lookK k (insK k v l) = some v := by
  induction l with
  | nil => simp [insK, lookK]
  | cons p l ih =>
    obtain ⟨a, x⟩ := p
    unfold insK
    split
    · simp [lookK]
    · split
      · simp [lookK]
      · simp [lookK, *]
theorem lookK_insK_other (k c : Bs) (v : α) (l : List (Bs × α)) (h : c ≠ k) : lookK c (insK k v l) = lookK c l := by
  induction l with
  | nil => simp [insK, lookK, Ne.symm h]
  | cons p l ih =>
    obtain ⟨a, x⟩ := p
    unfold insK
    split
    · simp [lookK, Ne.symm h]
    · split
      · rename_i h1 h2
        subst h2
        simp [lookK, Ne.symm h]
      · simp [lookK, ih]
theorem mem_insK {k : Bs} {v : α} {l : List (Bs × α)} {p : Bs × α} (h : p ∈ insK k v l) : p = (k, v) ∨ p ∈ l := by
  induction l with
  | nil => simpa [insK] using h
  | cons q l ih =>
    obtain ⟨a, x⟩ := q
    unfold insK at h
    split at h
    · simpa using h
    · split at h
      · rcases List.mem_cons.1 h with h | h
        · exact .inl h
        · exact .inr (List.mem_cons.2 (.inr h))
      · rcases List.mem_cons.1 h with h | h
        · exact .inr (List.mem_cons.2 (.inl h))
        · rcases ih h with h | h
          · exact .inl h
          · exact .inr (List.mem_cons.2 (.inr h))
theorem srt_insK (k : Bs) (v : α) (l : List (Bs × α)) (h : Srt l) : Srt (insK k v l) := by
  induction l with
  | nil => simp [insK, Srt]
  | cons p l ih =>
    obtain ⟨a, x⟩ := p
    obtain ⟨h1, h2⟩ := List.pairwise_cons.1 h
    unfold insK
    split
    · rename_i hlt
      refine List.pairwise_cons.2 ⟨?_, h⟩
      intro q hq
      rcases List.mem_cons.1 hq with rfl | hq
      · exact hlt
      · exact lt_tr hlt (h1 q hq)
    · split
      · rename_i _ e
        subst e
        exact List.pairwise_cons.2 ⟨h1, h2⟩
      · rename_i hn hne
        refine List.pairwise_cons.2 ⟨?_, ih h2⟩
        intro q hq
        rcases mem_insK hq with rfl | hq
        · rcases lt_tot a k with h | h | h
          · exact h
          · exact absurd h hne
          · exact absurd h hn
        · exact h1 q hq
theorem srt_ofL (l : List (Bs × α)) : Srt (ofL l) := by
  unfold ofL
  have : ∀ (a : List (Bs × α)), Srt a → Srt (l.foldl (fun a p => insK p.1 p.2 a) a) := by
    induction l with
    | nil => intro a h; exact h
    | cons p l ih => intro a h; exact ih _ (srt_insK _ _ _ h)
  exact this [] List.Pairwise.nil
theorem ofL_snoc (l : List (Bs × α)) (k : Bs) (v : α) : ofL (l ++ [(k, v)]) = insK k v (ofL l) := by simp [ofL]

theorem lookK_append (k : Bs) (l m : List (Bs × α)) : lookK k (l ++ m) = (lookK k l).or (lookK k m) := by
  induction l with
  | nil => simp [lookK]
  | cons p l ih =>
    obtain ⟨a, x⟩ := p
    by_cases h : a = k <;> simp [lookK, h, ih]
theorem lookK_none {k : Bs} {l : List (Bs × α)} : lookK k l = none ↔ ∀ p ∈ l, p.1 ≠ k := by
  induction l with
  | nil => simp [lookK]
  | cons p l ih =>
    obtain ⟨a, x⟩ := p
    by_cases h : a = k <;> simp [lookK, h, ih]

/-- No key twice. -/
def Nod (l : List (Bs × α)) : Prop := (l.map (·.1)).Nodup
theorem nod_snoc (l : List (Bs × α)) (k : Bs) (v : α) : Nod (l ++ [(k, v)]) ↔ Nod l ∧ lookK k l = none := by
  unfold Nod
  rw [lookK_none, List.map_append, List.nodup_append]
  constructor
  · rintro ⟨h, _, g⟩
    refine ⟨h, fun p hp e => ?_⟩
    exact g p.1 (List.mem_map.2 ⟨p, hp, rfl⟩) k (by simp) e
  · rintro ⟨h, g⟩
    refine ⟨h, by simp, ?_⟩
    intro a ha b hb
    obtain ⟨p, hp, rfl⟩ := List.mem_map.1 ha
    obtain rfl : b = k := by simpa using hb
    exact g p hp
theorem lookK_ofL (k : Bs) (l : List (Bs × α)) (h : Nod l) : lookK k (ofL l) = lookK k l := by
  have : ∀ n (l : List (Bs × α)), l.length = n → Nod l → lookK k (ofL l) = lookK k l := by
    intro n
    induction n with
    | zero => intro l hl _; obtain rfl := List.eq_nil_of_length_eq_zero hl; rfl
    | succ n ih =>
      intro l hl hn
      have hne : l ≠ [] := by intro e; subst e; simp at hl
      obtain ⟨m, p, rfl⟩ : ∃ m p, l = m ++ [p] := ⟨l.dropLast, l.getLast hne, (List.dropLast_concat_getLast hne).symm⟩
      obtain ⟨a, x⟩ := p
      obtain ⟨h1, h2⟩ := (nod_snoc m a x).1 hn
      rw [ofL_snoc]
      have e := ih m (by simpa using hl) h1
      by_cases hk : k = a
      · subst hk
        rw [lookK_insK_same, lookK_append, h2]; simp [lookK]
      · rw [lookK_insK_other _ _ _ _ hk, e, lookK_append]
        simp [lookK, Ne.symm hk]
  exact this l.length l rfl h

/-! ### the grammar -/
def isBl (c : UInt8) : Bool := c == 32 || c == 9 || c == 10 || c == 13
def sk (s : Bs) : Bs := s.dropWhile isBl
def isDg (c : UInt8) : Bool := decide (48 ≤ c) && decide (c ≤ 57)
def dgs (s : Bs) : Bs := s.takeWhile isDg
def natOf (l : Bs) : Nat := l.foldl (fun n c => n * 10 + (c.toNat - 48)) 0
def maxNum : Nat := 9007199254740991
/-- Digits without noughts in front. -/
def whole (d : Bs) : Bool := d == [48] || (d != [] && d.head? != some 48)
def pNat (s : Bs) : Option (Nat × Bs) := if whole (dgs s) && decide (natOf (dgs s) ≤ maxNum) then some (natOf (dgs s), s.dropWhile isDg) else none
def pNum (s : Bs) : Option (Int × Bs) :=
  match s with
  | [] => none
  | c :: t => if c = 45 then (match pNat t with | some (n, r) => if n = 0 then none else some (-(n : Int), r) | none => none) else (pNat (c :: t)).map fun x => ((x.1 : Int), x.2)

def hexV (c : UInt8) : Option Nat :=
  if 48 ≤ c ∧ c ≤ 57 then some (c.toNat - 48) else if 97 ≤ c ∧ c ≤ 102 then some (c.toNat - 97 + 10) else if 65 ≤ c ∧ c ≤ 70 then some (c.toNat - 65 + 10) else none
def hex4 (s : Bs) : Option (Nat × Bs) :=
  match s with
  | a :: b :: c :: d :: t => (hexV a).bind fun a => (hexV b).bind fun b => (hexV c).bind fun c => (hexV d).map fun d => (((a * 16 + b) * 16 + c) * 16 + d, t)
  | _ => none
/-- Behind a backslash and a u. -/
def escU (s : Bs) : Option (Nat × Bs) :=
  match hex4 s with
  | none => none
  | some (x, r) =>
    if x < 55296 ∨ 57343 < x then some (x, r) else if 56319 < x then none else
    match r with
    | a :: b :: q => if a = 92 ∧ b = 117 then (match hex4 q with | some (y, z) => if 56320 ≤ y ∧ y ≤ 57343 then some (65536 + (x - 55296) * 1024 + (y - 56320), z) else none | none => none) else none
    | _ => none
/-- Behind a backslash. -/
def esc (s : Bs) : Option (Nat × Bs) :=
  match s with
  | [] => none
  | c :: t =>
    if c = 34 ∨ c = 92 ∨ c = 47 then some (c.toNat, t) else if c = 98 then some (8, t) else if c = 102 then some (12, t) else if c = 110 then some (10, t)
    else if c = 114 then some (13, t) else if c = 116 then some (9, t) else if c = 117 then escU t else none
/-- A sign of a string, not its end; u: runes are held to UTF-8 where they stand. -/
def ch (u : Bool) (c : UInt8) (t : Bs) : Option (Bs × Bs) :=
  if c < 32 then none
  else if c = 92 then (esc t).map fun x => ((Utf8.encode x.1).data.toList, x.2)
  else if u then (if (decodeL (c :: t)).1 = 65533 ∧ (decodeL (c :: t)).2 = 1 then none else some ((c :: t).take (decodeL (c :: t)).2, (c :: t).drop (decodeL (c :: t)).2))
  else some ([c], t)
/-- Behind the opening quote. -/
def pStr (u : Bool) (s : Bs) : Option (Bs × Bs) :=
  match s with
  | [] => none
  | c :: t => if c = 34 then some ([], t) else
    match ch u c t with
    | none => none
    | some (o, r) => if r.length < (c :: t).length then (pStr u r).map fun x => (o ++ x.1, x.2) else none
termination_by s.length

def pMore {σ : Type} (p : σ → Bs → Option (σ × Bs)) (e : UInt8) : Nat → σ → Bs → Option (σ × Bs)
  | 0, _, _ => none
  | n + 1, a, s =>
    match sk s with
    | [] => none
    | c :: t => if c = 44 then (match p a t with | some (b, r) => pMore p e n b r | none => none) else if c = e then some (a, t) else none
/-- Behind the opening sign. -/
def pSev {σ : Type} (p : σ → Bs → Option (σ × Bs)) (e : UInt8) (a : σ) (s : Bs) : Option (σ × Bs) :=
  if (sk s).head? = some e then some (a, (sk s).tail) else match p a s with | some (b, r) => pMore p e (r.length + 1) b r | none => none
def pEl (pv : Bs → Option (J × Bs)) (a : List J) (s : Bs) : Option (List J × Bs) := (pv s).map fun x => (a ++ [x.1], x.2)
def pMem (u : Bool) (pv : Bs → Option (J × Bs)) (a : List (Bs × J)) (s : Bs) : Option (List (Bs × J) × Bs) :=
  match sk s with
  | [] => none
  | c :: t => if c = 34 then
      (match pStr u t with
       | none => none
       | some (k, r) => if (lookK k a).isSome then none else
         match sk r with
         | [] => none
         | c :: q => if c = 58 then (pv q).map fun x => (a ++ [(k, x.1)], x.2) else none) else none
def pWord (s : Bs) : Option (J × Bs) :=
  if s.take 4 = [110, 117, 108, 108] then some (.null, s.drop 4) else if s.take 4 = [116, 114, 117, 101] then some (.bool true, s.drop 4)
  else if s.take 5 = [102, 97, 108, 115, 101] then some (.bool false, s.drop 5) else none
/-- A scalar, at its first sign. -/
def pSca (u : Bool) (c : UInt8) (t : Bs) : Option (J × Bs) :=
  if c = 34 then (pStr u t).map fun x => (.str x.1, x.2)
  else if c = 45 ∨ isDg c = true then (pNum (c :: t)).map fun x => (.num x.1, x.2)
  else pWord (c :: t)
/-- A value; d: how many arrays and objects may still be opened. -/
def pVal (u : Bool) : Nat → Bs → Option (J × Bs)
  | 0, s =>
    match sk s with
    | [] => none
    | c :: t => if c = 123 ∨ c = 91 then none else pSca u c t
  | d + 1, s =>
    match sk s with
    | [] => none
    | c :: t =>
      if c = 123 then (pSev (pMem u (pVal u d)) 125 [] t).map fun x => (.obj (ofL x.1), x.2)
      else if c = 91 then (pSev (pEl (pVal u d)) 93 [] t).map fun x => (.arr x.1, x.2)
      else pSca u c t
def pTop (u : Bool) (s : Bs) : Option J :=
  match pVal u 6 s with
  | some (j, t) => if sk t = [] then some j else none
  | none => none
/-- JSON of this kind. -/
def parse (s : Bs) : Option J := if validD s then pTop false s else none

/-! ### what is left is shorter -/
theorem sk_len (s : Bs) : (sk s).length ≤ s.length := by
  unfold sk; exact (List.dropWhile_suffix _).length_le
theorem esc_len {s r : Bs} {x : Nat} (h : esc s = some (x, r)) : r.length < s.length := by
  have h4 : ∀ {q z : Bs} {y : Nat}, hex4 q = some (y, z) → z.length < q.length := by
    intro q z y h
    unfold hex4 at h
    split at h
    · simp only [Option.bind_eq_some_iff, Option.map_eq_some_iff, Prod.mk.injEq] at h
      obtain ⟨_, _, _, _, _, _, _, _, _, rfl⟩ := h
      simp; omega
    · simp at h
  unfold esc at h
  split at h
  · simp at h
  · rename_i c t
    repeat' split at h
    all_goals first | (simp at h; obtain ⟨_, rfl⟩ := h; simp) | (simp at h; done) | skip
    unfold escU at h
    split at h
    · simp at h
    · rename_i x' r' h1
      have g1 := h4 h1
      split at h
      · simp at h; obtain ⟨_, rfl⟩ := h; simp; omega
      · split at h
        · simp at h
        · split at h
          · split at h
            · split at h
              · rename_i h2
                have g2 := h4 h2
                split at h
                · simp at h; obtain ⟨_, rfl⟩ := h; simp at g1 ⊢; omega
                · simp at h
              · simp at h
            · simp at h
          · simp at h
theorem ch_len {u : Bool} {c : UInt8} {t o r : Bs} (h : ch u c t = some (o, r)) : r.length < (c :: t).length := by
  unfold ch at h
  split at h
  · simp at h
  · split at h
    · simp only [Option.map_eq_some_iff, Prod.mk.injEq] at h
      obtain ⟨⟨x, r'⟩, h1, _, rfl⟩ := h
      have := esc_len h1
      simp only [List.length_cons]; omega
    · split at h
      · split at h
        · simp at h
        · simp only [Option.some.injEq, Prod.mk.injEq] at h
          obtain ⟨_, rfl⟩ := h
          have := decodeL_width (c :: t)
          rw [List.length_drop]
          simp only [List.length_cons]; omega
      · simp only [Option.some.injEq, Prod.mk.injEq] at h
        obtain ⟨_, rfl⟩ := h
        simp
theorem pStr_cons (u : Bool) (c : UInt8) (t : Bs) : pStr u (c :: t) = if c = 34 then some ([], t) else match ch u c t with | none => none | some (o, r) => (pStr u r).map fun x => (o ++ x.1, x.2) := by
  rw [pStr]
  split
  · rfl
  · split
    · rfl
    · rename_i o r h
      rw [if_pos (ch_len h)]
theorem pStr_nil (u : Bool) : pStr u [] = none := by rw [pStr]
theorem pStr_len {u : Bool} : ∀ (n : Nat) {s o r : Bs}, s.length ≤ n → pStr u s = some (o, r) → r.length < s.length
  | n, [], o, r, _, h => by rw [pStr_nil] at h; simp at h
  | 0, c :: t, o, r, hn, _ => by simp at hn
  | n + 1, c :: t, o, r, hn, h => by
    rw [pStr_cons] at h
    split at h
    · simp at h; obtain ⟨_, rfl⟩ := h; simp
    · split at h
      · simp at h
      · rename_i o' r' h1
        have g := ch_len h1
        simp only [Option.map_eq_some_iff, Prod.mk.injEq] at h
        obtain ⟨⟨x, r''⟩, h2, _, rfl⟩ := h
        have := pStr_len n (by simp at g hn; omega) h2
        simp only [List.length_cons] at *
        omega

/-! ### UTF-8: held to where a rune stands, or as a whole -/
theorem dec_high (l : Bs) (hne : l ≠ []) (h0 : 128 ≤ (l.getD 0 0).toNat) :
    (decodeL l).2 ≤ l.length ∧ ∀ i, i < (decodeL l).2 → 128 ≤ (l.getD i 0).toNat := by
  refine ⟨decodeL_le l hne, ?_⟩
  intro i hi
  rw [decodeL_N] at hi
  unfold decodeN at hi
  repeat' split at hi
  all_goals simp only at hi
  all_goals (rcases (show i = 0 ∨ i = 1 ∨ i = 2 ∨ i = 3 by omega) with rfl | rfl | rfl | rfl)
  all_goals first | exact h0 | omega | (exfalso; omega)

theorem pStr_high (l r : Bs) (h : ∀ b ∈ l, 128 ≤ b.toNat) : pStr false (l ++ r) = (pStr false r).map fun x => (l ++ x.1, x.2) := by
  induction l with
  | nil => simp
  | cons c l ih =>
    have hc := h c (by simp)
    have n34 : c ≠ 34 := by rintro rfl; revert hc; decide
    have n92 : c ≠ 92 := by rintro rfl; revert hc; decide
    have n32 : ¬ c < 32 := by rw [UInt8.lt_iff_toNat_lt]; simp; omega
    rw [List.cons_append, pStr_cons, if_neg n34]
    simp only [ch, if_neg n32, if_neg n92, Bool.false_eq_true, if_false]
    rw [ih (fun b hb => h b (by simp [hb]))]
    cases pStr false r <;> simp

theorem esc_valid {s r : Bs} {x : Nat} (h : esc s = some (x, r)) : validD s = validD r := by
  have hx : ∀ {c : UInt8} {y : Nat}, hexV c = some y → c.toNat < 128 := by
    intro c y h
    unfold hexV at h
    have := UInt8.le_iff_toNat_le (a := c) (b := 57)
    have := UInt8.le_iff_toNat_le (a := c) (b := 102)
    have := UInt8.le_iff_toNat_le (a := c) (b := 70)
    repeat' split at h
    all_goals simp_all
    all_goals omega
  have h4 : ∀ {q z : Bs} {y : Nat}, hex4 q = some (y, z) → validD q = validD z := by
    intro q z y h
    unfold hex4 at h
    split at h
    · simp only [Option.bind_eq_some_iff, Option.map_eq_some_iff, Prod.mk.injEq] at h
      obtain ⟨_, g1, _, g2, _, g3, _, g4, _, rfl⟩ := h
      rw [validD_cons _ _ (hx g1), validD_cons _ _ (hx g2), validD_cons _ _ (hx g3), validD_cons _ _ (hx g4)]
    · simp at h
  unfold esc at h
  split at h
  · simp at h
  · rename_i c t
    repeat' split at h
    case h_2.isTrue =>
      rename_i hc
      simp at h; obtain ⟨_, rfl⟩ := h
      rw [validD_cons]
      rcases hc with rfl | rfl | rfl <;> decide
    all_goals first | (rename_i hc; subst hc; simp at h; obtain ⟨_, rfl⟩ := h; rw [validD_cons _ _ (by decide)]; done) | (simp at h; done) | skip
    rename_i hc
    subst hc
    rw [validD_cons _ _ (by decide)]
    unfold escU at h
    split at h
    · simp at h
    · rename_i x' r' h1
      rw [h4 h1]
      split at h
      · simp at h; obtain ⟨_, rfl⟩ := h; rfl
      · split at h
        · simp at h
        · split at h
          · split at h
            · rename_i hab
              obtain ⟨rfl, rfl⟩ := hab
              split at h
              · rename_i h2
                split at h
                · simp at h; obtain ⟨_, rfl⟩ := h
                  rw [validD_cons _ _ (by decide), validD_cons _ _ (by decide)]
                  exact h4 h2
                · simp at h
              · simp at h
            · simp at h
          · simp at h
theorem pStr_true_valid : ∀ (n : Nat) {s o r : Bs}, s.length ≤ n → pStr true s = some (o, r) → validD s = validD r
  | n, [], o, r, _, h => by rw [pStr_nil] at h; simp at h
  | 0, c :: t, o, r, hn, _ => by simp at hn
  | n + 1, c :: t, o, r, hn, h => by
    rw [pStr_cons] at h
    split at h
    · rename_i hc
      subst hc
      simp at h; obtain ⟨_, rfl⟩ := h; rw [validD_cons _ _ (by decide)]
    · split at h
      · simp at h
      · rename_i o' r' h1
        have g := ch_len h1
        simp only [Option.map_eq_some_iff, Prod.mk.injEq] at h
        obtain ⟨⟨x, r''⟩, h2, _, rfl⟩ := h
        rw [← pStr_true_valid n (by simp at g hn; omega) h2]
        unfold ch at h1
        split at h1
        · simp at h1
        · split at h1
          · rename_i hc
            subst hc
            simp only [Option.map_eq_some_iff, Prod.mk.injEq] at h1
            obtain ⟨⟨x', q⟩, h3, _, rfl⟩ := h1
            rw [validD_cons _ _ (by decide)]
            exact esc_valid h3
          · simp only [if_true] at h1
            split at h1
            · simp at h1
            · rename_i hb
              simp only [Option.some.injEq, Prod.mk.injEq] at h1
              obtain ⟨_, rfl⟩ := h1
              rw [validD_step _ (by simp), if_neg hb]
theorem getD_take {l : Bs} {k : Nat} (h : ∀ i, i < k → 128 ≤ (l.getD i 0).toNat) (hk : k ≤ l.length) : ∀ b ∈ l.take k, 128 ≤ b.toNat := by
  intro b hb
  obtain ⟨i, hi, rfl⟩ := List.mem_iff_getElem.1 hb
  simp only [List.length_take] at hi
  have := h i (by omega)
  rw [List.getElem_take]
  simpa [List.getD_eq_getElem?_getD, List.getElem?_eq_getElem (show i < l.length by omega)] using this
theorem pStr_true_eq : ∀ (n : Nat) {s : Bs}, s.length ≤ n → validD s = true → pStr true s = pStr false s
  | n, [], _, _ => by rw [pStr_nil, pStr_nil]
  | 0, c :: t, hn, _ => by simp at hn
  | n + 1, c :: t, hn, hv => by
    rw [pStr_cons]
    by_cases h34 : c = 34
    · rw [pStr_cons, if_pos h34, if_pos h34]
    rw [if_neg h34]
    by_cases h32 : c < 32
    · rw [pStr_cons, if_neg h34]; simp [ch, h32]
    by_cases h92 : c = 92
    · subst h92
      rw [pStr_cons, if_neg h34]
      simp only [ch, if_neg h32, if_true]
      cases he : esc t with
      | none => simp
      | some p =>
        obtain ⟨x, r⟩ := p
        simp only [Option.map_some]
        have g := esc_len he
        rw [pStr_true_eq n (by simp at hn; omega) (by rw [← esc_valid he, ← validD_cons 92 t (by decide)]; exact hv)]
    have hbad : ¬ ((decodeL (c :: t)).1 = 65533 ∧ (decodeL (c :: t)).2 = 1) := by
      intro hb
      rw [validD_step _ (by simp), if_pos hb] at hv
      cases hv
    have hv' : validD ((c :: t).drop (decodeL (c :: t)).2) = true := by
      rw [validD_step _ (by simp), if_neg hbad] at hv; exact hv
    have e : ch true c t = some ((c :: t).take (decodeL (c :: t)).2, (c :: t).drop (decodeL (c :: t)).2) := by
      simp only [ch, if_neg h32, if_neg h92, if_true, if_neg hbad]
    rw [e]
    simp only
    have hw := decodeL_width (c :: t)
    rw [pStr_true_eq n (by rw [List.length_drop]; simp only [List.length_cons] at *; omega) hv']
    by_cases hc : c.toNat < 128
    · rw [decodeL_ascii c t hc, pStr_cons, if_neg h34]
      simp [ch, h32, h92]
    · obtain ⟨hk, hh⟩ := dec_high (c :: t) (by simp) (by simpa using hc)
      have := pStr_high ((c :: t).take (decodeL (c :: t)).2) ((c :: t).drop (decodeL (c :: t)).2) (getD_take hh hk)
      rw [List.take_append_drop] at this
      exact this.symm

theorem sk_valid (s : Bs) : validD (sk s) = validD s := by
  induction s with
  | nil => rfl
  | cons c t ih =>
    unfold sk at ih ⊢
    rw [List.dropWhile_cons]
    split
    · rename_i h
      rw [ih, validD_cons]
      unfold isBl at h
      simp only [Bool.or_eq_true, beq_iff_eq] at h
      rcases h with ((rfl | rfl) | rfl) | rfl <;> decide
    · rfl
theorem sk_cons_valid {s t : Bs} {c : UInt8} (h : sk s = c :: t) (hc : c.toNat < 128) : validD s = validD t := by
  rw [← sk_valid s, h, validD_cons c t hc]
theorem dg_lt {c : UInt8} (h : isDg c = true) : c.toNat < 128 := by
  unfold isDg at h
  simp only [Bool.and_eq_true, decide_eq_true_eq] at h
  have := UInt8.le_iff_toNat_le.1 h.2
  simp at this; omega
theorem dropDg_valid (s : Bs) : validD (s.dropWhile isDg) = validD s := by
  induction s with
  | nil => rfl
  | cons c t ih =>
    rw [List.dropWhile_cons]
    split
    · rename_i h
      rw [ih, validD_cons _ _ (dg_lt h)]
    · rfl
theorem pNat_valid {s r : Bs} {n : Nat} (h : pNat s = some (n, r)) : validD s = validD r := by
  unfold pNat at h
  split at h
  · simp only [Option.some.injEq, Prod.mk.injEq] at h
    obtain ⟨_, rfl⟩ := h
    exact (dropDg_valid s).symm
  · simp at h
theorem pNum_valid {s r : Bs} {n : Int} (h : pNum s = some (n, r)) : validD s = validD r := by
  unfold pNum at h
  split at h
  · simp at h
  · split at h
    · rename_i hc
      subst hc
      rw [validD_cons _ _ (by decide)]
      split at h
      · rename_i h1
        split at h
        · simp at h
        · simp only [Option.some.injEq, Prod.mk.injEq] at h
          obtain ⟨_, rfl⟩ := h
          exact pNat_valid h1
      · simp at h
    · simp only [Option.map_eq_some_iff, Prod.mk.injEq] at h
      obtain ⟨⟨x, q⟩, h1, _, rfl⟩ := h
      exact pNat_valid h1
theorem take_valid {s w : Bs} {k : Nat} (h : s.take k = w) (hw : ∀ b ∈ w, b.toNat < 128) : validD s = validD (s.drop k) := by
  subst h
  exact validD_ascii k s hw
theorem pWord_valid {s r : Bs} {j : J} (h : pWord s = some (j, r)) : validD s = validD r := by
  unfold pWord at h
  repeat' split at h
  all_goals first | (simp only [Option.some.injEq, Prod.mk.injEq] at h; rename_i h1; rw [← h.2]; exact take_valid h1 (by decide)) | (simp at h; done)

theorem pSca_true_valid {c : UInt8} {t r : Bs} {j : J} (h : pSca true c t = some (j, r)) : validD (c :: t) = validD r := by
  unfold pSca at h
  split at h
  · rename_i hc
    subst hc
    simp only [Option.map_eq_some_iff, Prod.mk.injEq] at h
    obtain ⟨⟨x, q⟩, h1, _, rfl⟩ := h
    rw [validD_cons _ _ (by decide)]
    exact pStr_true_valid _ (Nat.le_refl _) h1
  · split at h
    · simp only [Option.map_eq_some_iff, Prod.mk.injEq] at h
      obtain ⟨⟨x, q⟩, h1, _, rfl⟩ := h
      exact pNum_valid h1
    · exact pWord_valid h
/-- What a part of the grammar takes off a text does not turn whether it is UTF-8. -/
def KeepsV {σ : Type} (p : σ → Bs → Option (σ × Bs)) : Prop := ∀ a s b r, p a s = some (b, r) → validD s = validD r
theorem pMore_valid {σ : Type} {p : σ → Bs → Option (σ × Bs)} (hp : KeepsV p) {e : UInt8} (he : e.toNat < 128) :
    ∀ (n : Nat) (a : σ) (s : Bs) (b : σ) (r : Bs), pMore p e n a s = some (b, r) → validD s = validD r
  | 0, a, s, b, r, h => by simp [pMore] at h
  | n + 1, a, s, b, r, h => by
    unfold pMore at h
    split at h
    · simp at h
    · rename_i c t hs
      split at h
      · rename_i hc
        subst hc
        split at h
        · rename_i b' r' h1
          rw [sk_cons_valid hs (by decide), hp _ _ _ _ h1]
          exact pMore_valid hp he n _ _ _ _ h
        · simp at h
      · split at h
        · rename_i hc
          subst hc
          simp only [Option.some.injEq, Prod.mk.injEq] at h
          obtain ⟨_, rfl⟩ := h
          exact sk_cons_valid hs he
        · simp at h
theorem pSev_valid {σ : Type} {p : σ → Bs → Option (σ × Bs)} (hp : KeepsV p) {e : UInt8} (he : e.toNat < 128) {a b : σ} {s r : Bs} (h : pSev p e a s = some (b, r)) : validD s = validD r := by
  unfold pSev at h
  split at h
  · rename_i hh
    simp only [Option.some.injEq, Prod.mk.injEq] at h
    obtain ⟨_, rfl⟩ := h
    cases hs : sk s with
    | nil => rw [hs] at hh; simp at hh
    | cons c t =>
      rw [hs] at hh
      simp at hh
      subst hh
      exact sk_cons_valid hs he
  · split at h
    · rename_i h1
      rw [hp _ _ _ _ h1]
      exact pMore_valid hp he _ _ _ _ _ h
    · simp at h
theorem pMem_true_valid {pv : Bs → Option (J × Bs)} (hp : ∀ s j r, pv s = some (j, r) → validD s = validD r) : KeepsV (pMem true pv) := by
  intro a s b r h
  unfold pMem at h
  split at h
  · simp at h
  · rename_i c t hs
    split at h
    · rename_i hc
      subst hc
      rw [sk_cons_valid hs (by decide)]
      split at h
      · simp at h
      · rename_i k q h1
        rw [pStr_true_valid _ (Nat.le_refl _) h1]
        split at h
        · simp at h
        · split at h
          · simp at h
          · rename_i c2 q2 hs2
            split at h
            · rename_i hc2
              subst hc2
              rw [sk_cons_valid hs2 (by decide)]
              simp only [Option.map_eq_some_iff, Prod.mk.injEq] at h
              obtain ⟨⟨x, z⟩, h2, _, rfl⟩ := h
              exact hp _ _ _ h2
            · simp at h
    · simp at h
theorem pVal_true_valid : ∀ (d : Nat) (s : Bs) (j : J) (r : Bs), pVal true d s = some (j, r) → validD s = validD r
  | 0, s, j, r, h => by
    unfold pVal at h
    split at h
    · simp at h
    · rename_i c t hs
      split at h
      · simp at h
      · rw [← sk_valid s, hs]; exact pSca_true_valid h
  | d + 1, s, j, r, h => by
    unfold pVal at h
    split at h
    · simp at h
    · rename_i c t hs
      split at h
      · rename_i hc
        subst hc
        simp only [Option.map_eq_some_iff, Prod.mk.injEq] at h
        obtain ⟨⟨x, z⟩, h2, _, rfl⟩ := h
        rw [sk_cons_valid hs (by decide)]
        exact pSev_valid (pMem_true_valid (pVal_true_valid d)) (by decide) h2
      · split at h
        · rename_i hc
          subst hc
          simp only [Option.map_eq_some_iff, Prod.mk.injEq] at h
          obtain ⟨⟨x, z⟩, h2, _, rfl⟩ := h
          rw [sk_cons_valid hs (by decide)]
          refine pSev_valid ?_ (by decide) h2
          intro a s b r hh
          unfold pEl at hh
          simp only [Option.map_eq_some_iff, Prod.mk.injEq] at hh
          obtain ⟨⟨x, z⟩, h3, _, rfl⟩ := hh
          exact pVal_true_valid d _ _ _ h3
        · rw [← sk_valid s, hs]; exact pSca_true_valid h
/-! at a text that is UTF-8 both go alike -/
theorem pSca_eq {c : UInt8} {t : Bs} (h : validD (c :: t) = true) : pSca true c t = pSca false c t := by
  unfold pSca
  split
  · rename_i hc
    subst hc
    rw [pStr_true_eq _ (Nat.le_refl _) (by rw [← validD_cons 34 t (by decide)]; exact h)]
  · rfl
def Alike {σ : Type} (p q : σ → Bs → Option (σ × Bs)) : Prop := ∀ a s, validD s = true → p a s = q a s
theorem pMore_eq {σ : Type} {p q : σ → Bs → Option (σ × Bs)} (hp : KeepsV p) (hpq : Alike p q) {e : UInt8} :
    ∀ (n : Nat) (a : σ) (s : Bs), validD s = true → pMore p e n a s = pMore q e n a s
  | 0, a, s, _ => rfl
  | n + 1, a, s, hv => by
    unfold pMore
    split
    · rfl
    · rename_i c t hs
      split
      · rename_i hc
        subst hc
        have ht : validD t = true := by rw [← sk_cons_valid hs (by decide)]; exact hv
        rw [← hpq a t ht]
        split
        · rename_i b r h1
          exact pMore_eq hp hpq n b r (by rw [← hp _ _ _ _ h1]; exact ht)
        · rfl
      · rfl
theorem pSev_eq {σ : Type} {p q : σ → Bs → Option (σ × Bs)} (hp : KeepsV p) (hpq : Alike p q) {e : UInt8} (a : σ) (s : Bs) (hv : validD s = true) : pSev p e a s = pSev q e a s := by
  unfold pSev
  split
  · rfl
  · rw [← hpq a s hv]
    split
    · rename_i b r h1
      exact pMore_eq hp hpq _ b r (by rw [← hp _ _ _ _ h1]; exact hv)
    · rfl
theorem pVal_eq : ∀ (d : Nat) (s : Bs), validD s = true → pVal true d s = pVal false d s
  | 0, s, hv => by
    unfold pVal
    split
    · rfl
    · rename_i c t hs
      split
      · rfl
      · exact pSca_eq (by rw [← hs, sk_valid]; exact hv)
  | d + 1, s, hv => by
    unfold pVal
    split
    · rfl
    · rename_i c t hs
      split
      · rename_i hc
        subst hc
        have ht : validD t = true := by rw [← sk_cons_valid hs (by decide)]; exact hv
        rw [pSev_eq (pMem_true_valid (pVal_true_valid d)) ?_ _ _ ht]
        intro a s hv
        unfold pMem
        split
        · rfl
        · rename_i c t hs
          split
          · rename_i hc
            subst hc
            have ht : validD t = true := by rw [← sk_cons_valid hs (by decide)]; exact hv
            rw [← pStr_true_eq _ (Nat.le_refl _) ht]
            split
            · rfl
            · rename_i k r h1
              have hr : validD r = true := by rw [← pStr_true_valid _ (Nat.le_refl _) h1]; exact ht
              split
              · rfl
              · split
                · rfl
                · rename_i c2 q2 hs2
                  split
                  · rename_i hc2
                    subst hc2
                    rw [pVal_eq d q2 (by rw [← sk_cons_valid hs2 (by decide)]; exact hr)]
                  · rfl
          · rfl
      · split
        · rename_i hc
          subst hc
          have ht : validD t = true := by rw [← sk_cons_valid hs (by decide)]; exact hv
          rw [pSev_eq ?_ ?_ _ _ ht]
          · intro a s b r hh
            unfold pEl at hh
            simp only [Option.map_eq_some_iff, Prod.mk.injEq] at hh
            obtain ⟨⟨x, z⟩, h3, _, rfl⟩ := hh
            exact pVal_true_valid d _ _ _ h3
          · intro a s hv
            unfold pEl
            rw [pVal_eq d s hv]
        · exact pSca_eq (by rw [← hs, sk_valid]; exact hv)
theorem sk_nil_valid {s : Bs} (h : sk s = []) : validD s = true := by rw [← sk_valid, h]; rfl
/-- Held to UTF-8 rune by rune, or as a whole: the same. -/
theorem parse_eq (s : Bs) : pTop true s = parse s := by
  unfold parse
  split
  · rename_i hv
    unfold pTop
    rw [pVal_eq 6 s hv]
  · rename_i hv
    unfold pTop
    split
    · rename_i j t h
      split
      · rename_i ht
        exact absurd (by rw [pVal_true_valid _ _ _ _ h]; exact sk_nil_valid ht) hv
      · rfl
    · rfl

end Go.Proofs.YtocligpfmfmihabGreatDoor

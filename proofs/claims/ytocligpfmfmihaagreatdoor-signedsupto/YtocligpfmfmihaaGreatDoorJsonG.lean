import Derived.Lib.ValidLaws
namespace Go.Proofs.YtocligpfmfmihaaGreatDoor
open Go.Lib

abbrev Bs := List UInt8

inductive J where
  | null
  | bool (b : Bool)
  | num (n : Int)
  | str (s : Bs)
  | arr (l : List J)
  | obj (l : List (Bs × J))

/-! ### sorted association lists -/
def lookK {α : Type} (k : Bs) : List (Bs × α) → Option α
  | [] => none
  | (a, x) :: l => if a = k then some x else lookK k l
def insK {α : Type} (k : Bs) (v : α) : List (Bs × α) → List (Bs × α)
  | [] => [(k, v)]
  | (a, x) :: l => if k < a then (k, v) :: (a, x) :: l else if a = k then (k, v) :: l else (a, x) :: insK k v l
def delK {α : Type} (k : Bs) (l : List (Bs × α)) : List (Bs × α) := l.filter fun p => !decide (p.1 = k)
def ofL {α : Type} (l : List (Bs × α)) : List (Bs × α) := l.foldl (fun a p => insK p.1 p.2 a) []
def Srt {α : Type} (l : List (Bs × α)) : Prop := l.Pairwise fun a b => a.1 < b.1

theorem lt_irr (a : Bs) : ¬ a < a := List.lt_irrefl a
theorem lt_tr {a b c : Bs} (h : a < b) (g : b < c) : a < c := List.lt_trans h g
theorem lt_tot (a b : Bs) : a < b ∨ a = b ∨ b < a := by
  by_cases h : a < b
  · exact .inl h
  · by_cases g : b < a
    · exact .inr (.inr g)
    · exact .inr (.inl (List.le_antisymm (List.not_lt.1 g) (List.not_lt.1 h)))

variable {α : Type}

theorem lookK_insK_same (k : Bs) (v : α) (l : List (Bs × α)) : lookK k (insK k v l) = some v := by
  induction l with
  | nil => simp [insK, lookK]
  | cons p l ih =>
    obtain ⟨a, x⟩ := p
    unfold insK
    split
    · simp [lookK]
    · split
      · simp [lookK]
      · simp [lookK, *]
theorem lookK_insK_other (k c : Bs) (v : α) (l : List (Bs × α)) (h : c ≠ k) : lookK c (insK k v l) = lookK c l := by
  induction l with
  | nil => simp [insK, lookK, Ne.symm h]
  | cons p l ih =>
    obtain ⟨a, x⟩ := p
    unfold insK
    split
    · simp [lookK, Ne.symm h]
    · split
      · rename_i h1 h2
        subst h2
        simp [lookK, Ne.symm h]
      · simp [lookK, ih]
theorem mem_insK {k : Bs} {v : α} {l : List (Bs × α)} {p : Bs × α} (h : p ∈ insK k v l) : p = (k, v) ∨ p ∈ l := by
  induction l with
  | nil => simpa [insK] using h
  | cons q l ih =>
    obtain ⟨a, x⟩ := q
    unfold insK at h
    split at h
    · simpa using h
    · split at h
      · rcases List.mem_cons.1 h with h | h
        · exact .inl h
        · exact .inr (List.mem_cons.2 (.inr h))
      · rcases List.mem_cons.1 h with h | h
        · exact .inr (List.mem_cons.2 (.inl h))
        · rcases ih h with h | h
          · exact .inl h
          · exact .inr (List.mem_cons.2 (.inr h))
theorem srt_insK (k : Bs) (v : α) (l : List (Bs × α)) (h : Srt l) : Srt (insK k v l) := by
  induction l with
  | nil => simp [insK, Srt]
  | cons p l ih =>
    obtain ⟨a, x⟩ := p
    obtain ⟨h1, h2⟩ := List.pairwise_cons.1 h
    unfold insK
    split
    · rename_i hlt
      refine List.pairwise_cons.2 ⟨?_, h⟩
      intro q hq
      rcases List.mem_cons.1 hq with rfl | hq
      · exact hlt
      · exact lt_tr hlt (h1 q hq)
    · split
      · rename_i _ e
        subst e
        exact List.pairwise_cons.2 ⟨h1, h2⟩
      · rename_i hn hne
        refine List.pairwise_cons.2 ⟨?_, ih h2⟩
        intro q hq
        rcases mem_insK hq with rfl | hq
        · rcases lt_tot a k with h | h | h
          · exact h
          · exact absurd h hne
          · exact absurd h hn
        · exact h1 q hq
theorem srt_ofL (l : List (Bs × α)) : Srt (ofL l) := by
  unfold ofL
  have : ∀ (a : List (Bs × α)), Srt a → Srt (l.foldl (fun a p => insK p.1 p.2 a) a) := by
    induction l with
    | nil => intro a h; exact h
    | cons p l ih => intro a h; exact ih _ (srt_insK _ _ _ h)
  exact this [] List.Pairwise.nil
theorem ofL_snoc (l : List (Bs × α)) (k : Bs) (v : α) : ofL (l ++ [(k, v)]) = insK k v (ofL l) := by simp [ofL]

theorem lookK_append (k : Bs) (l m : List (Bs × α)) : lookK k (l ++ m) = (lookK k l).or (lookK k m) := by
  induction l with
  | nil => simp [lookK]
  | cons p l ih =>
    obtain ⟨a, x⟩ := p
    by_cases h : a = k <;> simp [lookK, h, ih]
theorem lookK_none {k : Bs} {l : List (Bs × α)} : lookK k l = none ↔ ∀ p ∈ l, p.1 ≠ k := by
  induction l with
  | nil => simp [lookK]
  | cons p l ih =>
    obtain ⟨a, x⟩ := p
    by_cases h : a = k <;> simp [lookK, h, ih]

/-- No key twice. -/
def Nod (l : List (Bs × α)) : Prop := (l.map (·.1)).Nodup
theorem nod_snoc (l : List (Bs × α)) (k : Bs) (v : α) : Nod (l ++ [(k, v)]) ↔ Nod l ∧ lookK k l = none := by
  unfold Nod
  rw [lookK_none, List.map_append, List.nodup_append]
  constructor
  · rintro ⟨h, _, g⟩
    refine ⟨h, fun p hp e => ?_⟩
    exact g p.1 (List.mem_map.2 ⟨p, hp, rfl⟩) k (by simp) e
  · rintro ⟨h, g⟩
    refine ⟨h, by simp, ?_⟩
    intro a ha b hb
    obtain ⟨p, hp, rfl⟩ := List.mem_map.1 ha
    obtain rfl : b = k := by simpa using hb
    exact g p hp
theorem lookK_ofL (k : Bs) (l : List (Bs × α)) (h : Nod l) : lookK k (ofL l) = lookK k l := by
  have : ∀ n (l : List (Bs × α)), l.length = n → Nod l → lookK k (ofL l) = lookK k l := by
    intro n
    induction n with
    | zero => intro l hl _; obtain rfl := List.eq_nil_of_length_eq_zero hl; rfl
    | succ n ih =>
      intro l hl hn
      have hne : l ≠ [] := by intro e; subst e; simp at hl
      obtain ⟨m, p, rfl⟩ : ∃ m p, l = m ++ [p] := ⟨l.dropLast, l.getLast hne, (List.dropLast_concat_getLast hne).symm⟩
      obtain ⟨a, x⟩ := p
      obtain ⟨h1, h2⟩ := (nod_snoc m a x).1 hn
      rw [ofL_snoc]
      have e := ih m (by simpa using hl) h1
      by_cases hk : k = a
      · subst hk
        rw [lookK_insK_same, lookK_append, h2]; simp [lookK]
      · rw [lookK_insK_other _ _ _ _ hk, e, lookK_append]
        simp [lookK, Ne.symm hk]
  exact this l.length l rfl h

/-! ### the grammar -/
def isBl (c : UInt8) : Bool := c == 32 || c == 9 || c == 10 || c == 13
def sk (s : Bs) : Bs := s.dropWhile isBl
def isDg (c : UInt8) : Bool := decide (48 ≤ c) && decide (c ≤ 57)
def dgs (s : Bs) : Bs := s.takeWhile isDg
def natOf (l : Bs) : Nat := l.foldl (fun n c => n * 10 + (c.toNat - 48)) 0
def maxNum : Nat := 9007199254740991
/-- Digits without noughts in front. -/
def whole (d : Bs) : Bool := d == [48] || (d != [] && d.head? != some 48)
def pNat (s : Bs) : Option (Nat × Bs) := if whole (dgs s) && decide (natOf (dgs s) ≤ maxNum) then some (natOf (dgs s), s.dropWhile isDg) else none
def pNum (s : Bs) : Option (Int × Bs) :=
  match s with
  | [] => none
  | c :: t => if c = 45 then (match pNat t with | some (n, r) => if n = 0 then none else some (-(n : Int), r) | none => none) else (pNat (c :: t)).map fun x => ((x.1 : Int), x.2)

def hexV (c : UInt8) : Option Nat :=
  if 48 ≤ c ∧ c ≤ 57 then some (c.toNat - 48) else if 97 ≤ c ∧ c ≤ 102 then some (c.toNat - 97 + 10) else if 65 ≤ c ∧ c ≤ 70 then some (c.toNat - 65 + 10) else none
def hex4 (s : Bs) : Option (Nat × Bs) :=
  match s with
  | a :: b :: c :: d :: t => (hexV a).bind fun a => (hexV b).bind fun b => (hexV c).bind fun c => (hexV d).map fun d => (((a * 16 + b) * 16 + c) * 16 + d, t)
  | _ => none
/-- Behind a backslash and a u. -/
def escU (s : Bs) : Option (Nat × Bs) :=
  match hex4 s with
  | none => none
  | some (x, r) =>
    if x < 55296 ∨ 57343 < x then some (x, r) else if 56319 < x then none else
    match r with
    | a :: b :: q => if a = 92 ∧ b = 117 then (match hex4 q with | some (y, z) => if 56320 ≤ y ∧ y ≤ 57343 then some (65536 + (x - 55296) * 1024 + (y - 56320), z) else none | none => none) else none
    | _ => none
/-- Behind a backslash. -/
def esc (s : Bs) : Option (Nat × Bs) :=
  match s with
  | [] => none
  | c :: t =>
    if c = 34 ∨ c = 92 ∨ c = 47 then some (c.toNat, t) else if c = 98 then some (8, t) else if c = 102 then some (12, t) else if c = 110 then some (10, t)
    else if c = 114 then some (13, t) else if c = 116 then some (9, t) else if c = 117 then escU t else none
/-- A sign of a string, not its end; u: runes are held to UTF-8 where they stand. -/
def ch (u : Bool) (c : UInt8) (t : Bs) : Option (Bs × Bs) :=
  if c < 32 then none
  else if c = 92 then (esc t).map fun x => ((Utf8.encode x.1).data.toList, x.2)
  else if u then (if (decodeL (c :: t)).1 = 65533 ∧ (decodeL (c :: t)).2 = 1 then none else some ((c :: t).take (decodeL (c :: t)).2, (c :: t).drop (decodeL (c :: t)).2))
  else some ([c], t)
/-- Behind the opening quote. -/
def pStr (u : Bool) (s : Bs) : Option (Bs × Bs) :=
  match s with
  | [] => none
  | c :: t => if c = 34 then some ([], t) else
    match ch u c t with
    | none => none
    | some (o, r) => if r.length < (c :: t).length then (pStr u r).map fun x => (o ++ x.1, x.2) else none
termination_by s.length

def pMore {σ : Type} (p : σ → Bs → Option (σ × Bs)) (e : UInt8) : Nat → σ → Bs → Option (σ × Bs)
  | 0, _, _ => none
  | n + 1, a, s =>
    match sk s with
    | [] => none
    | c :: t => if c = 44 then (match p a t with | some (b, r) => pMore p e n b r | none => none) else if c = e then some (a, t) else none
/-- Behind the opening sign. -/
def pSev {σ : Type} (p : σ → Bs → Option (σ × Bs)) (e : UInt8) (a : σ) (s : Bs) : Option (σ × Bs) :=
  if (sk s).head? = some e then some (a, (sk s).tail) else match p a s with | some (b, r) => pMore p e (r.length + 1) b r | none => none
def pEl (pv : Bs → Option (J × Bs)) (a : List J) (s : Bs) : Option (List J × Bs) := (pv s).map fun x => (a ++ [x.1], x.2)
def pMem (u : Bool) (pv : Bs → Option (J × Bs)) (a : List (Bs × J)) (s : Bs) : Option (List (Bs × J) × Bs) :=
  match sk s with
  | [] => none
  | c :: t => if c = 34 then
      (match pStr u t with
       | none => none
       | some (k, r) => if (lookK k a).isSome then none else
         match sk r with
         | [] => none
         | c :: q => if c = 58 then (pv q).map fun x => (a ++ [(k, x.1)], x.2) else none) else none
def pWord (s : Bs) : Option (J × Bs) :=
  if s.take 4 = [110, 117, 108, 108] then some (.null, s.drop 4) else if s.take 4 = [116, 114, 117, 101] then some (.bool true, s.drop 4)
  else if s.take 5 = [102, 97, 108, 115, 101] then some (.bool false, s.drop 5) else none
/-- A scalar, at its first sign. -/
def pSca (u : Bool) (c : UInt8) (t : Bs) : Option (J × Bs) :=
  if c = 34 then (pStr u t).map fun x => (.str x.1, x.2)
  else if c = 45 ∨ isDg c = true then (pNum (c :: t)).map fun x => (.num x.1, x.2)
  else pWord (c :: t)
/-- A value; d: how many arrays and objects may still be opened. -/
def pVal (u : Bool) : Nat → Bs → Option (J × Bs)
  | 0, s =>
    match sk s with
    | [] => none
    | c :: t => if c = 123 ∨ c = 91 then none else pSca u c t
  | d + 1, s =>
    match sk s with
    | [] => none
    | c :: t =>
      if c = 123 then (pSev (pMem u (pVal u d)) 125 [] t).map fun x => (.obj (ofL x.1), x.2)
      else if c = 91 then (pSev (pEl (pVal u d)) 93 [] t).map fun x => (.arr x.1, x.2)
      else pSca u c t
def pTop (u : Bool) (s : Bs) : Option J :=
  match pVal u 6 s with
  | some (j, t) => if sk t = [] then some j else none
  | none => none
/-- JSON of this kind. -/
def parse (s : Bs) : Option J := if validD s then pTop false s else none

/-! ### what is left is shorter -/
theorem sk_len (s : Bs) : (sk s).length ≤ s.length := by
  unfold sk; exact (List.dropWhile_suffix _).length_le
theorem esc_len {s r : Bs} {x : Nat} (h : esc s = some (x, r)) : r.length < s.length := by
  have h4 : ∀ {q z : Bs} {y : Nat}, hex4 q = some (y, z) → z.length < q.length := by
    intro q z y h
    unfold hex4 at h
    split at h
    · simp only [Option.bind_eq_some_iff, Option.map_eq_some_iff, Prod.mk.injEq] at h
      obtain ⟨_, _, _, _, _, _, _, _, _, rfl⟩ := h
      simp; omega
    · simp at h
  unfold esc at h
  split at h
  · simp at h
  · rename_i c t
    repeat' split at h
    all_goals first | (simp at h; obtain ⟨_, rfl⟩ := h; simp) | (simp at h; done) | skip
    unfold escU at h
    split at h
    · simp at h
    · rename_i x' r' h1
      have g1 := h4 h1
      split at h
      · simp at h; obtain ⟨_, rfl⟩ := h; simp; omega
      · split at h
        · simp at h
        · split at h
          · split at h
            · split at h
              · rename_i h2
                have g2 := h4 h2
                split at h
                · simp at h; obtain ⟨_, rfl⟩ := h; simp at g1 ⊢; omega
                · simp at h
              · simp at h
            · simp at h
          · simp at h
theorem ch_len {u : Bool} {c : UInt8} {t o r : Bs} (h : ch u c t = some (o, r)) : r.length < (c :: t).length := by
  unfold ch at h
  split at h
  · simp at h
  · split at h
    · simp only [Option.map_eq_some_iff, Prod.mk.injEq] at h
      obtain ⟨⟨x, r'⟩, h1, _, rfl⟩ := h
      have := esc_len h1
      simp only [List.length_cons]; omega
    · split at h
      · split at h
        · simp at h
        · simp only [Option.some.injEq, Prod.mk.injEq] at h
          obtain ⟨_, rfl⟩ := h
          have := decodeL_width (c :: t)
          rw [List.length_drop]
          simp only [List.length_cons]; omega
      · simp only [Option.some.injEq, Prod.mk.injEq] at h
        obtain ⟨_, rfl⟩ := h
        simp
theorem pStr_cons (u : Bool) (c : UInt8) (t : Bs) : pStr u (c :: t) = if c = 34 then some ([], t) else match ch u c t with | none => none | some (o, r) => (pStr u r).map fun x => (o ++ x.1, x.2) := by
  rw [pStr]
  split
  · rfl
  · split
    · rfl
    · rename_i o r h
      rw [if_pos (ch_len h)]
theorem pStr_nil (u : Bool) : pStr u [] = none := by rw [pStr]
theorem pStr_len {u : Bool} : ∀ (n : Nat) {s o r : Bs}, s.length ≤ n → pStr u s = some (o, r) → r.length < s.length
  | n, [], o, r, _, h => by rw [pStr_nil] at h; simp at h
  | 0, c :: t, o, r, hn, _ => by simp at hn
  | n + 1, c :: t, o, r, hn, h => by
    rw [pStr_cons] at h
    split at h
    · simp at h; obtain ⟨_, rfl⟩ := h; simp
    · split at h
      · simp at h
      · rename_i o' r' h1
        have g := ch_len h1
        simp only [Option.map_eq_some_iff, Prod.mk.injEq] at h
        obtain ⟨⟨x, r''⟩, h2, _, rfl⟩ := h
        have := pStr_len n (by simp at g hn; omega) h2
        simp only [List.length_cons] at *
        omega

/-! ### UTF-8: held to where a rune stands, or as a whole -/
theorem dec_high (l : Bs) (hne : l ≠ []) (h0 : 128 ≤ (l.getD 0 0).toNat) :
    (decodeL l).2 ≤ l.length ∧ ∀ i, i < (decodeL l).2 → 128 ≤ (l.getD i 0).toNat := by
  refine ⟨decodeL_le l hne, ?_⟩
  intro i hi
  rw [decodeL_N] at hi
  unfold decodeN at hi
  repeat' split at hi
  all_goals simp only at hi
  all_goals (rcases (show i = 0 ∨ i = 1 ∨ i = 2 ∨ i = 3 by omega) with rfl | rfl | rfl | rfl)
  all_goals first | exact h0 | omega | (exfalso; omega)

theorem pStr_high (l r : Bs) (h : ∀ b ∈ l, 128 ≤ b.toNat) : pStr false (l ++ r) = (pStr false r).map fun x => (l ++ x.1, x.2) := by
  induction l with
  | nil => simp
  | cons c l ih =>
    have hc := h c (by simp)
    have n34 : c ≠ 34 := by rintro rfl; revert hc; decide
    have n92 : c ≠ 92 := by rintro rfl; revert hc; decide
    have n32 : ¬ c < 32 := by rw [UInt8.lt_iff_toNat_lt]; simp; omega
    rw [List.cons_append, pStr_cons, if_neg n34]
    simp only [ch, if_neg n32, if_neg n92, Bool.false_eq_true, if_false]
    rw [ih (fun b hb => h b (by simp [hb]))]
    cases pStr false r <;> simp

theorem esc_valid {s r : Bs} {x : Nat} (h : esc s = some (x, r)) : validD s = validD r := by
  have hx : ∀ {c : UInt8} {y : Nat}, hexV c = some y → c.toNat < 128 := by
    intro c y h
    unfold hexV at h
    have := UInt8.le_iff_toNat_le (a := c) (b := 57)
    have := UInt8.le_iff_toNat_le (a := c) (b := 102)
    have := UInt8.le_iff_toNat_le (a := c) (b := 70)
    repeat' split at h
    all_goals simp_all
    all_goals omega
  have h4 : ∀ {q z : Bs} {y : Nat}, hex4 q = some (y, z) → validD q = validD z := by
    intro q z y h
    unfold hex4 at h
    split at h
    · simp only [Option.bind_eq_some_iff, Option.map_eq_some_iff, Prod.mk.injEq] at h
      obtain ⟨_, g1, _, g2, _, g3, _, g4, _, rfl⟩ := h
      rw [validD_cons _ _ (hx g1), validD_cons _ _ (hx g2), validD_cons _ _ (hx g3), validD_cons _ _ (hx g4)]
    · simp at h
  unfold esc at h
  split at h
  · simp at h
  · rename_i c t
    repeat' split at h
    case h_2.isTrue =>
      rename_i hc
      simp at h; obtain ⟨_, rfl⟩ := h
      rw [validD_cons]
      rcases hc with rfl | rfl | rfl <;> decide
    all_goals first | (rename_i hc; subst hc; simp at h; obtain ⟨_, rfl⟩ := h; rw [validD_cons _ _ (by decide)]; done) | (simp at h; done) | skip
    rename_i hc
    subst hc
    rw [validD_cons _ _ (by decide)]
    unfold escU at h
    split at h
    · simp at h
    · rename_i x' r' h1
      rw [h4 h1]
      split at h
      · simp at h; obtain ⟨_, rfl⟩ := h; rfl
      · split at h
        · simp at h
        · split at h
          · split at h
            · rename_i hab
              obtain ⟨rfl, rfl⟩ := hab
              split at h
              · rename_i h2
                split at h
                · simp at h; obtain ⟨_, rfl⟩ := h
                  rw [validD_cons _ _ (by decide), validD_cons _ _ (by decide)]
                  exact h4 h2
                · simp at h
              · simp at h
            · simp at h
          · simp at h
theorem pStr_true_valid : ∀ (n : Nat) {s o r : Bs}, s.length ≤ n → pStr true s = some (o, r) → validD s = validD r
  | n, [], o, r, _, h => by rw [pStr_nil] at h; simp at h
  | 0, c :: t, o, r, hn, _ => by simp at hn
  | n + 1, c :: t, o, r, hn, h => by
    rw [pStr_cons] at h
    split at h
    · rename_i hc
      subst hc
      simp at h; obtain ⟨_, rfl⟩ := h; rw [validD_cons _ _ (by decide)]
    · split at h
      · simp at h
      · rename_i o' r' h1
        have g := ch_len h1
        simp only [Option.map_eq_some_iff, Prod.mk.injEq] at h
        obtain ⟨⟨x, r''⟩, h2, _, rfl⟩ := h
        rw [← pStr_true_valid n (by simp at g hn; omega) h2]
        unfold ch at h1
        split at h1
        · simp at h1
        · split at h1
          · rename_i hc
            subst hc
            simp only [Option.map_eq_some_iff, Prod.mk.injEq] at h1
            obtain ⟨⟨x', q⟩, h3, _, rfl⟩ := h1
            rw [validD_cons _ _ (by decide)]
            exact esc_valid h3
          · simp only [if_true] at h1
            split at h1
            · simp at h1
            · rename_i hb
              simp only [Option.some.injEq, Prod.mk.injEq] at h1
              obtain ⟨_, rfl⟩ := h1
              rw [validD_step _ (by simp), if_neg hb]
theorem getD_take {l : Bs} {k : Nat} (h : ∀ i, i < k → 128 ≤ (l.getD i 0).toNat) (hk : k ≤ l.length) : ∀ b ∈ l.take k, 128 ≤ b.toNat := by
  intro b hb
  obtain ⟨i, hi, rfl⟩ := List.mem_iff_getElem.1 hb
  simp only [List.length_take] at hi
  have := h i (by omega)
  rw [List.getElem_take]
  simpa [List.getD_eq_getElem?_getD, List.getElem?_eq_getElem (show i < l.length by omega)] using this
theorem pStr_true_eq : ∀ (n : Nat) {s : Bs}, s.length ≤ n → validD s = true → pStr true s = pStr false s
  | n, [], _, _ => by rw [pStr_nil, pStr_nil]
  | 0, c :: t, hn, _ => by simp at hn
  | n + 1, c :: t, hn, hv => by
    rw [pStr_cons]
    by_cases h34 : c = 34
    · rw [pStr_cons, if_pos h34, if_pos h34]
    rw [if_neg h34]
    by_cases h32 : c < 32
    · rw [pStr_cons, if_neg h34]; simp [ch, h32]
    by_cases h92 : c = 92
    · subst h92
      rw [pStr_cons, if_neg h34]
      simp only [ch, if_neg h32, if_true]
      cases he : esc t with
      | none => simp
      | some p =>
        obtain ⟨x, r⟩ := p
        simp only [Option.map_some]
        have g := esc_len he
        rw [pStr_true_eq n (by simp at hn; omega) (by rw [← esc_valid he, ← validD_cons 92 t (by decide)]; exact hv)]
    have hbad : ¬ ((decodeL (c :: t)).1 = 65533 ∧ (decodeL (c :: t)).2 = 1) := by
      intro hb
      rw [validD_step _ (by simp), if_pos hb] at hv
      cases hv
    have hv' : validD ((c :: t).drop (decodeL (c :: t)).2) = true := by
      rw [validD_step _ (by simp), if_neg hbad] at hv; exact hv
    have e : ch true c t = some ((c :: t).take (decodeL (c :: t)).2, (c :: t).drop (decodeL (c :: t)).2) := by
      simp only [ch, if_neg h32, if_neg h92, if_true, if_neg hbad]
    rw [e]
    simp only
    have hw := decodeL_width (c :: t)
    rw [pStr_true_eq n (by rw [List.length_drop]; simp only [List.length_cons] at *; omega) hv']
    by_cases hc : c.toNat < 128
    · rw [decodeL_ascii c t hc, pStr_cons, if_neg h34]
      simp [ch, h32, h92]
    · obtain ⟨hk, hh⟩ := dec_high (c :: t) (by simp) (by simpa using hc)
      have := pStr_high ((c :: t).take (decodeL (c :: t)).2) ((c :: t).drop (decodeL (c :: t)).2) (getD_take hh hk)
      rw [List.take_append_drop] at this
      exact this.symm

theorem sk_valid (s : Bs) : validD (sk s) = validD s := by
  induction s with
  | nil => rfl
  | cons c t ih =>
    unfold sk at ih ⊢
    rw [List.dropWhile_cons]
    split
    · rename_i h
      rw [ih, validD_cons]
      unfold isBl at h
      simp only [Bool.or_eq_true, beq_iff_eq] at h
      rcases h with ((rfl | rfl) | rfl) | rfl <;> decide
    · rfl
theorem sk_cons_valid {s t : Bs} {c : UInt8} (h : sk s = c :: t) (hc : c.toNat < 128) : validD s = validD t := by
  rw [← sk_valid s, h, validD_cons c t hc]
theorem dg_lt {c : UInt8} (h : isDg c = true) : c.toNat < 128 := by
  unfold isDg at h
  simp only [Bool.and_eq_true, decide_eq_true_eq] at h
  have := UInt8.le_iff_toNat_le.1 h.2
  simp at this; omega
theorem dropDg_valid (s : Bs) : validD (s.dropWhile isDg) = validD s := by
  induction s with
  | nil => rfl
  | cons c t ih =>
    rw [List.dropWhile_cons]
    split
    · rename_i h
      rw [ih, validD_cons _ _ (dg_lt h)]
    · rfl
theorem pNat_valid {s r : Bs} {n : Nat} (h : pNat s = some (n, r)) : validD s = validD r := by
  unfold pNat at h
  split at h
  · simp only [Option.some.injEq, Prod.mk.injEq] at h
    obtain ⟨_, rfl⟩ := h
    exact (dropDg_valid s).symm
  · simp at h
theorem pNum_valid {s r : Bs} {n : Int} (h : pNum s = some (n, r)) : validD s = validD r := by
  unfold pNum at h
  split at h
  · simp at h
  · split at h
    · rename_i hc
      subst hc
      rw [validD_cons _ _ (by decide)]
      split at h
      · rename_i h1
        split at h
        · simp at h
        · simp only [Option.some.injEq, Prod.mk.injEq] at h
          obtain ⟨_, rfl⟩ := h
          exact pNat_valid h1
      · simp at h
    · simp only [Option.map_eq_some_iff, Prod.mk.injEq] at h
      obtain ⟨⟨x, q⟩, h1, _, rfl⟩ := h
      exact pNat_valid h1
theorem take_valid {s w : Bs} {k : Nat} (h : s.take k = w) (hw : ∀ b ∈ w, b.toNat < 128) : validD s = validD (s.drop k) := by
  subst h
  exact validD_ascii k s hw
theorem pWord_valid {s r : Bs} {j : J} (h : pWord s = some (j, r)) : validD s = validD r := by
  unfold pWord at h
  repeat' split at h
  all_goals first | (simp only [Option.some.injEq, Prod.mk.injEq] at h; rename_i h1; rw [← h.2]; exact take_valid h1 (by decide)) | (simp at h; done)

theorem pSca_true_valid {c : UInt8} {t r : Bs} {j : J} (h : pSca true c t = some (j, r)) : validD (c :: t) = validD r := by
  unfold pSca at h
  split at h
  · rename_i hc
    subst hc
    simp only [Option.map_eq_some_iff, Prod.mk.injEq] at h
    obtain ⟨⟨x, q⟩, h1, _, rfl⟩ := h
    rw [validD_cons _ _ (by decide)]
    exact pStr_true_valid _ (Nat.le_refl _) h1
  · split at h
    · simp only [Option.map_eq_some_iff, Prod.mk.injEq] at h
      obtain ⟨⟨x, q⟩, h1, _, rfl⟩ := h
      exact pNum_valid h1
    · exact pWord_valid h
/-- What a part of the grammar takes off a text does not turn whether it is UTF-8. -/
def KeepsV {σ : Type} (p : σ → Bs → Option (σ × Bs)) : Prop := ∀ a s b r, p a s = some (b, r) → validD s = validD r
theorem pMore_valid {σ : Type} {p : σ → Bs → Option (σ × Bs)} (hp : KeepsV p) {e : UInt8} (he : e.toNat < 128) :
    ∀ (n : Nat) (a : σ) (s : Bs) (b : σ) (r : Bs), pMore p e n a s = some (b, r) → validD s = validD r
  | 0, a, s, b, r, h => by simp [pMore] at h
  | n + 1, a, s, b, r, h => by
    unfold pMore at h
    split at h
    · simp at h
    · rename_i c t hs
      split at h
      · rename_i hc
        subst hc
        split at h
        · rename_i b' r' h1
          rw [sk_cons_valid hs (by decide), hp _ _ _ _ h1]
          exact pMore_valid hp he n _ _ _ _ h
        · simp at h
      · split at h
        · rename_i hc
          subst hc
          simp only [Option.some.injEq, Prod.mk.injEq] at h
          obtain ⟨_, rfl⟩ := h
          exact sk_cons_valid hs he
        · simp at h
theorem pSev_valid {σ : Type} {p : σ → Bs → Option (σ × Bs)} (hp : KeepsV p) {e : UInt8} (he : e.toNat < 128) {a b : σ} {s r : Bs} (h : pSev p e a s = some (b, r)) : validD s = validD r := by
  unfold pSev at h
  split at h
  · rename_i hh
    simp only [Option.some.injEq, Prod.mk.injEq] at h
    obtain ⟨_, rfl⟩ := h
    cases hs : sk s with
    | nil => rw [hs] at hh; simp at hh
    | cons c t =>
      rw [hs] at hh
      simp at hh
      subst hh
      exact sk_cons_valid hs he
  · split at h
    · rename_i h1
      rw [hp _ _ _ _ h1]
      exact pMore_valid hp he _ _ _ _ _ h
    · simp at h
theorem pMem_true_valid {pv : Bs → Option (J × Bs)} (hp : ∀ s j r, pv s = some (j, r) → validD s = validD r) : KeepsV (pMem true pv) := by
  intro a s b r h
  unfold pMem at h
  split at h
  · simp at h
  · rename_i c t hs
    split at h
    · rename_i hc
      subst hc
      rw [sk_cons_valid hs (by decide)]
      split at h
      · simp at h
      · rename_i k q h1
        rw [pStr_true_valid _ (Nat.le_refl _) h1]
        split at h
        · simp at h
        · split at h
          · simp at h
          · rename_i c2 q2 hs2
            split at h
            · rename_i hc2
              subst hc2
              rw [sk_cons_valid hs2 (by decide)]
              simp only [Option.map_eq_some_iff, Prod.mk.injEq] at h
              obtain ⟨⟨x, z⟩, h2, _, rfl⟩ := h
              exact hp _ _ _ h2
            · simp at h
    · simp at h
theorem pVal_true_valid : ∀ (d : Nat) (s : Bs) (j : J) (r : Bs), pVal true d s = some (j, r) → validD s = validD r
  | 0, s, j, r, h => by
    unfold pVal at h
    split at h
    · simp at h
    · rename_i c t hs
      split at h
      · simp at h
      · rw [← sk_valid s, hs]; exact pSca_true_valid h
  | d + 1, s, j, r, h => by
    unfold pVal at h
    split at h
    · simp at h
    · rename_i c t hs
      split at h
      · rename_i hc
        subst hc
        simp only [Option.map_eq_some_iff, Prod.mk.injEq] at h
        obtain ⟨⟨x, z⟩, h2, _, rfl⟩ := h
        rw [sk_cons_valid hs (by decide)]
        exact pSev_valid (pMem_true_valid (pVal_true_valid d)) (by decide) h2
      · split at h
        · rename_i hc
          subst hc
          simp only [Option.map_eq_some_iff, Prod.mk.injEq] at h
          obtain ⟨⟨x, z⟩, h2, _, rfl⟩ := h
          rw [sk_cons_valid hs (by decide)]
          refine pSev_valid ?_ (by decide) h2
          intro a s b r hh
          unfold pEl at hh
          simp only [Option.map_eq_some_iff, Prod.mk.injEq] at hh
          obtain ⟨⟨x, z⟩, h3, _, rfl⟩ := hh
          exact pVal_true_valid d _ _ _ h3
        · rw [← sk_valid s, hs]; exact pSca_true_valid h
/-! at a text that is UTF-8 both go alike -/
theorem pSca_eq {c : UInt8} {t : Bs} (h : validD (c :: t) = true) : pSca true c t = pSca false c t := by
  unfold pSca
  split
  · rename_i hc
    subst hc
    rw [pStr_true_eq _ (Nat.le_refl _) (by rw [← validD_cons 34 t (by decide)]; exact h)]
  · rfl
def Alike {σ : Type} (p q : σ → Bs → Option (σ × Bs)) : Prop := ∀ a s, validD s = true → p a s = q a s
theorem pMore_eq {σ : Type} {p q : σ → Bs → Option (σ × Bs)} (hp : KeepsV p) (hpq : Alike p q) {e : UInt8} :
    ∀ (n : Nat) (a : σ) (s : Bs), validD s = true → pMore p e n a s = pMore q e n a s
  | 0, a, s, _ => rfl
  | n + 1, a, s, hv => by
    unfold pMore
    split
    · rfl
    · rename_i c t hs
      split
      · rename_i hc
        subst hc
        have ht : validD t = true := by rw [← sk_cons_valid hs (by decide)]; exact hv
        rw [← hpq a t ht]
        split
        · rename_i b r h1
          exact pMore_eq hp hpq n b r (by rw [← hp _ _ _ _ h1]; exact ht)
        · rfl
      · rfl
theorem pSev_eq {σ : Type} {p q : σ → Bs → Option (σ × Bs)} (hp : KeepsV p) (hpq : Alike p q) {e : UInt8} (a : σ) (s : Bs) (hv : validD s = true) : pSev p e a s = pSev q e a s := by
  unfold pSev
  split
  · rfl
  · rw [← hpq a s hv]
    split
    · rename_i b r h1
      exact pMore_eq hp hpq _ b r (by rw [← hp _ _ _ _ h1]; exact hv)
    · rfl
theorem pVal_eq : ∀ (d : Nat) (s : Bs), validD s = true → pVal true d s = pVal false d s
  | 0, s, hv => by
    unfold pVal
    split
    · rfl
    · rename_i c t hs
      split
      · rfl
      · exact pSca_eq (by rw [← hs, sk_valid]; exact hv)
  | d + 1, s, hv => by
    unfold pVal
    split
    · rfl
    · rename_i c t hs
      split
      · rename_i hc
        subst hc
        have ht : validD t = true := by rw [← sk_cons_valid hs (by decide)]; exact hv
        rw [pSev_eq (pMem_true_valid (pVal_true_valid d)) ?_ _ _ ht]
        intro a s hv
        unfold pMem
        split
        · rfl
        · rename_i c t hs
          split
          · rename_i hc
            subst hc
            have ht : validD t = true := by rw [← sk_cons_valid hs (by decide)]; exact hv
            rw [← pStr_true_eq _ (Nat.le_refl _) ht]
            split
            · rfl
            · rename_i k r h1
              have hr : validD r = true := by rw [← pStr_true_valid _ (Nat.le_refl _) h1]; exact ht
              split
              · rfl
              · split
                · rfl
                · rename_i c2 q2 hs2
                  split
                  · rename_i hc2
                    subst hc2
                    rw [pVal_eq d q2 (by rw [← sk_cons_valid hs2 (by decide)]; exact hr)]
                  · rfl
          · rfl
      · split
        · rename_i hc
          subst hc
          have ht : validD t = true := by rw [← sk_cons_valid hs (by decide)]; exact hv
          rw [pSev_eq ?_ ?_ _ _ ht]
          · intro a s b r hh
            unfold pEl at hh
            simp only [Option.map_eq_some_iff, Prod.mk.injEq] at hh
            obtain ⟨⟨x, z⟩, h3, _, rfl⟩ := hh
            exact pVal_true_valid d _ _ _ h3
          · intro a s hv
            unfold pEl
            rw [pVal_eq d s hv]
        · exact pSca_eq (by rw [← hs, sk_valid]; exact hv)
theorem sk_nil_valid {s : Bs} (h : sk s = []) : validD s = true := by rw [← sk_valid, h]; rfl
/-- Held to UTF-8 rune by rune, or as a whole: the same. -/
theorem parse_eq (s : Bs) : pTop true s = parse s := by
  unfold parse
  split
  · rename_i hv
    unfold pTop
    rw [pVal_eq 6 s hv]
  · rename_i hv
    unfold pTop
    split
    · rename_i j t h
      split
      · rename_i ht
        exact absurd (by rw [pVal_true_valid _ _ _ _ h]; exact sk_nil_valid ht) hv
      · rfl
    · rfl

end Go.Proofs.YtocligpfmfmihaaGreatDoor
namespace Go.Proofs.YtocligpfmfmihaaGreatDoor
open Go.Lib

/-! ### canonical JSON -/
def hexD (n : Nat) : UInt8 := if n < 10 then UInt8.ofNat (48 + n) else UInt8.ofNat (87 + n)
def cB (c : UInt8) : Bs :=
  if c = 34 ∨ c = 92 then [92, c] else if c = 8 then [92, 98] else if c = 12 then [92, 102] else if c = 10 then [92, 110] else if c = 13 then [92, 114] else if c = 9 then [92, 116]
  else if c < 32 then [92, 117, 48, 48, hexD (c.toNat / 16), hexD (c.toNat % 16)] else [c]
def cStr (s : Bs) : Bs := 34 :: (s.flatMap cB ++ [34])
def decN (n : Nat) : Bs := if n < 10 then [UInt8.ofNat (48 + n)] else decN (n / 10) ++ [UInt8.ofNat (48 + n % 10)]
def cNum (n : Int) : Bs := if n < 0 then 45 :: decN n.natAbs else decN n.natAbs
/-- With commas between. -/
def joinC : List Bs → Bs
  | [] => []
  | [x] => x
  | x :: y :: l => x ++ 44 :: joinC (y :: l)
mutual
def cJ : J → Bs
  | .null => [110, 117, 108, 108]
  | .bool b => if b then [116, 114, 117, 101] else [102, 97, 108, 115, 101]
  | .num n => cNum n
  | .str s => cStr s
  | .arr l => 91 :: (joinC (cJs l) ++ [93])
  | .obj l => 123 :: (joinC (cMs l) ++ [125])
def cJs : List J → List Bs
  | [] => []
  | x :: l => cJ x :: cJs l
def cMs : List (Bs × J) → List Bs
  | [] => []
  | (k, x) :: l => (cStr k ++ 58 :: cJ x) :: cMs l
end
def cMem (p : Bs × J) : Bs := cStr p.1 ++ 58 :: cJ p.2
theorem cJs_map (l : List J) : cJs l = l.map cJ := by
  induction l with
  | nil => rfl
  | cons x l ih => simp [cJs, ih]
theorem cMs_map (l : List (Bs × J)) : cMs l = l.map cMem := by
  induction l with
  | nil => rfl
  | cons x l ih => obtain ⟨k, v⟩ := x; simp [cMs, cMem, ih]
theorem cJ_arr (l : List J) : cJ (.arr l) = 91 :: (joinC (l.map cJ) ++ [93]) := by rw [cJ, cJs_map]
theorem cJ_obj (l : List (Bs × J)) : cJ (.obj l) = 123 :: (joinC (l.map cMem) ++ [125]) := by rw [cJ, cMs_map]
theorem joinC_snoc (l : List Bs) (x : Bs) : joinC (l ++ [x]) = if l = [] then x else joinC l ++ 44 :: x := by
  induction l with
  | nil => simp [joinC]
  | cons a l ih =>
    cases l with
    | nil => simp [joinC]
    | cons b l => simp [joinC] at ih ⊢; rw [ih]

/-! ### trees that a text gives -/
mutual
def WF : Nat → J → Prop
  | _, .null => True
  | _, .bool _ => True
  | _, .num n => n.natAbs ≤ maxNum
  | _, .str s => validD s = true
  | 0, .arr _ => False
  | 0, .obj _ => False
  | d + 1, .arr l => WFs d l
  | d + 1, .obj l => Srt l ∧ WFm d l
def WFs : Nat → List J → Prop
  | _, [] => True
  | d, x :: l => WF d x ∧ WFs d l
def WFm : Nat → List (Bs × J) → Prop
  | _, [] => True
  | d, (k, x) :: l => validD k = true ∧ WF d x ∧ WFm d l
end
theorem WFs_iff (d : Nat) (l : List J) : WFs d l ↔ ∀ x ∈ l, WF d x := by
  induction l with
  | nil => simp [WFs]
  | cons x l ih => simp [WFs, ih]
theorem WFm_iff (d : Nat) (l : List (Bs × J)) : WFm d l ↔ ∀ p ∈ l, validD p.1 = true ∧ WF d p.2 := by
  induction l with
  | nil => simp [WFm]
  | cons x l ih => obtain ⟨k, v⟩ := x; simp [WFm, ih, and_assoc]

/-! ### strings -/
theorem enc_lt (n : Nat) (h : n < 128) : (Utf8.encode (n : Int)).data.toList = [UInt8.ofNat n] := by
  have hv : Utf8.valid (n : Int) = true := by unfold Utf8.valid; simp; omega
  unfold Utf8.encode
  simp [hv, h]
theorem hexV_hexD : ∀ k, k < 16 → hexV (hexD k) = some k := by decide
theorem esc_u00 (a b : Nat) (ha : a < 2) (hb : b < 16) (r : Bs) : esc (117 :: 48 :: 48 :: hexD a :: hexD b :: r) = some (a * 16 + b, r) := by
  have h0 : hexV 48 = some 0 := by decide
  simp [esc, escU, hex4, h0, hexV_hexD a (by omega), hexV_hexD b hb]
  omega
theorem ofNat_toNat' (c : UInt8) : UInt8.ofNat c.toNat = c := by simp
/-- A byte of a string, written and read again. -/
theorem pStr_cB (c : UInt8) (r : Bs) : pStr false (cB c ++ r) = (pStr false r).map fun x => (c :: x.1, x.2) := by
  have hesc : ∀ (x : Nat) (q : Bs), x < 128 → esc q = some (x, r) → pStr false (92 :: q) = (pStr false r).map fun y => (UInt8.ofNat x :: y.1, y.2) := by
    intro x q hx he
    rw [pStr_cons, if_neg (by decide)]
    simp [ch, he, enc_lt x hx]
  unfold cB
  split
  · rename_i h
    rcases h with rfl | rfl
    · exact hesc 34 _ (by decide) (by simp [esc])
    · exact hesc 92 _ (by decide) (by simp [esc])
  · rename_i h
    split
    · rename_i h; subst h; exact hesc 8 _ (by decide) (by simp [esc])
    · split
      · rename_i h; subst h; exact hesc 12 _ (by decide) (by simp [esc])
      · split
        · rename_i h; subst h; exact hesc 10 _ (by decide) (by simp [esc])
        · split
          · rename_i h; subst h; exact hesc 13 _ (by decide) (by simp [esc])
          · split
            · rename_i h; subst h; exact hesc 9 _ (by decide) (by simp [esc])
            · split
              · rename_i h
                have h := UInt8.lt_iff_toNat_lt.1 h
                simp at h
                have := hesc (c.toNat / 16 * 16 + c.toNat % 16) _ (by omega) (esc_u00 (c.toNat / 16) (c.toNat % 16) (by omega) (by omega) r)
                rw [show c.toNat / 16 * 16 + c.toNat % 16 = c.toNat by omega, ofNat_toNat'] at this
                exact this
              · rename_i h32
                have h34 : c ≠ 34 := fun e => h (.inl e)
                have h92 : c ≠ 92 := fun e => h (.inr e)
                rw [List.singleton_append, pStr_cons, if_neg h34]
                simp [ch, h32, h92]
theorem pStr_cStr (s r : Bs) : pStr false (s.flatMap cB ++ 34 :: r) = some (s, r) := by
  induction s with
  | nil => simp [pStr_cons]
  | cons c s ih => rw [List.flatMap_cons, List.append_assoc, pStr_cB, ih]; simp

/-! ### UTF-8 of what is written -/
set_option maxRecDepth 100000 in
set_option maxHeartbeats 4000000 in
theorem decN_more (n m b0 b1 b2 b3 c1 c2 c3 k : Nat) (hk : (decodeN n b0 b1 b2 b3).2 = k) (hkn : k ≤ n) (hkm : k ≤ m) (hb : ¬ ((decodeN n b0 b1 b2 b3).1 = 65533 ∧ k = 1))
    (h1 : 1 < k → c1 = b1) (h2 : 2 < k → c2 = b2) (h3 : 3 < k → c3 = b3) : decodeN m b0 c1 c2 c3 = decodeN n b0 b1 b2 b3 := by
  have h4 : k = 1 ∨ k = 2 ∨ k = 3 ∨ k = 4 := by
    rw [← hk]; unfold decodeN
    repeat' split
    all_goals simp
  have hb' : ¬ (decodeN n b0 b1 b2 b3 = (65533, 1)) := by
    intro e; rw [e] at hk hb; simp at hk; exact hb ⟨rfl, hk.symm⟩
  rcases h4 with rfl | rfl | rfl | rfl
  · have hlt : b0 < 128 := by
      clear h1 h2 h3 hb
      unfold decodeN at hk hb'
      repeat' split at hk
      all_goals first | assumption | (simp at hk; done) | simp_all
    simp [decodeN, hlt]
  · obtain rfl := h1 (by decide)
    clear h1 h2 h3 hb
    unfold decodeN at hk hb' ⊢
    repeat' split at hk
    all_goals first | (simp at hk; done) | skip
    all_goals clear hb' hk
    all_goals repeat' split
    all_goals first | rfl | (exfalso; omega)
  · obtain rfl := h1 (by decide)
    obtain rfl := h2 (by decide)
    clear h1 h2 h3 hb
    unfold decodeN at hk hb' ⊢
    repeat' split at hk
    all_goals first | (simp at hk; done) | skip
    all_goals clear hb' hk
    all_goals repeat' split
    all_goals first | rfl | (exfalso; omega)
  · obtain rfl := h1 (by decide)
    obtain rfl := h2 (by decide)
    obtain rfl := h3 (by decide)
    clear h1 h2 h3 hb
    unfold decodeN at hk hb' ⊢
    repeat' split at hk
    all_goals first | (simp at hk; done) | skip
    all_goals clear hb' hk
    all_goals repeat' split
    all_goals first | rfl | (exfalso; omega)
theorem getD_append_left' (l r : Bs) (i : Nat) (h : i < l.length) : (l ++ r).getD i 0 = l.getD i 0 := by
  simp [List.getD_eq_getElem?_getD, List.getElem?_append_left h]
/-- The first rune hangs on its own bytes alone. -/
theorem dec_own (l r : Bs) (hne : l ≠ []) (hb : ¬ ((decodeL l).1 = 65533 ∧ (decodeL l).2 = 1)) : decodeL (l.take (decodeL l).2 ++ r) = decodeL l := by
  have hk := decodeL_le l hne
  have hw := decodeL_width l
  generalize hkk : (decodeL l).2 = k at hk hw hb
  have hlen : (l.take k).length = k := by simp; omega
  have g : ∀ i, i < k → (l.take k ++ r).getD i 0 = l.getD i 0 := by
    intro i hi
    rw [getD_append_left' _ _ _ (by omega)]
    simp [List.getD_eq_getElem?_getD, hi]
  rw [decodeL_N (l.take k ++ r), g 0 (by omega)]
  rw [decodeL_N l] at hkk hb ⊢
  refine decN_more _ _ _ _ _ _ _ _ _ k hkk hk (by simp; omega) hb ?_ ?_ ?_
  · intro h; rw [g 1 h]
  · intro h; rw [g 2 h]
  · intro h; rw [g 3 h]
theorem validD_app : ∀ (n : Nat) (l r : Bs), l.length ≤ n → validD l = true → validD (l ++ r) = validD r
  | n, [], r, _, _ => by simp
  | 0, c :: t, r, hn, _ => by simp at hn
  | n + 1, c :: t, r, hn, hv => by
    have hbad : ¬ ((decodeL (c :: t)).1 = 65533 ∧ (decodeL (c :: t)).2 = 1) := by
      intro hb
      rw [validD_step _ (by simp), if_pos hb] at hv
      cases hv
    rw [validD_step _ (by simp), if_neg hbad] at hv
    have hk := decodeL_le (c :: t) (by simp)
    have hw := decodeL_width (c :: t)
    have e : decodeL ((c :: t) ++ r) = decodeL (c :: t) := by
      have := dec_own (c :: t) ((c :: t).drop (decodeL (c :: t)).2 ++ r) (by simp) hbad
      rwa [← List.append_assoc, List.take_append_drop] at this
    rw [validD_step ((c :: t) ++ r) (by simp), e, if_neg hbad, List.drop_append_of_le_length hk]
    exact validD_app n _ r (by rw [List.length_drop]; simp only [List.length_cons] at *; omega) hv
theorem cB_high (c : UInt8) (h : 128 ≤ c.toNat) : cB c = [c] := by
  have ne : ∀ x : UInt8, x.toNat < 128 → c ≠ x := by rintro x hx rfl; omega
  have n32 : ¬ c < 32 := by rw [UInt8.lt_iff_toNat_lt]; simp; omega
  simp [cB, ne 34 (by decide), ne 92 (by decide), ne 8 (by decide), ne 12 (by decide), ne 10 (by decide), ne 13 (by decide), ne 9 (by decide), n32]
theorem hexD_lt (k : Nat) (h : k < 16) : (hexD k).toNat < 128 := by
  have : ∀ k, k < 16 → (hexD k).toNat < 128 := by decide
  exact this k h
theorem cB_low (c : UInt8) (h : c.toNat < 128) : ∀ b ∈ cB c, b.toNat < 128 := by
  unfold cB
  intro b hb
  repeat' split at hb
  all_goals simp only [List.mem_cons, List.not_mem_nil, or_false] at hb
  case isFalse.isFalse.isFalse.isFalse.isFalse.isFalse.isTrue =>
    rename_i h32
    have h32 := UInt8.lt_iff_toNat_lt.1 h32
    simp at h32
    rcases hb with rfl | rfl | rfl | rfl | rfl | rfl
    all_goals first | decide | exact hexD_lt _ (by omega)
  all_goals first | (rcases hb with rfl | rfl <;> first | decide | exact h) | (subst hb; exact h)
theorem flat_high (l : Bs) (h : ∀ b ∈ l, 128 ≤ b.toNat) : l.flatMap cB = l := by
  induction l with
  | nil => rfl
  | cons c l ih => rw [List.flatMap_cons, cB_high c (h c (by simp)), ih (fun b hb => h b (by simp [hb]))]; rfl
theorem validD_low (l r : Bs) (h : ∀ b ∈ l, b.toNat < 128) : validD (l ++ r) = validD r := by
  induction l with
  | nil => rfl
  | cons c l ih => rw [List.cons_append, validD_cons _ _ (h c (by simp)), ih (fun b hb => h b (by simp [hb]))]
theorem validD_flat : ∀ (n : Nat) (l r : Bs), l.length ≤ n → validD l = true → validD (l.flatMap cB ++ r) = validD r
  | n, [], r, _, _ => by simp
  | 0, c :: t, r, hn, _ => by simp at hn
  | n + 1, c :: t, r, hn, hv => by
    have hbad : ¬ ((decodeL (c :: t)).1 = 65533 ∧ (decodeL (c :: t)).2 = 1) := by
      intro hb
      rw [validD_step _ (by simp), if_pos hb] at hv
      cases hv
    rw [validD_step _ (by simp), if_neg hbad] at hv
    have hw := decodeL_width (c :: t)
    by_cases hc : c.toNat < 128
    · rw [decodeL_ascii c t hc] at hv
      rw [List.flatMap_cons, List.append_assoc, validD_low _ _ (cB_low c hc)]
      exact validD_flat n t r (by simpa using hn) (by simpa using hv)
    · obtain ⟨hk, hh⟩ := dec_high (c :: t) (by simp) (by simpa using hc)
      have hi := getD_take hh hk
      have e := dec_own (c :: t) (((c :: t).drop (decodeL (c :: t)).2).flatMap cB ++ r) (by simp) hbad
      have e1 : (c :: t).flatMap cB = (c :: t).take (decodeL (c :: t)).2 ++ ((c :: t).drop (decodeL (c :: t)).2).flatMap cB := by
        conv => lhs; rw [← List.take_append_drop (decodeL (c :: t)).2 (c :: t), List.flatMap_append, flat_high _ hi]
      rw [e1, List.append_assoc]
      generalize hk' : (decodeL (c :: t)).2 = k at *
      have hlen : ((c :: t).take k).length = k := by simp only [List.length_take]; omega
      rw [validD_step _ (by intro h0; have := congrArg List.length h0; rw [List.length_append, hlen] at this; simp at this; omega), e, hk', if_neg hbad]
      rw [List.drop_append_of_le_length (by omega), List.drop_eq_nil_of_le (by omega), List.nil_append]
      exact validD_flat n _ r (by rw [List.length_drop]; simp only [List.length_cons] at *; omega) hv
theorem validD_cStr (s r : Bs) (h : validD s = true) : validD (cStr s ++ r) = validD r := by
  unfold cStr
  rw [List.cons_append, validD_cons _ _ (by decide), List.append_assoc, validD_flat _ _ _ (Nat.le_refl _) h]
  exact validD_cons _ _ (by decide)

end Go.Proofs.YtocligpfmfmihaaGreatDoor
namespace Go.Proofs.YtocligpfmfmihaaGreatDoor
open Go.Lib

/-! ### numbers -/
theorem natOf_snoc (l : Bs) (c : UInt8) : natOf (l ++ [c]) = natOf l * 10 + (c.toNat - 48) := by simp [natOf]
theorem dg_of (k : Nat) (h : k < 10) : isDg (UInt8.ofNat (48 + k)) = true ∧ (UInt8.ofNat (48 + k)).toNat = 48 + k := by
  have : ∀ k, k < 10 → isDg (UInt8.ofNat (48 + k)) = true ∧ (UInt8.ofNat (48 + k)).toNat = 48 + k := by decide
  exact this k h
theorem decN_dg (n : Nat) : ∀ c ∈ decN n, isDg c = true := by
  induction n using Nat.strongRecOn with
  | _ n ih =>
    rw [decN]
    split
    · rename_i h
      intro c hc
      obtain rfl := List.mem_singleton.1 hc
      exact (dg_of n h).1
    · rename_i h
      intro c hc
      rcases List.mem_append.1 hc with hc | hc
      · exact ih (n / 10) (by omega) c hc
      · obtain rfl := List.mem_singleton.1 hc
        exact (dg_of (n % 10) (by omega)).1
theorem natOf_decN (n : Nat) : natOf (decN n) = n := by
  induction n using Nat.strongRecOn with
  | _ n ih =>
    rw [decN]
    split
    · rename_i h
      simp only [natOf, List.foldl_cons, List.foldl_nil]
      rw [(dg_of n h).2]; omega
    · rename_i h
      rw [natOf_snoc, ih (n / 10) (by omega), (dg_of (n % 10) (by omega)).2]; omega
theorem decN_ne (n : Nat) : decN n ≠ [] := by
  rw [decN]; split <;> simp
theorem decN_head (n : Nat) (h : 0 < n) : (decN n).head? ≠ some 48 := by
  induction n using Nat.strongRecOn with
  | _ n ih =>
    rw [decN]
    split
    · rename_i hl
      simp only [List.head?_cons, ne_eq, Option.some.injEq]
      intro e
      have := (dg_of n hl).2
      rw [e] at this
      simp at this; omega
    · rename_i hl
      have := ih (n / 10) (by omega) (by omega)
      cases hd : decN (n / 10) with
      | nil => exact absurd hd (decN_ne _)
      | cons c t => rw [hd] at this; simpa using this
theorem whole_decN (n : Nat) : whole (decN n) = true := by
  unfold whole
  by_cases h : n = 0
  · subst h; rw [decN]; decide
  · simp [decN_ne, decN_head n (by omega)]
/-- No digit comes next. -/
def NoDg (r : Bs) : Prop := ∀ c ∈ r.head?, isDg c = false
theorem takeDg_app (l r : Bs) (h : ∀ c ∈ l, isDg c = true) (hr : NoDg r) : (l ++ r).takeWhile isDg = l ∧ (l ++ r).dropWhile isDg = r := by
  induction l with
  | nil =>
    cases r with
    | nil => simp
    | cons c t =>
      have := hr c (by simp)
      simp [this]
  | cons c l ih =>
    have hc := h c (by simp)
    obtain ⟨h1, h2⟩ := ih (fun b hb => h b (by simp [hb]))
    simp [hc, h1, h2]
theorem pNat_decN (n : Nat) (r : Bs) (hn : n ≤ maxNum) (hr : NoDg r) : pNat (decN n ++ r) = some (n, r) := by
  obtain ⟨h1, h2⟩ := takeDg_app (decN n) r (decN_dg n) hr
  unfold pNat dgs
  rw [h1, h2, whole_decN, natOf_decN]
  simp [hn]
theorem decN_cons (n : Nat) : ∃ c t, decN n = c :: t ∧ isDg c = true := by
  cases h : decN n with
  | nil => exact absurd h (decN_ne n)
  | cons c t => exact ⟨c, t, rfl, decN_dg n c (by simp [h])⟩
theorem dg_ne {c x : UInt8} (h : isDg c = true) (hx : isDg x = false) : c ≠ x := by rintro rfl; rw [h] at hx; cases hx
theorem pNum_cNum (n : Int) (r : Bs) (hn : n.natAbs ≤ maxNum) (hr : NoDg r) : pNum (cNum n ++ r) = some (n, r) := by
  unfold cNum
  split
  · rename_i h
    simp only [List.cons_append, pNum, if_true, pNat_decN _ _ hn hr]
    rw [if_neg (by omega)]
    simp; omega
  · rename_i h
    obtain ⟨c, t, e, hc⟩ := decN_cons n.natAbs
    have := pNat_decN _ _ hn hr
    rw [e] at this ⊢
    simp only [List.cons_append] at this ⊢
    simp only [pNum, if_neg (dg_ne hc (by decide : isDg 45 = false)), this, Option.map_some]
    simp; omega

/-! ### heads -/
theorem cJ_head (j : J) : ∃ c t, cJ j = c :: t ∧ isBl c = false ∧ c ≠ 93 ∧ c ≠ 125 := by
  have dgh : ∀ c, isDg c = true → isBl c = false ∧ c ≠ 93 ∧ c ≠ 125 := by
    intro c h
    have nb : isBl c = false := by
      cases hb : isBl c with
      | false => rfl
      | true =>
        unfold isBl at hb
        simp only [Bool.or_eq_true, beq_iff_eq] at hb
        rcases hb with ((rfl | rfl) | rfl) | rfl <;> revert h <;> decide
    exact ⟨nb, dg_ne h (by decide), dg_ne h (by decide)⟩
  cases j with
  | null => exact ⟨_, _, by rw [cJ], by decide, by decide, by decide⟩
  | bool b => cases b with
    | true => exact ⟨116, [114, 117, 101], by simp [cJ], by decide, by decide, by decide⟩
    | false => exact ⟨102, [97, 108, 115, 101], by simp [cJ], by decide, by decide, by decide⟩
  | num n =>
    simp only [cJ, cNum]
    split
    · exact ⟨_, _, rfl, by decide, by decide, by decide⟩
    · obtain ⟨c, t, e, hc⟩ := decN_cons n.natAbs
      exact ⟨c, t, e, dgh c hc⟩
  | str s => exact ⟨34, _, by rw [cJ, cStr], by decide, by decide, by decide⟩
  | arr l => exact ⟨91, _, by rw [cJ], by decide, by decide, by decide⟩
  | obj l => exact ⟨123, _, by rw [cJ], by decide, by decide, by decide⟩
theorem sk_non {c : UInt8} (t : Bs) (h : isBl c = false) : sk (c :: t) = c :: t := by simp [sk, h]

/-! ### lists -/
theorem joinC_cons (x : Bs) (l : List Bs) : joinC (x :: l) = x ++ l.flatMap (fun y => 44 :: y) := by
  induction l generalizing x with
  | nil => simp [joinC]
  | cons y l ih => rw [joinC, ih y]; simp
theorem pMore_tail {σ α : Type} (p : σ → Bs → Option (σ × Bs)) (e : UInt8) (he : isBl e = false) (he' : e ≠ 44) (f : α → Bs) (st : σ → α → σ) (r : Bs) :
    ∀ (l : List α) (a : σ) (n : Nat), l.length < n →
      (∀ (l1 : List α) (x : α) (l2 : List α) (q : Bs), l = l1 ++ x :: l2 → NoDg q → p (l1.foldl st a) (f x ++ q) = some (st (l1.foldl st a) x, q)) → isDg e = false →
      pMore p e n a (l.flatMap (fun y => 44 :: f y) ++ e :: r) = some (l.foldl st a, r)
  | [], a, n, hn, _, _ => by
    obtain ⟨m, rfl⟩ : ∃ m, n = m + 1 := ⟨n - 1, by simp at hn; omega⟩
    simp [pMore, sk_non _ he, he']
  | x :: l, a, n, hn, hp, hd => by
    obtain ⟨m, rfl⟩ : ∃ m, n = m + 1 := ⟨n - 1, by simp at hn; omega⟩
    have nd : NoDg (l.flatMap (fun y => 44 :: f y) ++ e :: r) := by
      cases l with
      | nil => intro c hc; simp at hc; subst hc; exact hd
      | cons y l => intro c hc; simp at hc; subst hc; decide
    have hx := hp [] x l _ rfl nd
    simp only [List.foldl_nil] at hx
    simp only [List.flatMap_cons, List.cons_append, List.append_assoc]
    rw [pMore, sk_non _ (by decide)]
    simp only [if_true, hx]
    rw [List.foldl_cons]
    refine pMore_tail p e he he' f st r l (st a x) m (by simp at hn; omega) ?_ hd
    intro l1 y l2 q hl hq
    have := hp (x :: l1) y l2 q (by rw [hl]; rfl) hq
    simpa using this
theorem flat_len {α : Type} (f : α → Bs) (l : List α) (r : Bs) : l.length ≤ (l.flatMap (fun y => 44 :: f y) ++ r).length := by
  induction l with
  | nil => simp
  | cons x l ih => simp at ih ⊢; omega
theorem pSev_list {σ α : Type} (p : σ → Bs → Option (σ × Bs)) (e : UInt8) (he : isBl e = false) (he' : e ≠ 44) (hd : isDg e = false) (f : α → Bs) (st : σ → α → σ) (r : Bs) (a : σ) (l : List α)
    (hf : ∀ x, ∃ c t, f x = c :: t ∧ isBl c = false ∧ c ≠ e)
    (hp : ∀ (l1 : List α) (x : α) (l2 : List α) (q : Bs), l = l1 ++ x :: l2 → NoDg q → p (l1.foldl st a) (f x ++ q) = some (st (l1.foldl st a) x, q)) :
    pSev p e a (joinC (l.map f) ++ e :: r) = some (l.foldl st a, r) := by
  cases l with
  | nil => simp [pSev, joinC, sk_non _ he]
  | cons x l =>
    obtain ⟨c, t, hx, hb, hc⟩ := hf x
    have ejl : joinC ((x :: l).map f) = f x ++ l.flatMap (fun y => 44 :: f y) := by
      rw [List.map_cons, joinC_cons, List.flatMap_map]
    rw [ejl, List.append_assoc]
    have nd : NoDg (l.flatMap (fun y => 44 :: f y) ++ e :: r) := by
      cases l with
      | nil => intro c hc; simp at hc; subst hc; exact hd
      | cons y l => intro c hc; simp at hc; subst hc; decide
    have h1 := hp [] x l _ rfl nd
    simp only [List.foldl_nil] at h1
    unfold pSev
    have hsk : (sk (f x ++ (l.flatMap (fun y => 44 :: f y) ++ e :: r))).head? ≠ some e := by
      rw [hx, List.cons_append, sk_non _ hb]; simpa using hc
    rw [if_neg hsk, h1]
    simp only
    refine pMore_tail p e he he' f st r l (st a x) _ (by have := flat_len f l (e :: r); omega) ?_ hd
    intro l1 y l2 q hl hq
    have := hp (x :: l1) y l2 q (by rw [hl]; rfl) hq
    simpa using this
theorem foldl_snoc {α : Type} (l a : List α) : l.foldl (fun a x => a ++ [x]) a = a ++ l := by
  induction l generalizing a with
  | nil => simp
  | cons x l ih => simp [ih]
theorem insK_last {α : Type} (k : Bs) (v : α) (l : List (Bs × α)) (h : ∀ p ∈ l, p.1 < k) : insK k v l = l ++ [(k, v)] := by
  induction l with
  | nil => rfl
  | cons q l ih =>
    obtain ⟨a, x⟩ := q
    have ha : a < k := h (a, x) (by simp)
    rw [insK, if_neg (fun g => lt_irr _ (lt_tr ha g)), if_neg (fun e => by subst e; exact lt_irr _ ha), ih (fun p hp => h p (by simp [hp]))]
    rfl
theorem ofL_srt {α : Type} (l : List (Bs × α)) (h : Srt l) : ofL l = l := by
  have : ∀ (l a : List (Bs × α)), Srt (a ++ l) → l.foldl (fun a p => insK p.1 p.2 a) a = a ++ l := by
    intro l
    induction l with
    | nil => intro a _; simp
    | cons p l ih =>
      intro a ha
      have h1 : ∀ q ∈ a, q.1 < p.1 := fun q hq => (List.pairwise_append.1 ha).2.2 q hq p (by simp)
      rw [List.foldl_cons, insK_last _ _ _ h1, ih _ (by simpa using ha)]
      simp
  exact this l [] h
theorem srt_look {α : Type} {l1 l2 : List (Bs × α)} {k : Bs} {v : α} (h : Srt (l1 ++ (k, v) :: l2)) : lookK k l1 = none := by
  rw [lookK_none]
  intro p hp e
  have := (List.pairwise_append.1 h).2.2 p hp (k, v) (by simp)
  rw [e] at this
  exact lt_irr _ this

/-! ### canonical JSON, read again -/
theorem pVal_sca (d : Nat) (c : UInt8) (t : Bs) (hb : isBl c = false) (h1 : c ≠ 123) (h2 : c ≠ 91) : pVal false d (c :: t) = pSca false c t := by
  cases d with
  | zero => simp [pVal, sk_non _ hb, h1, h2]
  | succ d => simp [pVal, sk_non _ hb, h1, h2]
theorem pVal_num (d : Nat) (n : Int) (r : Bs) (hn : n.natAbs ≤ maxNum) (hr : NoDg r) : pVal false d (cNum n ++ r) = some (.num n, r) := by
  have h := pNum_cNum n r hn hr
  obtain ⟨c, t, e, hb, hc⟩ : ∃ c t, cNum n = c :: t ∧ isBl c = false ∧ (c = 45 ∨ isDg c = true) := by
    obtain ⟨c, t, e, hb, _, _⟩ := cJ_head (.num n)
    simp only [cJ] at e
    refine ⟨c, t, e, hb, ?_⟩
    unfold cNum at e
    split at e
    · simp at e; exact .inl e.1.symm
    · obtain ⟨c', t', e', hc'⟩ := decN_cons n.natAbs
      rw [e'] at e; simp at e; rw [← e.1]; exact .inr hc'
  have n34 : c ≠ 34 := by rcases hc with rfl | hc; decide; exact dg_ne hc (by decide)
  rw [e] at h ⊢
  rw [List.cons_append, pVal_sca d c _ hb (by rcases hc with rfl | hc; decide; exact dg_ne hc (by decide)) (by rcases hc with rfl | hc; decide; exact dg_ne hc (by decide))]
  simp only [pSca, if_neg n34, if_pos hc]
  rw [List.cons_append] at h
  rw [h]; rfl
theorem pVal_str (d : Nat) (s r : Bs) : pVal false d (cStr s ++ r) = some (.str s, r) := by
  unfold cStr
  rw [List.cons_append, pVal_sca d _ _ (by decide) (by decide) (by decide)]
  simp [pSca, pStr_cStr]
theorem pVal_word (d : Nat) (j : J) (r : Bs) (h : j = .null ∨ ∃ b, j = .bool b) : pVal false d (cJ j ++ r) = some (j, r) := by
  rcases h with rfl | ⟨b, rfl⟩
  · simp only [cJ, List.cons_append]; rw [pVal_sca _ _ _ (by decide) (by decide) (by decide)]; simp [pSca, isDg, pWord]
  · cases b <;> (simp only [cJ, if_true, Bool.false_eq_true, if_false, List.cons_append]; rw [pVal_sca _ _ _ (by decide) (by decide) (by decide)]; simp [pSca, isDg, pWord])
theorem pVal_cJ : ∀ (d : Nat) (j : J) (r : Bs), WF d j → NoDg r → pVal false d (cJ j ++ r) = some (j, r)
  | d, .null, r, _, _ => pVal_word d _ r (.inl rfl)
  | d, .bool b, r, _, _ => pVal_word d _ r (.inr ⟨b, rfl⟩)
  | d, .num n, r, hw, hr => by rw [cJ]; exact pVal_num d n r (by simpa [WF] using hw) hr
  | d, .str s, r, _, _ => by rw [cJ]; exact pVal_str d s r
  | 0, .arr l, r, hw, _ => by simp [WF] at hw
  | 0, .obj l, r, hw, _ => by simp [WF] at hw
  | d + 1, .arr l, r, hw, _ => by
    simp only [WF, WFs_iff] at hw
    rw [cJ_arr, List.cons_append, pVal, sk_non _ (by decide)]
    simp only [show ¬ ((91 : UInt8) = 123) by decide, if_false, if_true, List.append_assoc, List.singleton_append]
    rw [pSev_list (pEl (pVal false d)) 93 (by decide) (by decide) (by decide) cJ (fun a x => a ++ [x]) r [] l]
    · rw [foldl_snoc]; rfl
    · intro x; obtain ⟨c, t, h1, h2, h3, _⟩ := cJ_head x; exact ⟨c, t, h1, h2, h3⟩
    · intro l1 x l2 q hl hq
      rw [pEl, pVal_cJ d x q (hw x (by rw [hl]; simp)) hq]; rfl
  | d + 1, .obj l, r, hw, _ => by
    simp only [WF, WFm_iff] at hw
    obtain ⟨hs, hw⟩ := hw
    rw [cJ_obj, List.cons_append, pVal, sk_non _ (by decide)]
    simp only [if_true, List.append_assoc, List.singleton_append]
    rw [pSev_list (pMem false (pVal false d)) 125 (by decide) (by decide) (by decide) cMem (fun a x => a ++ [x]) r [] l]
    · rw [foldl_snoc, List.nil_append]; simp only [Option.map_some, ofL_srt l hs]
    · intro x; exact ⟨34, _, by rw [cMem, cStr]; rfl, by decide, by decide⟩
    · intro l1 x l2 q hl hq
      obtain ⟨k, v⟩ := x
      have hv := pVal_cJ d v q (hw (k, v) (by rw [hl]; simp)).2 hq
      have hk : lookK k l1 = none := srt_look (by rw [hl] at hs; exact hs)
      simp only [foldl_snoc, List.nil_append, cMem, cStr, List.cons_append, List.append_assoc, pMem]
      rw [sk_non _ (by decide)]
      simp only [if_true, pStr_cStr, hk, Option.isSome_none, Bool.false_eq_true, if_false]
      rw [sk_non _ (by decide)]
      simp only [if_true, hv, Option.map_some]
theorem validD_decN (n : Nat) (r : Bs) : validD (decN n ++ r) = validD r := validD_low _ _ (fun b hb => dg_lt (decN_dg n b hb))
theorem validD_cNum (n : Int) (r : Bs) : validD (cNum n ++ r) = validD r := by
  unfold cNum
  split
  · rw [List.cons_append, validD_cons _ _ (by decide), validD_decN]
  · exact validD_decN _ _
theorem validD_join {α : Type} (f : α → Bs) (r : Bs) : ∀ (l : List α), (∀ x ∈ l, ∀ q, validD (f x ++ q) = validD q) → validD (joinC (l.map f) ++ r) = validD r
  | [], _ => by simp [joinC]
  | x :: l, h => by
    rw [List.map_cons, joinC_cons, List.append_assoc, h x (by simp), List.flatMap_map]
    have : ∀ (l : List α), (∀ x ∈ l, ∀ q, validD (f x ++ q) = validD q) → validD (l.flatMap (fun a => 44 :: f a) ++ r) = validD r := by
      intro l
      induction l with
      | nil => intro _; rfl
      | cons y l ih =>
        intro h
        rw [List.flatMap_cons, List.cons_append, List.cons_append, validD_cons _ _ (by decide), List.append_assoc, h y (by simp), ih (fun x hx => h x (by simp [hx]))]
    exact this l (fun x hx => h x (by simp [hx]))
theorem validD_cJ : ∀ (d : Nat) (j : J) (r : Bs), WF d j → validD (cJ j ++ r) = validD r
  | d, .null, r, _ => by rw [cJ]; exact validD_low _ _ (by decide)
  | d, .bool b, r, _ => by rw [cJ]; exact validD_low _ _ (by cases b <;> decide)
  | d, .num n, r, hw => by rw [cJ]; exact validD_cNum n r
  | d, .str s, r, hw => by rw [cJ]; exact validD_cStr s r (by simpa [WF] using hw)
  | 0, .arr l, r, hw => by simp [WF] at hw
  | 0, .obj l, r, hw => by simp [WF] at hw
  | d + 1, .arr l, r, hw => by
    simp only [WF, WFs_iff] at hw
    rw [cJ_arr, List.cons_append, validD_cons _ _ (by decide), List.append_assoc, validD_join cJ _ l (fun x hx q => validD_cJ d x q (hw x hx))]
    exact validD_cons _ _ (by decide)
  | d + 1, .obj l, r, hw => by
    simp only [WF, WFm_iff] at hw
    obtain ⟨hs, hw⟩ := hw
    rw [cJ_obj, List.cons_append, validD_cons _ _ (by decide), List.append_assoc, validD_join cMem _ l ?_]
    · exact validD_cons _ _ (by decide)
    · intro p hp q
      rw [cMem, List.append_assoc, validD_cStr _ _ (hw p hp).1, List.cons_append, validD_cons _ _ (by decide)]
      exact validD_cJ d p.2 q (hw p hp).2
/-- Canonical JSON is JSON of this kind, and its tree is the one it was written of. -/
theorem parse_cJ (j : J) (h : WF 6 j) : parse (cJ j) = some j := by
  have hv := validD_cJ 6 j [] h
  rw [List.append_nil] at hv
  have hp := pVal_cJ 6 j [] h (by intro c hc; simp at hc)
  rw [List.append_nil] at hp
  unfold parse
  rw [hv, validD_nil]
  simp [pTop, hp, sk]

end Go.Proofs.YtocligpfmfmihaaGreatDoor
namespace Go.Proofs.YtocligpfmfmihaaGreatDoor
open Go.Lib

def encL (x : Nat) : Bs := (Utf8.encode (x : Int)).data.toList
def okR (x : Nat) : Prop := x < 55296 ∨ (57343 < x ∧ x < 1114112)
set_option maxRecDepth 100000 in
theorem encL_cases (x : Nat) (h : okR x) :
    (x < 128 ∧ encL x = [UInt8.ofNat x]) ∨ (128 ≤ x ∧ x < 2048 ∧ encL x = [UInt8.ofNat (192 + x / 64), UInt8.ofNat (128 + x % 64)]) ∨
    (2048 ≤ x ∧ x < 65536 ∧ encL x = [UInt8.ofNat (224 + x / 4096), UInt8.ofNat (128 + x / 64 % 64), UInt8.ofNat (128 + x % 64)]) ∨
    (65536 ≤ x ∧ encL x = [UInt8.ofNat (240 + x / 262144), UInt8.ofNat (128 + x / 4096 % 64), UInt8.ofNat (128 + x / 64 % 64), UInt8.ofNat (128 + x % 64)]) := by
  unfold okR at h
  have hv : Utf8.valid (x : Int) = true := by unfold Utf8.valid; simp; omega
  unfold encL Utf8.encode
  simp only [hv, if_true, Int.toNat_natCast]
  by_cases h1 : x < 128
  · exact .inl ⟨h1, by rw [if_pos h1]⟩
  · rw [if_neg h1]
    by_cases h2 : x < 2048
    · exact .inr (.inl ⟨by omega, h2, by rw [if_pos h2]⟩)
    · rw [if_neg h2]
      by_cases h3 : x < 65536
      · exact .inr (.inr (.inl ⟨by omega, h3, by rw [if_pos h3]⟩))
      · exact .inr (.inr (.inr ⟨by omega, by rw [if_neg h3]⟩))
theorem toNat_of (n : Nat) (h : n < 256) : (UInt8.ofNat n).toNat = n := by simp; omega
theorem validD_encL (x : Nat) (r : Bs) (h : okR x) : validD (encL x ++ r) = validD r := by
  rcases encL_cases x h with ⟨h1, e⟩ | ⟨h1, h2, e⟩ | ⟨h1, h2, e⟩ | ⟨h1, e⟩ <;> rw [e]
  · rw [List.singleton_append, validD_cons _ _ (by rw [toNat_of _ (by omega)]; omega)]
  · have d : decodeL ([UInt8.ofNat (192 + x / 64), UInt8.ofNat (128 + x % 64)] ++ r) = (x, 2) := by
      rw [decodeL_N]
      simp only [List.cons_append, List.nil_append, List.getD_cons_zero, List.getD_cons_succ, List.length_cons]
      rw [toNat_of (192 + x / 64) (by omega), toNat_of (128 + x % 64) (by omega)]
      unfold decodeN
      rw [if_neg (by omega), if_pos ⟨by omega, by omega, by omega⟩, if_pos (by omega)]
      simp; omega
    rw [validD_step _ (by simp), d, if_neg (by simp)]
    rfl
  · have d : decodeL ([UInt8.ofNat (224 + x / 4096), UInt8.ofNat (128 + x / 64 % 64), UInt8.ofNat (128 + x % 64)] ++ r) = (x, 3) := by
      unfold okR at h
      rw [decodeL_N]
      simp only [List.cons_append, List.nil_append, List.getD_cons_zero, List.getD_cons_succ, List.length_cons]
      rw [toNat_of (224 + x / 4096) (by omega), toNat_of (128 + x / 64 % 64) (by omega), toNat_of (128 + x % 64) (by omega)]
      unfold decodeN
      have ex : (224 + x / 4096) % 16 * 4096 + (128 + x / 64 % 64) % 64 * 64 + (128 + x % 64) % 64 = x := by omega
      rw [if_neg (by omega), if_neg (by omega), if_pos ⟨by omega, ⟨by omega, by omega⟩, by omega, by omega⟩, ex, if_pos (by omega)]
    rw [validD_step _ (by simp), d, if_neg (by simp)]
    rfl
  · have d : decodeL ([UInt8.ofNat (240 + x / 262144), UInt8.ofNat (128 + x / 4096 % 64), UInt8.ofNat (128 + x / 64 % 64), UInt8.ofNat (128 + x % 64)] ++ r) = (x, 4) := by
      unfold okR at h
      rw [decodeL_N]
      simp only [List.cons_append, List.nil_append, List.getD_cons_zero, List.getD_cons_succ, List.length_cons]
      rw [toNat_of (240 + x / 262144) (by omega), toNat_of (128 + x / 4096 % 64) (by omega), toNat_of (128 + x / 64 % 64) (by omega), toNat_of (128 + x % 64) (by omega)]
      unfold decodeN
      have ex : (240 + x / 262144) % 8 * 262144 + (128 + x / 4096 % 64) % 64 * 4096 + (128 + x / 64 % 64) % 64 * 64 + (128 + x % 64) % 64 = x := by omega
      rw [if_neg (by omega), if_neg (by omega), if_neg (by omega), if_pos ⟨by omega, ⟨by omega, by omega⟩, ⟨by omega, by omega⟩, by omega, by omega⟩, ex, if_pos (by omega)]
    rw [validD_step _ (by simp), d, if_neg (by simp)]
    rfl
theorem hexV_lt {c : UInt8} {y : Nat} (h : hexV c = some y) : y < 16 := by
  unfold hexV at h
  have a1 := UInt8.le_iff_toNat_le (a := c) (b := 57)
  have a2 := UInt8.le_iff_toNat_le (a := c) (b := 102)
  have a3 := UInt8.le_iff_toNat_le (a := c) (b := 70)
  simp at a1 a2 a3
  repeat' split at h
  all_goals simp only [Option.some.injEq, reduceCtorEq] at h
  all_goals rename_i g
  · have := a1.1 g.2; omega
  · have := a2.1 g.2; omega
  · have := a3.1 g.2; omega
theorem hex4_lt {q z : Bs} {y : Nat} (h : hex4 q = some (y, z)) : y < 65536 ∧ q.length = z.length + 4 := by
  unfold hex4 at h
  split at h
  · simp only [Option.bind_eq_some_iff, Option.map_eq_some_iff, Prod.mk.injEq] at h
    obtain ⟨a, g1, b, g2, c, g3, d, g4, rfl, rfl⟩ := h
    have := hexV_lt g1; have := hexV_lt g2; have := hexV_lt g3; have := hexV_lt g4
    exact ⟨by omega, by simp⟩
  · simp at h
set_option maxRecDepth 100000 in
/-- An escape stands for a rune; canonical JSON writes it in no more bytes. -/
theorem esc_ok {s r : Bs} {x : Nat} (h : esc s = some (x, r)) : okR x ∧ ((encL x).flatMap cB).length + r.length ≤ s.length + 1 := by
  have small : ∀ x : Nat, x < 128 → (encL x).flatMap cB = cB (UInt8.ofNat x) := by
    intro x hx; unfold encL; rw [enc_lt x hx]; simp
  have cBlen : ∀ c : UInt8, (cB c).length ≤ 6 := by
    intro c; unfold cB; repeat' split
    all_goals simp
  unfold esc at h
  split at h
  · simp at h
  · rename_i c t
    split at h
    · rename_i hc
      simp at h; obtain ⟨rfl, rfl⟩ := h
      rcases hc with rfl | rfl | rfl
      all_goals exact ⟨by unfold okR; simp, by rw [small _ (by decide)]; simp [cB]; omega⟩
    · split at h
      · simp at h; obtain ⟨rfl, rfl⟩ := h; exact ⟨by unfold okR; simp, by rw [small _ (by decide)]; simp [cB]; omega⟩
      · split at h
        · simp at h; obtain ⟨rfl, rfl⟩ := h; exact ⟨by unfold okR; simp, by rw [small _ (by decide)]; simp [cB]; omega⟩
        · split at h
          · simp at h; obtain ⟨rfl, rfl⟩ := h; exact ⟨by unfold okR; simp, by rw [small _ (by decide)]; simp [cB]; omega⟩
          · split at h
            · simp at h; obtain ⟨rfl, rfl⟩ := h; exact ⟨by unfold okR; simp, by rw [small _ (by decide)]; simp [cB]; omega⟩
            · split at h
              · simp at h; obtain ⟨rfl, rfl⟩ := h; exact ⟨by unfold okR; simp, by rw [small _ (by decide)]; simp [cB]; omega⟩
              · split at h
                · have high : ∀ x, okR x → 128 ≤ x → (encL x).flatMap cB = encL x ∧ (encL x).length ≤ 4 := by
                    intro x ho hx
                    have hb : ∀ b ∈ encL x, 128 ≤ b.toNat := by
                      unfold okR at ho
                      rcases encL_cases x ho with ⟨h1, e⟩ | ⟨h1, h2, e⟩ | ⟨h1, h2, e⟩ | ⟨h1, e⟩ <;> rw [e]
                      · omega
                      all_goals
                        intro b hb
                        simp only [List.mem_cons, List.not_mem_nil, or_false] at hb
                      · rcases hb with rfl | rfl <;> rw [toNat_of _ (by omega)] <;> omega
                      · rcases hb with rfl | rfl | rfl <;> rw [toNat_of _ (by omega)] <;> omega
                      · rcases hb with rfl | rfl | rfl | rfl <;> rw [toNat_of _ (by omega)] <;> omega
                    refine ⟨flat_high _ hb, ?_⟩
                    rcases encL_cases x ho with ⟨h1, e⟩ | ⟨h1, h2, e⟩ | ⟨h1, h2, e⟩ | ⟨h1, e⟩ <;> rw [e] <;> simp
                  have any : ∀ x, okR x → ((encL x).flatMap cB).length ≤ 6 := by
                    intro x ho
                    by_cases hx : x < 128
                    · rw [small x hx]; exact cBlen _
                    · obtain ⟨e, g⟩ := high x ho (by omega); rw [e]; omega
                  unfold escU at h
                  split at h
                  · simp at h
                  · rename_i x' r' h1
                    obtain ⟨g1, g2⟩ := hex4_lt h1
                    split at h
                    · rename_i hx
                      simp at h; obtain ⟨rfl, rfl⟩ := h
                      have ho : okR x' := by unfold okR; omega
                      refine ⟨ho, ?_⟩
                      have := any x' ho
                      simp only [List.length_cons]; omega
                    · split at h
                      · simp at h
                      · rename_i hx hx2
                        split at h
                        · split at h
                          · split at h
                            · rename_i y z h2
                              obtain ⟨k1, k2⟩ := hex4_lt h2
                              split at h
                              · rename_i hy
                                simp at h; obtain ⟨rfl, rfl⟩ := h
                                have ho : okR (65536 + (x' - 55296) * 1024 + (y - 56320)) := by unfold okR; omega
                                refine ⟨ho, ?_⟩
                                have := any _ ho
                                simp only [List.length_cons] at g2 ⊢; omega
                              · simp at h
                            · simp at h
                          · simp at h
                        · simp at h
                · simp at h
/-- A string of a text that is UTF-8 is UTF-8; canonical JSON writes it in no more bytes. -/
theorem pStr_ok : ∀ (n : Nat) {s o r : Bs}, s.length ≤ n → pStr true s = some (o, r) → validD o = true ∧ (o.flatMap cB).length + 1 + r.length ≤ s.length
  | n, [], o, r, _, h => by rw [pStr_nil] at h; simp at h
  | 0, c :: t, o, r, hn, _ => by simp at hn
  | n + 1, c :: t, o, r, hn, h => by
    rw [pStr_cons] at h
    split at h
    · simp at h; obtain ⟨rfl, rfl⟩ := h; exact ⟨rfl, by simp; omega⟩
    · rename_i h34
      split at h
      · simp at h
      · rename_i o' r' h1
        have g := ch_len h1
        simp only [Option.map_eq_some_iff, Prod.mk.injEq] at h
        obtain ⟨⟨x, r''⟩, h2, rfl, rfl⟩ := h
        obtain ⟨v1, v2⟩ := pStr_ok n (by simp at g hn; omega) h2
        have key : validD (o' ++ x) = validD x ∧ (o'.flatMap cB).length + r'.length ≤ (c :: t).length := by
          unfold ch at h1
          split at h1
          · simp at h1
          · rename_i h32
            split at h1
            · rename_i h92
              simp only [Option.map_eq_some_iff, Prod.mk.injEq] at h1
              obtain ⟨⟨y, q⟩, h3, rfl, rfl⟩ := h1
              obtain ⟨k1, k2⟩ := esc_ok h3
              have e1 : (Utf8.encode ((y : Nat) : Int)).data.toList = encL y := by rw [encL]
              rw [e1]
              refine ⟨validD_encL y x k1, ?_⟩
              rw [List.length_cons]; exact k2
            · rename_i h92
              simp only [if_true] at h1
              split at h1
              · simp at h1
              · rename_i hb
                simp only [Option.some.injEq, Prod.mk.injEq] at h1
                obtain ⟨rfl, rfl⟩ := h1
                have hk := decodeL_le (c :: t) (by simp)
                have hw := decodeL_width (c :: t)
                have e := dec_own (c :: t) x (by simp) hb
                constructor
                · have hlen : ((c :: t).take (decodeL (c :: t)).2).length = (decodeL (c :: t)).2 := by simp only [List.length_take]; omega
                  rw [validD_step _ (by intro h0; have := congrArg List.length h0; rw [List.length_append, hlen] at this; simp at this; omega), e, if_neg hb]
                  rw [List.drop_append_of_le_length (by omega), List.drop_eq_nil_of_le (by omega), List.nil_append]
                · by_cases hc : c.toNat < 128
                  · rw [decodeL_ascii c t hc]
                    have : cB c = [c] := by
                      have c8 : c ≠ 8 := by rintro rfl; exact h32 (by decide)
                      have c12 : c ≠ 12 := by rintro rfl; exact h32 (by decide)
                      have c10 : c ≠ 10 := by rintro rfl; exact h32 (by decide)
                      have c13 : c ≠ 13 := by rintro rfl; exact h32 (by decide)
                      have c9 : c ≠ 9 := by rintro rfl; exact h32 (by decide)
                      simp [cB, h34, h92, c8, c12, c10, c13, c9, h32]
                    simp [this]; omega
                  · obtain ⟨_, hh⟩ := dec_high (c :: t) (by simp) (by simpa using hc)
                    rw [flat_high _ (getD_take hh hk), List.length_take, List.length_drop]
                    omega
        refine ⟨by rw [key.1]; exact v1, ?_⟩
        rw [List.flatMap_append, List.length_append]
        simp only [List.length_cons] at *
        omega

/-! ### numbers -/
theorem decN_natOf (d : Bs) (hd : ∀ c ∈ d, isDg c = true) (hne : d ≠ []) (h0 : d.head? ≠ some 48 ∨ d = [48]) : decN (natOf d) = d := by
  have dgv : ∀ c : UInt8, isDg c = true → 48 ≤ c.toNat ∧ c.toNat ≤ 57 := by
    intro c hc
    unfold isDg at hc
    simp only [Bool.and_eq_true, decide_eq_true_eq] at hc
    have a := UInt8.le_iff_toNat_le.1 hc.1
    have b := UInt8.le_iff_toNat_le.1 hc.2
    simp at a b; omega
  have back : ∀ c : UInt8, isDg c = true → UInt8.ofNat (48 + (c.toNat - 48)) = c := by
    intro c hc
    have := dgv c hc
    rw [show 48 + (c.toNat - 48) = c.toNat by omega]; simp
  have pos : ∀ n (l : Bs), l.length = n → (∀ c ∈ l, isDg c = true) → l ≠ [] → l.head? ≠ some 48 → 0 < natOf l ∧ decN (natOf l) = l := by
    intro n
    induction n with
    | zero => intro l hl _ hne; exact absurd (List.eq_nil_of_length_eq_zero hl) hne
    | succ n ih =>
      intro l hl hd hne h0
      obtain ⟨m, c, rfl⟩ : ∃ m c, l = m ++ [c] := ⟨l.dropLast, l.getLast hne, (List.dropLast_concat_getLast hne).symm⟩
      have hc := hd c (by simp)
      have hv := dgv c hc
      rw [natOf_snoc]
      cases m with
      | nil =>
        simp only [List.nil_append, List.head?_cons, ne_eq, Option.some.injEq] at h0
        have h48 : c.toNat ≠ 48 := fun e => h0 (by rw [← ofNat_toNat' c, e]; rfl)
        simp only [natOf, List.foldl_nil, List.nil_append]
        refine ⟨by omega, ?_⟩
        rw [decN, if_pos (by omega), show 48 + (0 * 10 + (c.toNat - 48)) = 48 + (c.toNat - 48) by omega, back c hc]
      | cons a m =>
        obtain ⟨p, e⟩ := ih (a :: m) (by simpa using hl) (fun x hx => hd x (List.mem_append.2 (.inl hx))) (by simp) (by simpa using h0)
        refine ⟨by omega, ?_⟩
        rw [decN, if_neg (by omega), show (natOf (a :: m) * 10 + (c.toNat - 48)) / 10 = natOf (a :: m) by omega, e, show (natOf (a :: m) * 10 + (c.toNat - 48)) % 10 = c.toNat - 48 by omega, back c hc]
  rcases h0 with h0 | rfl
  · exact (pos d.length d rfl hd hne h0).2
  · have e : natOf [48] = 0 := by decide
    rw [e, decN]; rfl
theorem pNat_ok {s r : Bs} {n : Nat} (h : pNat s = some (n, r)) : n ≤ maxNum ∧ (decN n).length + r.length = s.length := by
  unfold pNat at h
  split at h
  · rename_i hw
    simp only [Option.some.injEq, Prod.mk.injEq] at h
    obtain ⟨rfl, rfl⟩ := h
    simp only [Bool.and_eq_true, decide_eq_true_eq] at hw
    refine ⟨hw.2, ?_⟩
    have hd : ∀ c ∈ dgs s, isDg c = true := by
      intro c hc
      unfold dgs at hc
      exact List.all_eq_true.1 (List.all_takeWhile) c hc
    have hwh := hw.1
    unfold whole at hwh
    simp only [Bool.or_eq_true, beq_iff_eq, Bool.and_eq_true, bne_iff_ne, ne_eq] at hwh
    have hne : dgs s ≠ [] := by rcases hwh with h | h; rw [h]; simp; exact h.1
    rw [decN_natOf (dgs s) hd hne (by rcases hwh with h | h; exact .inr h; exact .inl h.2)]
    have := congrArg List.length (List.takeWhile_append_dropWhile (p := isDg) (l := s))
    rw [List.length_append] at this
    exact this
  · simp at h
theorem pNum_ok {s r : Bs} {n : Int} (h : pNum s = some (n, r)) : n.natAbs ≤ maxNum ∧ (cNum n).length + r.length = s.length := by
  unfold pNum at h
  split at h
  · simp at h
  · split at h
    · split at h
      · rename_i m q h1
        obtain ⟨k1, k2⟩ := pNat_ok h1
        split at h
        · simp at h
        · simp only [Option.some.injEq, Prod.mk.injEq] at h
          obtain ⟨rfl, rfl⟩ := h
          have e : (-(m : Int)).natAbs = m := by omega
          refine ⟨by omega, ?_⟩
          rw [cNum, if_pos (by omega), e]
          simp only [List.length_cons]; omega
      · simp at h
    · simp only [Option.map_eq_some_iff, Prod.mk.injEq] at h
      obtain ⟨⟨x, q⟩, h1, rfl, rfl⟩ := h
      obtain ⟨k1, k2⟩ := pNat_ok h1
      refine ⟨by simpa using k1, ?_⟩
      rw [cNum, if_neg (by simp)]
      simpa using k2
theorem pSca_ok {d : Nat} {c : UInt8} {t r : Bs} {j : J} (h : pSca true c t = some (j, r)) : WF d j ∧ (cJ j).length + r.length ≤ (c :: t).length := by
  unfold pSca at h
  split at h
  · simp only [Option.map_eq_some_iff, Prod.mk.injEq] at h
    obtain ⟨⟨x, q⟩, h1, rfl, rfl⟩ := h
    obtain ⟨k1, k2⟩ := pStr_ok _ (Nat.le_refl _) h1
    refine ⟨by simpa [WF] using k1, ?_⟩
    rw [cJ, cStr]
    simp only [List.length_cons, List.length_append, List.length_nil] at k2 ⊢
    omega
  · split at h
    · simp only [Option.map_eq_some_iff, Prod.mk.injEq] at h
      obtain ⟨⟨x, q⟩, h1, rfl, rfl⟩ := h
      obtain ⟨k1, k2⟩ := pNum_ok h1
      exact ⟨by simpa [WF] using k1, by rw [cJ]; exact Nat.le_of_eq k2⟩
    · unfold pWord at h
      repeat' split at h
      all_goals first
        | (simp at h; done)
        | (simp only [Option.some.injEq, Prod.mk.injEq] at h
           obtain ⟨rfl, rfl⟩ := h
           refine ⟨by simp [WF], ?_⟩
           rename_i h1
           have := congrArg List.length h1
           simp only [List.length_take, List.length_cons, List.length_nil] at this
           rw [List.length_drop]
           simp [cJ]
           omega)

/-! ### lists -/
theorem pMore_ok {σ : Type} {p : σ → Bs → Option (σ × Bs)} (I : σ → Prop) (M : σ → Nat) (hp : ∀ a s b r, I a → p a s = some (b, r) → I b ∧ 0 < M b ∧ M b + r.length ≤ M a + s.length + 1) (e : UInt8) :
    ∀ (n : Nat) (a : σ) (s : Bs) (b : σ) (r : Bs), I a → 0 < M a → pMore p e n a s = some (b, r) → I b ∧ 0 < M b ∧ M b + r.length + 1 ≤ M a + s.length
  | 0, a, s, b, r, _, _, h => by simp [pMore] at h
  | n + 1, a, s, b, r, ha, hm, h => by
    unfold pMore at h
    split at h
    · simp at h
    · rename_i c t hs
      have hl := sk_len s
      rw [hs] at hl
      simp only [List.length_cons] at hl
      split at h
      · split at h
        · rename_i b' r' h1
          obtain ⟨k1, k2, k3⟩ := hp _ _ _ _ ha h1
          obtain ⟨g1, g2, g3⟩ := pMore_ok I M hp e n b' r' b r k1 k2 h
          exact ⟨g1, g2, by omega⟩
        · simp at h
      · split at h
        · simp only [Option.some.injEq, Prod.mk.injEq] at h
          obtain ⟨rfl, rfl⟩ := h
          exact ⟨ha, hm, by omega⟩
        · simp at h
theorem pSev_ok {σ : Type} {p : σ → Bs → Option (σ × Bs)} (I : σ → Prop) (M : σ → Nat) (hp : ∀ a s b r, I a → p a s = some (b, r) → I b ∧ 0 < M b ∧ M b + r.length ≤ M a + s.length + 1) (e : UInt8)
    {a b : σ} {s r : Bs} (ha : I a) (h : pSev p e a s = some (b, r)) : I b ∧ ((b = a ∧ r.length + 1 ≤ s.length) ∨ (0 < M b ∧ M b + r.length ≤ M a + s.length)) := by
  unfold pSev at h
  split at h
  · rename_i hh
    simp only [Option.some.injEq, Prod.mk.injEq] at h
    obtain ⟨rfl, rfl⟩ := h
    have hl := sk_len s
    cases hs : sk s with
    | nil => rw [hs] at hh; simp at hh
    | cons c t =>
      rw [hs] at hl
      simp only [List.length_cons, List.tail_cons] at hl ⊢
      exact ⟨ha, .inl ⟨by simp, by omega⟩⟩
  · split at h
    · rename_i b' r' h1
      obtain ⟨k1, k2, k3⟩ := hp _ _ _ _ ha h1
      obtain ⟨g1, g2, g3⟩ := pMore_ok I M hp e _ b' r' b r k1 k2 h
      exact ⟨g1, .inr ⟨g2, by omega⟩⟩
    · simp at h
def sumM {α : Type} (f : α → Bs) (l : List α) : Nat := (l.map fun x => (f x).length + 1).sum
theorem joinC_len {α : Type} (f : α → Bs) (l : List α) : (joinC (l.map f)).length + (if l = [] then 0 else 1) = sumM f l := by
  cases l with
  | nil => simp [joinC, sumM]
  | cons x l =>
    rw [List.map_cons, joinC_cons, List.length_append]
    have : ∀ l : List α, (((l.map f).flatMap (fun y => 44 :: y)).length) = sumM f l := by
      intro l
      induction l with
      | nil => simp [sumM]
      | cons y l ih => simp [sumM] at ih ⊢; omega
    rw [this]
    simp [sumM]; omega
theorem sumM_insK (k : Bs) (v : J) (l : List (Bs × J)) (h : lookK k l = none) : sumM cMem (insK k v l) = sumM cMem l + ((cMem (k, v)).length + 1) := by
  induction l with
  | nil => simp [insK, sumM]
  | cons q l ih =>
    obtain ⟨a, x⟩ := q
    have hne : a ≠ k := by intro e; simp [lookK, e] at h
    rw [lookK, if_neg hne] at h
    rw [insK]
    split
    · simp [sumM]; omega
    · have := ih h
      simp [sumM] at this ⊢; omega
theorem sumM_ofL (l : List (Bs × J)) (h : Nod l) : sumM cMem (ofL l) = sumM cMem l := by
  have : ∀ n (l : List (Bs × J)), l.length = n → Nod l → sumM cMem (ofL l) = sumM cMem l := by
    intro n
    induction n with
    | zero => intro l hl _; obtain rfl := List.eq_nil_of_length_eq_zero hl; rfl
    | succ n ih =>
      intro l hl hn
      have hne : l ≠ [] := by intro e; subst e; simp at hl
      obtain ⟨m, p, rfl⟩ : ∃ m p, l = m ++ [p] := ⟨l.dropLast, l.getLast hne, (List.dropLast_concat_getLast hne).symm⟩
      obtain ⟨a, x⟩ := p
      obtain ⟨h1, h2⟩ := (nod_snoc m a x).1 hn
      rw [ofL_snoc, sumM_insK _ _ _ (by rw [lookK_ofL _ _ h1]; exact h2), ih m (by simpa using hl) h1]
      simp [sumM]
  exact this l.length l rfl h
theorem mem_ofL {α : Type} {l : List (Bs × α)} {p : Bs × α} (h : p ∈ ofL l) : p ∈ l := by
  have : ∀ (l a : List (Bs × α)), p ∈ l.foldl (fun a p => insK p.1 p.2 a) a → p ∈ a ∨ p ∈ l := by
    intro l
    induction l with
    | nil => intro a h; exact .inl h
    | cons q l ih =>
      intro a h
      rcases ih _ h with h | h
      · rcases mem_insK h with rfl | h
        · exact .inr (by simp)
        · exact .inl h
      · exact .inr (by simp [h])
  rcases this l [] h with h | h
  · simp at h
  · exact h
theorem ofL_nil {α : Type} : ofL ([] : List (Bs × α)) = [] := rfl
theorem pVal_ok : ∀ (d : Nat) (s : Bs) (j : J) (r : Bs), pVal true d s = some (j, r) → WF d j ∧ (cJ j).length + r.length ≤ s.length
  | 0, s, j, r, h => by
    unfold pVal at h
    split at h
    · simp at h
    · rename_i c t hs
      have hl := sk_len s
      rw [hs] at hl
      split at h
      · simp at h
      · obtain ⟨k1, k2⟩ := pSca_ok (d := 0) h
        exact ⟨k1, by omega⟩
  | d + 1, s, j, r, h => by
    unfold pVal at h
    split at h
    · simp at h
    · rename_i c t hs
      have hl := sk_len s
      rw [hs] at hl
      simp only [List.length_cons] at hl
      split at h
      · simp only [Option.map_eq_some_iff, Prod.mk.injEq] at h
        obtain ⟨⟨l, q⟩, h2, rfl, rfl⟩ := h
        have hp : ∀ (a : List (Bs × J)) (s : Bs) (b : List (Bs × J)) (r : Bs), (Nod a ∧ ∀ p ∈ a, validD p.1 = true ∧ WF d p.2) → pMem true (pVal true d) a s = some (b, r) →
            (Nod b ∧ ∀ p ∈ b, validD p.1 = true ∧ WF d p.2) ∧ 0 < sumM cMem b ∧ sumM cMem b + r.length ≤ sumM cMem a + s.length + 1 := by
          intro a s b r ⟨i1, i2⟩ hh
          unfold pMem at hh
          split at hh
          · simp at hh
          · rename_i c t hs
            have hl := sk_len s
            rw [hs] at hl
            simp only [List.length_cons] at hl
            split at hh
            · split at hh
              · simp at hh
              · rename_i k q1 h3
                obtain ⟨g1, g2⟩ := pStr_ok _ (Nat.le_refl _) h3
                split at hh
                · simp at hh
                · rename_i hlk
                  split at hh
                  · simp at hh
                  · rename_i c2 q2 hs2
                    have hl2 := sk_len q1
                    rw [hs2] at hl2
                    simp only [List.length_cons] at hl2
                    split at hh
                    · simp only [Option.map_eq_some_iff, Prod.mk.injEq] at hh
                      obtain ⟨⟨x, z⟩, h4, rfl, rfl⟩ := hh
                      obtain ⟨m1, m2⟩ := pVal_ok d _ _ _ h4
                      refine ⟨⟨(nod_snoc _ _ _).2 ⟨i1, by simpa using hlk⟩, ?_⟩, ?_, ?_⟩
                      · intro p hp
                        rcases List.mem_append.1 hp with hp | hp
                        · exact i2 p hp
                        · obtain rfl := List.mem_singleton.1 hp; exact ⟨g1, m1⟩
                      · simp [sumM]; omega
                      · simp [sumM, cMem, cStr] at *; omega
                    · simp at hh
            · simp at hh
        obtain ⟨⟨k1, k2⟩, k3⟩ := pSev_ok (fun l : List (Bs × J) => Nod l ∧ ∀ p ∈ l, validD p.1 = true ∧ WF d p.2) (sumM cMem) hp 125 (by constructor; simp [Nod]; simp) h2
        · refine ⟨by rw [WF, WFm_iff]; exact ⟨srt_ofL l, fun p hp => k2 p (mem_ofL hp)⟩, ?_⟩
          rw [cJ_obj]
          have e := joinC_len cMem (ofL l)
          rw [sumM_ofL l k1] at e
          simp only [List.length_cons, List.length_append, List.length_nil]
          rcases k3 with ⟨rfl, k3⟩ | ⟨k3, k4⟩
          · simp [ofL_nil, sumM] at e; simp [ofL_nil, joinC]; omega
          · have : ofL l ≠ [] := by
              intro h0; rw [h0] at e; simp [joinC] at e; omega
            rw [if_neg this] at e
            simp [sumM] at k4 e; omega
      · split at h
        · simp only [Option.map_eq_some_iff, Prod.mk.injEq] at h
          obtain ⟨⟨l, q⟩, h2, rfl, rfl⟩ := h
          have hp : ∀ (a : List J) (s : Bs) (b : List J) (r : Bs), (∀ x ∈ a, WF d x) → pEl (pVal true d) a s = some (b, r) →
              (∀ x ∈ b, WF d x) ∧ 0 < sumM cJ b ∧ sumM cJ b + r.length ≤ sumM cJ a + s.length + 1 := by
            intro a s b r i1 hh
            unfold pEl at hh
            simp only [Option.map_eq_some_iff, Prod.mk.injEq] at hh
            obtain ⟨⟨x, z⟩, h4, rfl, rfl⟩ := hh
            obtain ⟨m1, m2⟩ := pVal_ok d _ _ _ h4
            refine ⟨?_, ?_, ?_⟩
            · intro y hy
              rcases List.mem_append.1 hy with hy | hy
              · exact i1 y hy
              · obtain rfl := List.mem_singleton.1 hy; exact m1
            · simp [sumM]; omega
            · simp [sumM] at *; omega
          obtain ⟨k1, k3⟩ := pSev_ok (fun l : List J => ∀ x ∈ l, WF d x) (sumM cJ) hp 93 (by simp) h2
          · refine ⟨by rw [WF, WFs_iff]; exact k1, ?_⟩
            rw [cJ_arr]
            have e := joinC_len cJ l
            simp only [List.length_cons, List.length_append, List.length_nil]
            rcases k3 with ⟨rfl, k3⟩ | ⟨k3, k4⟩
            · simp [sumM] at e; simp [joinC]; omega
            · have : l ≠ [] := by intro h0; subst h0; simp [sumM] at k3
              rw [if_neg this] at e
              simp [sumM] at k4 e; omega
        · obtain ⟨k1, k2⟩ := pSca_ok (d := d + 1) h
          exact ⟨k1, by simp only [List.length_cons] at k2; omega⟩
/-- The tree of a text: what it is; its canonical JSON is not longer than the text. -/
theorem parse_ok {s : Bs} {j : J} (h : parse s = some j) : WF 6 j ∧ (cJ j).length ≤ s.length := by
  rw [← parse_eq] at h
  unfold pTop at h
  split at h
  · rename_i j' t h1
    split at h
    · simp only [Option.some.injEq] at h
      subst h
      obtain ⟨k1, k2⟩ := pVal_ok 6 s _ t h1
      exact ⟨k1, by omega⟩
    · simp at h
  · simp at h
end Go.Proofs.YtocligpfmfmihaaGreatDoor
namespace Go.Proofs.YtocligpfmfmihaaGreatDoor
open Go.Lib

def kSig : Bs := [115, 105, 103, 110, 97, 116, 117, 114, 101, 115]
def kUns : Bs := [117, 110, 115, 105, 103, 110, 101, 100]
/-- The value of a text, or an error's number. -/
def valueF (s : Bs) : Except Nat J := if 600 < s.length then .error 1 else match parse s with | none => .error 2 | some j => .ok j
def objectF (s : Bs) : Except Nat (List (Bs × J)) := match valueF s with | .error e => .error e | .ok (.obj l) => .ok l | .ok _ => .error 3
def bareL (l : List (Bs × J)) : List (Bs × J) := delK kUns (delK kSig l)
def bareF (l : List (Bs × J)) : Bs := cJ (.obj (bareL l))
def childF (k : Bs) (l : List (Bs × J)) : List (Bs × J) := match lookK k l with | some (.obj m) => m | _ => []
def signL (l : List (Bs × J)) (sv id sig : Bs) : List (Bs × J) :=
  insK kSig (.obj (insK sv (.obj (insK id (.str sig) (childF sv (childF kSig l)))) (childF kSig l))) l
/-- What a call answers: a text and an error's number. -/
def ansF (r : Except Nat Bs) : Bs × Nat := match r with | .error e => ([], e) | .ok s => (s, 0)
def canonF (s : Bs) : Bs × Nat := ansF ((valueF s).map cJ)
def messageF (s : Bs) : Bs × Nat := ansF ((objectF s).map bareF)
def signedE (s sv id sig : Bs) : Except Nat Bs :=
  match objectF s with
  | .error e => .error e
  | .ok l => if validD sv && validD id && validD sig then .ok (cJ (.obj (signL l sv id sig))) else .error 2
def signedF (s sv id sig : Bs) : Bs × Nat := ansF (signedE s sv id sig)

/-! ### sorted lists -/
theorem mem_delK {α : Type} {k : Bs} {l : List (Bs × α)} {p : Bs × α} : p ∈ delK k l ↔ p ∈ l ∧ p.1 ≠ k := by simp [delK]
theorem srt_delK {α : Type} (k : Bs) (l : List (Bs × α)) (h : Srt l) : Srt (delK k l) := List.Pairwise.filter _ h
theorem delK_insK {α : Type} (k : Bs) (v : α) (l : List (Bs × α)) : delK k (insK k v l) = delK k l := by
  induction l with
  | nil => simp [insK, delK]
  | cons q l ih =>
    obtain ⟨a, x⟩ := q
    rw [insK]
    split
    · simp [delK]
    · split
      · rename_i e; subst e; simp [delK]
      · rename_i hne
        simp only [delK] at ih ⊢
        simp [hne, ih]
theorem WF_delK (d : Nat) (k : Bs) (l : List (Bs × J)) (h : WF (d + 1) (.obj l)) : WF (d + 1) (.obj (delK k l)) := by
  simp only [WF, WFm_iff] at h ⊢
  exact ⟨srt_delK k l h.1, fun p hp => h.2 p (mem_delK.1 hp).1⟩
theorem WF_insK (d : Nat) (k : Bs) (v : J) (l : List (Bs × J)) (hk : validD k = true) (hv : WF d v) (h : WF (d + 1) (.obj l)) : WF (d + 1) (.obj (insK k v l)) := by
  simp only [WF, WFm_iff] at h ⊢
  refine ⟨srt_insK k v l h.1, fun p hp => ?_⟩
  rcases mem_insK hp with rfl | hp
  · exact ⟨hk, hv⟩
  · exact h.2 p hp
theorem lookK_mem {α : Type} {k : Bs} {l : List (Bs × α)} {v : α} (h : lookK k l = some v) : (k, v) ∈ l := by
  induction l with
  | nil => simp [lookK] at h
  | cons q l ih =>
    obtain ⟨a, x⟩ := q
    by_cases e : a = k
    · simp [lookK, e] at h; subst h; simp [e]
    · simp [lookK, e] at h; simp [ih h]
theorem WF_child (d : Nat) (k : Bs) (l : List (Bs × J)) (h : WF (d + 2) (.obj l)) : WF (d + 1) (.obj (childF k l)) := by
  unfold childF
  split
  · rename_i m hm
    simp only [WF, WFm_iff] at h
    exact (h.2 _ (lookK_mem hm)).2
  · simp [WF, WFm, Srt]
theorem WF_signL (l : List (Bs × J)) (sv id sig : Bs) (h : WF 6 (.obj l)) (h1 : validD sv = true) (h2 : validD id = true) (h3 : validD sig = true) : WF 6 (.obj (signL l sv id sig)) := by
  have c1 := WF_child 4 kSig l h
  have c2 := WF_child 3 sv _ c1
  have a : WF 4 (.obj (insK id (.str sig) (childF sv (childF kSig l)))) := WF_insK 3 id _ _ h2 (by simpa [WF] using h3) c2
  have b : WF 5 (.obj (insK sv (.obj (insK id (.str sig) (childF sv (childF kSig l)))) (childF kSig l))) := WF_insK 4 sv _ _ h1 a c1
  exact WF_insK 5 kSig _ l (by decide) b h

/-! ### Fixed -/
theorem canon_blank (j : J) (h : WF 6 j) : parse (32 :: (cJ j ++ [10])) = some j := by
  have hv : validD (32 :: (cJ j ++ [10])) = true := by
    rw [validD_cons _ _ (by decide), validD_cJ 6 j _ h]; decide
  have hp := pVal_cJ 6 j [10] h (by intro c hc; simp at hc; subst hc; decide)
  have e : ∀ (t : Bs), pVal false 6 (32 :: t) = pVal false 6 t := by
    intro t
    have : sk (32 :: t) = sk t := by simp [sk, isBl]
    rw [pVal, pVal, this]
  unfold parse
  rw [hv]
  simp only [if_true, pTop, e, hp]
  simp [sk, isBl]
theorem valueF_cJ (j : J) (h : WF 6 j) (hl : (cJ j).length ≤ 600) : valueF (cJ j) = .ok j := by
  unfold valueF
  rw [if_neg (by omega), parse_cJ j h]
theorem valueF_ok {s : Bs} {j : J} (h : valueF s = .ok j) : WF 6 j ∧ (cJ j).length ≤ 600 ∧ (cJ j).length ≤ s.length := by
  unfold valueF at h
  split at h
  · simp at h
  · split at h
    · simp at h
    · rename_i h1
      simp only [Except.ok.injEq] at h
      subst h
      obtain ⟨k1, k2⟩ := parse_ok h1
      exact ⟨k1, by omega, k2⟩
theorem bare_sign (l : List (Bs × J)) (sv id sig : Bs) : bareF (signL l sv id sig) = bareF l := by
  unfold bareF bareL signL
  rw [delK_insK]
theorem cJ_ne (j : J) : cJ j ≠ [] := by
  obtain ⟨c, t, e, _⟩ := cJ_head j
  rw [e]; simp
theorem objectF_obj (l : List (Bs × J)) (h : WF 6 (.obj l)) (hl : (cJ (.obj l)).length ≤ 600) : objectF (cJ (.obj l)) = .ok l := by
  unfold objectF; rw [valueF_cJ _ h hl]

/-! ### what follows a value does not turn it -/
theorem sk_app {s t : Bs} {c : UInt8} (h : sk s = c :: t) (q : Bs) : sk (s ++ q) = c :: (t ++ q) := by
  induction s with
  | nil => simp [sk] at h
  | cons a s ih =>
    unfold sk at h ih ⊢
    rw [List.cons_append, List.dropWhile_cons]
    rw [List.dropWhile_cons] at h
    split
    · rename_i hb; rw [if_pos hb] at h; exact ih h
    · rename_i hb; rw [if_neg hb] at h; simp only [List.cons.injEq] at h; rw [h.1, h.2]
theorem sk_app_nil {s : Bs} (h : sk s = []) (q : Bs) : sk (s ++ q) = sk q := by
  induction s with
  | nil => rfl
  | cons a s ih =>
    unfold sk at h ih ⊢
    rw [List.cons_append, List.dropWhile_cons]
    rw [List.dropWhile_cons] at h
    split
    · rename_i hb; rw [if_pos hb] at h; exact ih h
    · rename_i hb; rw [if_neg hb] at h; simp at h
/-- Something is left, or no digit comes behind. -/
def Shut (r q : Bs) : Prop := r ≠ [] ∨ NoDg q
theorem dg_app (q : Bs) : ∀ (s : Bs), Shut (s.dropWhile isDg) q → (s ++ q).takeWhile isDg = s.takeWhile isDg ∧ (s ++ q).dropWhile isDg = s.dropWhile isDg ++ q
  | [], h => by
    rcases h with h | h
    · simp at h
    · have := takeDg_app [] q (by simp) h
      simpa using this
  | c :: s, h => by
    rw [List.cons_append, List.takeWhile_cons, List.dropWhile_cons, List.takeWhile_cons, List.dropWhile_cons]
    rw [List.dropWhile_cons] at h
    split
    · rename_i hc
      rw [if_pos hc] at h
      obtain ⟨h1, h2⟩ := dg_app q s h
      exact ⟨by rw [h1], h2⟩
    · exact ⟨rfl, rfl⟩
theorem pNat_app {s r : Bs} {n : Nat} (h : pNat s = some (n, r)) (q : Bs) (hq : Shut r q) : pNat (s ++ q) = some (n, r ++ q) := by
  unfold pNat dgs at h ⊢
  split at h
  · rename_i hw
    simp only [Option.some.injEq, Prod.mk.injEq] at h
    obtain ⟨rfl, rfl⟩ := h
    obtain ⟨h1, h2⟩ := dg_app q s hq
    rw [h1, h2, if_pos hw]
  · simp at h
theorem pNum_app {s r : Bs} {n : Int} (h : pNum s = some (n, r)) (q : Bs) (hq : Shut r q) : pNum (s ++ q) = some (n, r ++ q) := by
  unfold pNum at h
  split at h
  · simp at h
  · rename_i c t
    rw [List.cons_append, pNum]
    split at h
    · rename_i hc
      rw [if_pos hc]
      split at h
      · rename_i m r' h1
        split at h
        · simp at h
        · rename_i hm
          simp only [Option.some.injEq, Prod.mk.injEq] at h
          obtain ⟨rfl, rfl⟩ := h
          simp only [pNat_app h1 q hq, if_neg hm]
      · simp at h
    · rename_i hc
      rw [if_neg hc]
      simp only [Option.map_eq_some_iff, Prod.mk.injEq] at h
      obtain ⟨⟨x, z⟩, h1, rfl, rfl⟩ := h
      have := pNat_app h1 q hq
      rw [List.cons_append] at this
      rw [this]; rfl
theorem hex4_app {s r : Bs} {x : Nat} (h : hex4 s = some (x, r)) (q : Bs) : hex4 (s ++ q) = some (x, r ++ q) := by
  unfold hex4 at h
  split at h
  · simp only [Option.bind_eq_some_iff, Option.map_eq_some_iff, Prod.mk.injEq] at h
    obtain ⟨_, g1, _, g2, _, g3, _, g4, rfl, rfl⟩ := h
    simp [hex4, g1, g2, g3, g4]
  · simp at h
theorem escU_app {s r : Bs} {x : Nat} (h : escU s = some (x, r)) (q : Bs) : escU (s ++ q) = some (x, r ++ q) := by
  unfold escU at h
  split at h
  · simp at h
  · rename_i x' r' h1
    unfold escU
    rw [hex4_app h1 q]
    simp only
    split at h
    · rename_i hx
      rw [if_pos hx]
      simp only [Option.some.injEq, Prod.mk.injEq] at h
      obtain ⟨rfl, rfl⟩ := h; rfl
    · rename_i hx
      rw [if_neg hx]
      split at h
      · simp at h
      · rename_i hx2
        rw [if_neg hx2]
        split at h
        · simp only [List.cons_append]
          split at h
          · rename_i hab
            rw [if_pos hab]
            split at h
            · rename_i y z h2
              rw [hex4_app h2 q]
              simp only
              split at h
              · rename_i hy
                rw [if_pos hy]
                simp only [Option.some.injEq, Prod.mk.injEq] at h
                obtain ⟨rfl, rfl⟩ := h; rfl
              · simp at h
            · simp at h
          · simp at h
        · simp at h
theorem esc_app {s r : Bs} {x : Nat} (h : esc s = some (x, r)) (q : Bs) : esc (s ++ q) = some (x, r ++ q) := by
  unfold esc at h
  split at h
  · simp at h
  · rename_i c t
    rw [List.cons_append, esc]
    repeat' split at h
    all_goals first
      | (simp at h; done)
      | (simp only [Option.some.injEq, Prod.mk.injEq] at h; obtain ⟨rfl, rfl⟩ := h; simp_all; done)
      | skip
    have := escU_app h q
    simp_all
theorem ch_app {c : UInt8} {t o r : Bs} (h : ch false c t = some (o, r)) (q : Bs) : ch false c (t ++ q) = some (o, r ++ q) := by
  unfold ch at h ⊢
  split at h
  · simp at h
  · rename_i h32
    rw [if_neg h32]
    split at h
    · rename_i h92
      rw [if_pos h92]
      simp only [Option.map_eq_some_iff, Prod.mk.injEq] at h
      obtain ⟨⟨x, z⟩, h1, rfl, rfl⟩ := h
      rw [esc_app h1 q, Option.map_some]
    · rename_i h92
      rw [if_neg h92]
      simp only [Bool.false_eq_true, if_false, Option.some.injEq, Prod.mk.injEq] at h ⊢
      exact ⟨h.1, by rw [h.2]⟩
theorem pStr_app : ∀ (n : Nat) {s o r : Bs} (q : Bs), s.length ≤ n → pStr false s = some (o, r) → pStr false (s ++ q) = some (o, r ++ q)
  | n, [], o, r, q, _, h => by rw [pStr_nil] at h; simp at h
  | 0, c :: t, o, r, q, hn, _ => by simp at hn
  | n + 1, c :: t, o, r, q, hn, h => by
    rw [pStr_cons] at h
    rw [List.cons_append, pStr_cons]
    split at h
    · rename_i hc
      rw [if_pos hc]
      simp only [Option.some.injEq, Prod.mk.injEq] at h
      obtain ⟨rfl, rfl⟩ := h; rfl
    · rename_i hc
      rw [if_neg hc]
      split at h
      · simp at h
      · rename_i o' r' h1
        have g := ch_len h1
        simp only [Option.map_eq_some_iff, Prod.mk.injEq] at h
        obtain ⟨⟨x, r''⟩, h2, rfl, rfl⟩ := h
        rw [ch_app h1 q]
        simp only
        rw [pStr_app n q (by simp at g hn; omega) h2]; rfl
theorem take_app' {s w : Bs} {k : Nat} (h : s.take k = w) (hk : w.length = k) (q : Bs) : (s ++ q).take k = w ∧ (s ++ q).drop k = s.drop k ++ q := by
  have hl : k ≤ s.length := by
    have := congrArg List.length h
    rw [List.length_take] at this; omega
  exact ⟨by rw [List.take_append_of_le_length hl, h], by rw [List.drop_append_of_le_length hl]⟩
theorem pWord_app {s r : Bs} {j : J} (h : pWord s = some (j, r)) (q : Bs) : pWord (s ++ q) = some (j, r ++ q) := by
  unfold pWord at h
  have ne : ∀ (w w' : Bs) (k k' : Nat), s.take k = w → w.length = k → (s ++ q).take k' = w' → w'.length = k' → w.head? = w'.head? ∨ w = [] ∨ w' = [] := by
    intro w w' k k' h1 h2 h3 h4
    cases s with
    | nil => right; left; rw [← h1]; simp
    | cons a s =>
      rcases Nat.eq_zero_or_pos k with rfl | hk
      · right; left; exact List.eq_nil_of_length_eq_zero h2
      · rcases Nat.eq_zero_or_pos k' with rfl | hk'
        · right; right; exact List.eq_nil_of_length_eq_zero h4
        · left
          obtain ⟨k, rfl⟩ : ∃ m, k = m + 1 := ⟨k - 1, by omega⟩
          obtain ⟨k', rfl⟩ : ∃ m, k' = m + 1 := ⟨k' - 1, by omega⟩
          rw [← h1, ← h3]; simp
  split at h
  · rename_i h1
    simp only [Option.some.injEq, Prod.mk.injEq] at h
    obtain ⟨rfl, rfl⟩ := h
    obtain ⟨e1, e2⟩ := take_app' h1 rfl q
    rw [pWord, if_pos e1, e2]
  · rename_i h0
    split at h
    · rename_i h1
      simp only [Option.some.injEq, Prod.mk.injEq] at h
      obtain ⟨rfl, rfl⟩ := h
      obtain ⟨e1, e2⟩ := take_app' h1 rfl q
      rw [pWord, if_neg (by rw [e1]; decide), if_pos e1, e2]
    · split at h
      · rename_i h1
        simp only [Option.some.injEq, Prod.mk.injEq] at h
        obtain ⟨rfl, rfl⟩ := h
        obtain ⟨e1, e2⟩ := take_app' h1 rfl q
        rw [pWord, if_neg (fun e => by rcases ne _ _ 5 4 h1 rfl e rfl with h | h | h <;> simp at h), if_neg (fun e => by rcases ne _ _ 5 4 h1 rfl e rfl with h | h | h <;> simp at h), if_pos e1, e2]
      · simp at h
theorem pSca_app {c : UInt8} {t r : Bs} {j : J} (h : pSca false c t = some (j, r)) (q : Bs) (hq : Shut r q) : pSca false c (t ++ q) = some (j, r ++ q) := by
  unfold pSca at h ⊢
  split at h
  · rename_i hc
    rw [if_pos hc]
    simp only [Option.map_eq_some_iff, Prod.mk.injEq] at h
    obtain ⟨⟨x, z⟩, h1, rfl, rfl⟩ := h
    rw [pStr_app _ q (Nat.le_refl _) h1]; rfl
  · rename_i hc
    rw [if_neg hc]
    split at h
    · rename_i hd
      rw [if_pos hd]
      simp only [Option.map_eq_some_iff, Prod.mk.injEq] at h
      obtain ⟨⟨x, z⟩, h1, rfl, rfl⟩ := h
      have := pNum_app h1 q hq
      rw [List.cons_append] at this
      rw [this]; rfl
    · rename_i hd
      rw [if_neg hd]
      have := pWord_app h q
      rwa [List.cons_append] at this
theorem pMore_app {σ : Type} {p : σ → Bs → Option (σ × Bs)} (q : Bs) (hp : ∀ a s b r, p a s = some (b, r) → r ≠ [] → p a (s ++ q) = some (b, r ++ q)) (e : UInt8) :
    ∀ (n m : Nat) (a : σ) (s : Bs) (b : σ) (r : Bs), n ≤ m → pMore p e n a s = some (b, r) → pMore p e m a (s ++ q) = some (b, r ++ q)
  | 0, m, a, s, b, r, _, h => by simp [pMore] at h
  | n + 1, m, a, s, b, r, hm, h => by
    obtain ⟨m, rfl⟩ : ∃ k, m = k + 1 := ⟨m - 1, by omega⟩
    unfold pMore at h ⊢
    split at h
    · simp at h
    · rename_i c t hs
      rw [sk_app hs q]
      simp only
      split at h
      · rename_i hc
        rw [if_pos hc]
        split at h
        · rename_i b' r' h1
          have hne : r' ≠ [] := by
            rintro rfl
            cases n with
            | zero => simp [pMore] at h
            | succ n => simp [pMore, sk] at h
          rw [hp _ _ _ _ h1 hne]
          exact pMore_app q hp e n m b' r' b r (by omega) h
        · simp at h
      · rename_i hc
        rw [if_neg hc]
        split at h
        · rename_i he
          rw [if_pos he]
          simp only [Option.some.injEq, Prod.mk.injEq] at h
          obtain ⟨rfl, rfl⟩ := h; rfl
        · simp at h
theorem pSev_app {σ : Type} {p : σ → Bs → Option (σ × Bs)} (q : Bs) (hp : ∀ a s b r, p a s = some (b, r) → r ≠ [] → p a (s ++ q) = some (b, r ++ q)) (hn : ∀ a s, sk s = [] → p a s = none) (e : UInt8)
    {a b : σ} {s r : Bs} (h : pSev p e a s = some (b, r)) : pSev p e a (s ++ q) = some (b, r ++ q) := by
  unfold pSev at h ⊢
  cases hs : sk s with
  | nil =>
    rw [hs] at h
    simp [hn a s hs] at h
  | cons c t =>
    rw [hs] at h
    rw [sk_app hs q]
    simp only [List.head?_cons, Option.some.injEq, List.tail_cons] at h ⊢
    split at h
    · rename_i hc
      rw [if_pos hc]
      simp only [Option.some.injEq, Prod.mk.injEq] at h
      obtain ⟨rfl, rfl⟩ := h; rfl
    · rename_i hc
      rw [if_neg hc]
      split at h
      · rename_i b' r' h1
        have hne : r' ≠ [] := by rintro rfl; simp [pMore, sk] at h
        rw [hp _ _ _ _ h1 hne]
        exact pMore_app q hp e _ _ b' r' b r (by simp) h
      · simp at h
theorem pVal_sknil (u : Bool) (d : Nat) (s : Bs) (h : sk s = []) : pVal u d s = none := by
  cases d <;> rw [pVal, h]
theorem pMem_app (pv : Bs → Option (J × Bs)) (q : Bs) (hp : ∀ s j r, pv s = some (j, r) → r ≠ [] → pv (s ++ q) = some (j, r ++ q)) (a : List (Bs × J)) (s : Bs) (b : List (Bs × J)) (r : Bs)
    (h : pMem false pv a s = some (b, r)) (hr : r ≠ []) : pMem false pv a (s ++ q) = some (b, r ++ q) := by
  unfold pMem at h ⊢
  split at h
  · simp at h
  · rename_i c t hs
    rw [sk_app hs q]
    simp only
    split at h
    · rename_i hc
      rw [if_pos hc]
      split at h
      · simp at h
      · rename_i k z h1
        rw [pStr_app _ q (Nat.le_refl _) h1]
        simp only
        split at h
        · simp at h
        · rename_i hl
          rw [if_neg hl]
          split at h
          · simp at h
          · rename_i c2 q2 hs2
            rw [sk_app hs2 q]
            simp only
            split at h
            · rename_i hc2
              rw [if_pos hc2]
              simp only [Option.map_eq_some_iff, Prod.mk.injEq] at h
              obtain ⟨⟨x, y⟩, h2, rfl, rfl⟩ := h
              rw [hp _ _ _ h2 hr]; rfl
            · simp at h
    · simp at h
theorem pVal_app : ∀ (d : Nat) (s : Bs) (j : J) (r : Bs) (q : Bs), pVal false d s = some (j, r) → Shut r q → pVal false d (s ++ q) = some (j, r ++ q)
  | 0, s, j, r, q, h, hq => by
    unfold pVal at h ⊢
    split at h
    · simp at h
    · rename_i c t hs
      rw [sk_app hs q]
      simp only
      split at h
      · simp at h
      · rename_i hc
        rw [if_neg hc]
        exact pSca_app h q hq
  | d + 1, s, j, r, q, h, hq => by
    unfold pVal at h ⊢
    split at h
    · simp at h
    · rename_i c t hs
      rw [sk_app hs q]
      simp only
      split at h
      · rename_i hc
        rw [if_pos hc]
        simp only [Option.map_eq_some_iff, Prod.mk.injEq] at h
        obtain ⟨⟨x, z⟩, h2, rfl, rfl⟩ := h
        rw [pSev_app q (pMem_app (pVal false d) q (fun s j r h hr => pVal_app d s j r q h (.inl hr))) (fun a s hs => by simp [pMem, hs]) 125 h2]; rfl
      · rename_i hc
        rw [if_neg hc]
        split at h
        · rename_i hc2
          rw [if_pos hc2]
          simp only [Option.map_eq_some_iff, Prod.mk.injEq] at h
          obtain ⟨⟨x, z⟩, h2, rfl, rfl⟩ := h
          rw [pSev_app q ?_ (fun a s hs => by simp [pEl, pVal_sknil _ _ _ hs]) 93 h2]
          · rfl
          · intro a s b r hh hr
            unfold pEl at hh ⊢
            simp only [Option.map_eq_some_iff, Prod.mk.injEq] at hh
            obtain ⟨⟨x, z⟩, h3, rfl, rfl⟩ := hh
            rw [pVal_app d _ _ _ q h3 (.inl hr)]; rfl
        · rename_i hc2
          rw [if_neg hc2]
          exact pSca_app h q hq
/-! ### depth -/
theorem pMore_sub {σ : Type} {p p' : σ → Bs → Option (σ × Bs)} (Q : σ → Prop) (hp : ∀ a s b r, p a s = some (b, r) → Q b → Q a ∧ p' a s = some (b, r)) (e : UInt8) :
    ∀ (n : Nat) (a : σ) (s : Bs) (b : σ) (r : Bs), pMore p e n a s = some (b, r) → Q b → Q a ∧ pMore p' e n a s = some (b, r)
  | 0, a, s, b, r, h, _ => by simp [pMore] at h
  | n + 1, a, s, b, r, h, hb => by
    unfold pMore at h ⊢
    split at h
    · simp at h
    · rename_i c t hs
      split at h
      · rename_i hc
        rw [if_pos hc]
        split at h
        · rename_i b' r' h1
          obtain ⟨q1, g1⟩ := pMore_sub Q hp e n b' r' b r h hb
          obtain ⟨q2, g2⟩ := hp _ _ _ _ h1 q1
          rw [g2]
          exact ⟨q2, g1⟩
        · simp at h
      · rename_i hc
        rw [if_neg hc]
        split at h
        · rename_i he
          rw [if_pos he]
          simp only [Option.some.injEq, Prod.mk.injEq] at h
          obtain ⟨rfl, rfl⟩ := h; exact ⟨hb, rfl⟩
        · simp at h
theorem pSev_sub {σ : Type} {p p' : σ → Bs → Option (σ × Bs)} (Q : σ → Prop) (hp : ∀ a s b r, p a s = some (b, r) → Q b → Q a ∧ p' a s = some (b, r)) (e : UInt8)
    {a b : σ} {s r : Bs} (h : pSev p e a s = some (b, r)) (hb : Q b) : pSev p' e a s = some (b, r) := by
  unfold pSev at h ⊢
  split at h
  · rename_i hc; rw [if_pos hc]; exact h
  · rename_i hc
    rw [if_neg hc]
    split at h
    · rename_i b' r' h1
      obtain ⟨q1, g1⟩ := pMore_sub Q hp e _ _ _ _ _ h hb
      obtain ⟨_, g2⟩ := hp _ _ _ _ h1 q1
      rw [g2]; exact g1
    · simp at h
theorem ofL_mem {α : Type} {l : List (Bs × α)} {p : Bs × α} (hn : Nod l) (h : p ∈ l) : p ∈ ofL l := by
  obtain ⟨k, v⟩ := p
  have : lookK k l = some v := by
    induction l with
    | nil => simp at h
    | cons q l ih =>
      obtain ⟨a, x⟩ := q
      unfold Nod at hn
      rw [List.map_cons, List.nodup_cons] at hn
      rcases List.mem_cons.1 h with h | h
      · simp only [Prod.mk.injEq] at h
        simp [lookK, h.1, h.2]
      · have : a ≠ k := by rintro rfl; exact hn.1 (List.mem_map.2 ⟨_, h, rfl⟩)
        simp [lookK, this, ih hn.2 h]
  exact lookK_mem (by rw [lookK_ofL _ _ hn]; exact this)
theorem pMem_nod {u : Bool} {pv : Bs → Option (J × Bs)} {a : List (Bs × J)} {s : Bs} {b : List (Bs × J)} {r : Bs} (h : pMem u pv a s = some (b, r)) :
    ∃ k x, b = a ++ [(k, x)] ∧ lookK k a = none ∧ ∃ z, pv z = some (x, r) ∧ ∀ pv' : Bs → Option (J × Bs), pv' z = some (x, r) → pMem u pv' a s = some (b, r) := by
  unfold pMem at h
  split at h
  · simp at h
  · rename_i c t hs
    split at h
    · rename_i hc
      split at h
      · simp at h
      · rename_i k z h1
        split at h
        · simp at h
        · rename_i hl
          split at h
          · simp at h
          · rename_i c2 q2 hs2
            split at h
            · rename_i hc2
              simp only [Option.map_eq_some_iff, Prod.mk.injEq] at h
              obtain ⟨⟨x, y⟩, h2, rfl, rfl⟩ := h
              refine ⟨k, x, rfl, by simpa using hl, q2, h2, ?_⟩
              intro pv' h3
              simp only [pMem, hs, if_pos hc, h1, if_neg hl, hs2, if_pos hc2, h3, Option.map_some]
            · simp at h
    · simp at h
theorem pMore_inv {σ : Type} {p : σ → Bs → Option (σ × Bs)} (I : σ → Prop) (hp : ∀ a s b r, I a → p a s = some (b, r) → I b) (e : UInt8) :
    ∀ (n : Nat) (a : σ) (s : Bs) (b : σ) (r : Bs), I a → pMore p e n a s = some (b, r) → I b
  | 0, a, s, b, r, _, h => by simp [pMore] at h
  | n + 1, a, s, b, r, ha, h => by
    unfold pMore at h
    split at h
    · simp at h
    · split at h
      · split at h
        · rename_i b' r' h1
          exact pMore_inv I hp e n b' r' b r (hp _ _ _ _ ha h1) h
        · simp at h
      · split at h
        · simp only [Option.some.injEq, Prod.mk.injEq] at h
          obtain ⟨rfl, rfl⟩ := h; exact ha
        · simp at h
theorem pSev_inv {σ : Type} {p : σ → Bs → Option (σ × Bs)} (I : σ → Prop) (hp : ∀ a s b r, I a → p a s = some (b, r) → I b) (e : UInt8) {a b : σ} {s r : Bs} (ha : I a) (h : pSev p e a s = some (b, r)) : I b := by
  unfold pSev at h
  split at h
  · simp only [Option.some.injEq, Prod.mk.injEq] at h
    obtain ⟨rfl, _⟩ := h; exact ha
  · split at h
    · rename_i b' r' h1
      exact pMore_inv I hp e _ b' r' b r (hp _ _ _ _ ha h1) h
    · simp at h
theorem pVal_down (u : Bool) : ∀ (d : Nat) (s : Bs) (j : J) (r : Bs), pVal u (d + 1) s = some (j, r) → WF d j → pVal u d s = some (j, r)
  | 0, s, j, r, h, hw => by
    unfold pVal at h ⊢
    split at h
    · simp at h
    · rename_i c t hs
      split at h
      · simp only [Option.map_eq_some_iff, Prod.mk.injEq] at h
        obtain ⟨⟨x, z⟩, _, rfl, _⟩ := h
        simp [WF] at hw
      · rename_i hc
        split at h
        · simp only [Option.map_eq_some_iff, Prod.mk.injEq] at h
          obtain ⟨⟨x, z⟩, _, rfl, _⟩ := h
          simp [WF] at hw
        · rename_i hc2
          rw [if_neg (by intro g; rcases g with g | g; exact hc g; exact hc2 g)]
          exact h
  | d + 1, s, j, r, h, hw => by
    rw [pVal] at h ⊢
    split at h
    · simp at h
    · rename_i c t hs
      split at h
      · rename_i hc
        rw [if_pos hc]
        simp only [Option.map_eq_some_iff, Prod.mk.injEq] at h
        obtain ⟨⟨x, z⟩, h2, rfl, rfl⟩ := h
        have hn : Nod x := pSev_inv Nod (fun a s b r ha h => by
          obtain ⟨k, y, rfl, h1, _⟩ := pMem_nod h
          exact (nod_snoc _ _ _).2 ⟨ha, h1⟩) 125 (by simp [Nod]) h2
        simp only [WF, WFm_iff] at hw
        rw [pSev_sub (fun l : List (Bs × J) => ∀ p ∈ l, WF d p.2) (p' := pMem u (pVal u d)) ?_ 125 h2 (fun p hp => (hw.2 p (ofL_mem hn hp)).2)]
        · rfl
        · intro a s b r hh hb
          obtain ⟨k, y, rfl, h1, q, h3, h4⟩ := pMem_nod hh
          refine ⟨fun p hp => hb p (by simp [hp]), h4 _ (pVal_down u d _ _ _ h3 (hb (k, y) (by simp)))⟩
      · rename_i hc
        rw [if_neg hc]
        split at h
        · rename_i hc2
          rw [if_pos hc2]
          simp only [Option.map_eq_some_iff, Prod.mk.injEq] at h
          obtain ⟨⟨x, z⟩, h2, rfl, rfl⟩ := h
          simp only [WF, WFs_iff] at hw
          rw [pSev_sub (fun l : List J => ∀ p ∈ l, WF d p) (p' := pEl (pVal u d)) ?_ 93 h2 hw]
          · rfl
          · intro a s b r hh hb
            unfold pEl at hh
            simp only [Option.map_eq_some_iff, Prod.mk.injEq] at hh
            obtain ⟨⟨x, z⟩, h3, rfl, rfl⟩ := hh
            refine ⟨fun p hp => hb p (by simp [hp]), ?_⟩
            rw [pEl, pVal_down u d _ _ _ h3 (hb x (by simp))]; rfl
        · rename_i hc2
          rw [if_neg hc2]
          exact h
end Go.Proofs.YtocligpfmfmihaaGreatDoor
namespace Go.Proofs.YtocligpfmfmihaaGreatDoor
open Go.Lib

theorem pVal_up (u : Bool) : ∀ (d : Nat) (s : Bs) (j : J) (r : Bs), pVal u d s = some (j, r) → pVal u (d + 1) s = some (j, r)
  | 0, s, j, r, h => by
    unfold pVal at h ⊢
    split at h
    · simp at h
    · rename_i c t hs
      split at h
      · simp at h
      · rename_i hc
        rw [if_neg (fun g => hc (.inl g)), if_neg (fun g => hc (.inr g))]
        exact h
  | d + 1, s, j, r, h => by
    rw [pVal] at h ⊢
    split at h
    · simp at h
    · rename_i c t hs
      split at h
      · rename_i hc
        rw [if_pos hc]
        simp only [Option.map_eq_some_iff, Prod.mk.injEq] at h
        obtain ⟨⟨x, z⟩, h2, rfl, rfl⟩ := h
        rw [pSev_sub (fun _ : List (Bs × J) => True) (p' := pMem u (pVal u (d + 1))) ?_ 125 h2 trivial]
        · rfl
        · intro a s b r hh _
          obtain ⟨k, y, rfl, h1, q, h3, h4⟩ := pMem_nod hh
          exact ⟨trivial, h4 _ (pVal_up u d _ _ _ h3)⟩
      · rename_i hc
        rw [if_neg hc]
        split at h
        · rename_i hc2
          rw [if_pos hc2]
          simp only [Option.map_eq_some_iff, Prod.mk.injEq] at h
          obtain ⟨⟨x, z⟩, h2, rfl, rfl⟩ := h
          rw [pSev_sub (fun _ : List J => True) (p' := pEl (pVal u (d + 1))) ?_ 93 h2 trivial]
          · rfl
          · intro a s b r hh _
            unfold pEl at hh
            simp only [Option.map_eq_some_iff, Prod.mk.injEq] at hh
            obtain ⟨⟨x, z⟩, h3, rfl, rfl⟩ := hh
            rw [pEl, pVal_up u d _ _ _ h3]; exact ⟨trivial, rfl⟩
        · rename_i hc2
          rw [if_neg hc2]
          exact h
/-- A text that parses: as the value of a member. -/
theorem parse_part {s : Bs} {j : J} (h : parse s = some j) : validD s = true ∧ ∃ t, sk t = [] ∧ pVal false 6 s = some (j, t) := by
  unfold parse at h
  split at h
  · rename_i hv
    unfold pTop at h
    split at h
    · rename_i j' t h1
      split at h
      · rename_i ht
        simp only [Option.some.injEq] at h
        subst h
        exact ⟨hv, t, ht, h1⟩
      · simp at h
    · simp at h
  · simp at h
theorem member_val {s : Bs} {j : J} (h : parse s = some j) (q : Bs) (hq : NoDg q) (hv : validD q = true) :
    ∃ t, sk t = [] ∧ (WF 5 j → pVal false 5 (s ++ q) = some (j, t ++ q)) ∧ (¬ WF 5 j → pVal false 5 (s ++ q) = none) := by
  obtain ⟨hs, t, ht, hp⟩ := parse_part h
  refine ⟨t, ht, ?_, ?_⟩
  · intro hw
    exact pVal_app 5 s j t q (pVal_down false 5 s j t hp hw) (.inr hq)
  · intro hw
    cases h5 : pVal false 5 (s ++ q) with
    | none => rfl
    | some p =>
      obtain ⟨j', r'⟩ := p
      have h6 := pVal_up false 5 _ _ _ h5
      rw [pVal_app 6 s j t q hp (.inr hq)] at h6
      simp only [Option.some.injEq, Prod.mk.injEq] at h6
      rw [← pVal_eq 5 (s ++ q) (by rw [validD_app _ _ _ (Nat.le_refl _) hs]; exact hv)] at h5
      rw [← h6.1] at h5
      exact absurd (pVal_ok 5 _ _ _ h5).1 hw
/-- An object of two members. -/
theorem parse_two (K1 K2 a b B : Bs) (k1 k2 : Bs) (ja jb : J) (hB : sk B = []) (hk : k1 ≠ k2) (h1 : ∀ q, pStr false (K1 ++ q) = some (k1, q)) (h2 : ∀ q, pStr false (K2 ++ q) = some (k2, q))
    (v1 : ∀ q, validD (K1 ++ q) = validD q) (v2 : ∀ q, validD (K2 ++ q) = validD q) (ha : parse a = some ja) (hb : parse b = some jb) :
    (WF 5 ja ∧ WF 5 jb → parse (123 :: 34 :: (K1 ++ 58 :: (a ++ 44 :: (B ++ 34 :: (K2 ++ 58 :: (b ++ [125])))))) = some (.obj (ofL [(k1, ja), (k2, jb)]))) ∧
    (¬ (WF 5 ja ∧ WF 5 jb) → parse (123 :: 34 :: (K1 ++ 58 :: (a ++ 44 :: (B ++ 34 :: (K2 ++ 58 :: (b ++ [125])))))) = none) := by
  have va := (parse_part ha).1
  have vb := (parse_part hb).1
  have w3 : validD (b ++ [125]) = true := by rw [validD_app _ _ _ (Nat.le_refl _) vb]; decide
  have w2 : validD (B ++ 34 :: (K2 ++ 58 :: (b ++ [125]))) = true := by
    rw [← sk_valid, sk_app_nil hB, sk_valid, validD_cons _ _ (by decide), v2, validD_cons _ _ (by decide)]; exact w3
  have w1 : validD (44 :: (B ++ 34 :: (K2 ++ 58 :: (b ++ [125])))) = true := by rw [validD_cons _ _ (by decide)]; exact w2
  have w0 : validD (123 :: 34 :: (K1 ++ 58 :: (a ++ 44 :: (B ++ 34 :: (K2 ++ 58 :: (b ++ [125])))))) = true := by
    rw [validD_cons _ _ (by decide), validD_cons _ _ (by decide), v1, validD_cons _ _ (by decide), validD_app _ _ _ (Nat.le_refl _) va]; exact w1
  have nd : ∀ (c : UInt8) (t : Bs), isDg c = false → NoDg (c :: t) := by intro c t hc x hx; simp at hx; subst hx; exact hc
  obtain ⟨ta, hta, pa, na⟩ := member_val ha (44 :: (B ++ 34 :: (K2 ++ 58 :: (b ++ [125])))) (nd _ _ (by decide)) w1
  obtain ⟨tb, htb, pb, nb⟩ := member_val hb [125] (nd _ _ (by decide)) (by decide)
  have hh : (sk (34 :: (K1 ++ 58 :: (a ++ 44 :: (B ++ 34 :: (K2 ++ 58 :: (b ++ [125]))))))).head? ≠ some 125 := by rw [sk_non _ (by decide)]; simp
  have m1 : pMem false (pVal false 5) [] (34 :: (K1 ++ 58 :: (a ++ 44 :: (B ++ 34 :: (K2 ++ 58 :: (b ++ [125])))))) =
      (pVal false 5 (a ++ 44 :: (B ++ 34 :: (K2 ++ 58 :: (b ++ [125]))))).map fun x => ([(k1, x.1)], x.2) := by
    rw [pMem, sk_non _ (by decide)]
    simp only [if_true, h1, lookK, Option.isSome_none, Bool.false_eq_true, if_false]
    rw [sk_non _ (by decide)]
    simp
  have m2 : pMem false (pVal false 5) [(k1, ja)] (B ++ 34 :: (K2 ++ 58 :: (b ++ [125]))) = (pVal false 5 (b ++ [125])).map fun x => ([(k1, ja), (k2, x.1)], x.2) := by
    rw [pMem, sk_app_nil hB, sk_non _ (by decide)]
    simp only [if_true, h2, lookK, if_neg hk, Option.isSome_none, Bool.false_eq_true, if_false]
    rw [sk_non _ (by decide)]
    simp
  unfold parse
  rw [w0]
  simp only [if_true, pTop]
  rw [pVal, sk_non _ (by decide)]
  simp only [if_true]
  rw [pSev, if_neg hh, m1]
  constructor
  · rintro ⟨hwa, hwb⟩
    rw [pa hwa]
    simp only [Option.map_some]
    rw [pMore, sk_app_nil hta, sk_non _ (by decide)]
    simp only [if_true, m2, pb hwb, Option.map_some]
    generalize hn : (ta ++ 44 :: (B ++ 34 :: (K2 ++ 58 :: (b ++ [125])))).length = n
    obtain ⟨m, rfl⟩ : ∃ m, n = m + 1 := ⟨n - 1, by simp at hn; omega⟩
    rw [pMore, sk_app_nil htb, sk_non _ (by decide)]
    simp [sk]
  · intro hw
    by_cases hwa : WF 5 ja
    · have hwb : ¬ WF 5 jb := fun h => hw ⟨hwa, h⟩
      rw [pa hwa]
      simp only [Option.map_some]
      rw [pMore, sk_app_nil hta, sk_non _ (by decide)]
      simp [m2, nb hwb]
    · rw [na hwa]; simp

/-! ### Ordered -/
def tK (c : UInt8) : Bs := [c, 34]
theorem tK_ok (c : UInt8) (h : c = 107 ∨ c = 75 ∨ c = 97 ∨ c = 98) (q : Bs) : pStr false (tK c ++ q) = some ([c], q) ∧ validD (tK c ++ q) = validD q := by
  rcases h with rfl | rfl | rfl | rfl <;> exact ⟨by simp [tK, pStr_cons, ch], by simp [tK]; rw [validD_cons _ _ (by decide), validD_cons _ _ (by decide)]⟩
theorem tU_ok (q : Bs) : pStr false ([92, 117, 48, 48, 54, 98, 34] ++ q) = some ([107], q) ∧ validD ([92, 117, 48, 48, 54, 98, 34] ++ q) = validD q := by
  refine ⟨?_, validD_low _ _ (by decide)⟩
  have e : esc (117 :: 48 :: 48 :: 54 :: 98 :: 34 :: q) = some (107, 34 :: q) := by simp [esc, escU, hex4, hexV]
  simp only [List.cons_append, List.nil_append]
  rw [pStr_cons]
  simp [ch, e, pStr_cons]
  exact enc_lt 107 (by decide)
theorem ofL_kK (x y : J) : ofL [([107], x), ([75], y)] = [([75], y), ([107], x)] ∧ ofL [([75], y), ([107], x)] = [([75], y), ([107], x)] := by
  have h1 : ([75] : Bs) < [107] := by decide
  have h2 : ¬ ([107] : Bs) < [75] := by decide
  constructor <;> simp [ofL, insK, h1, h2]
def two1 (a b : Bs) : Bs := 123 :: 34 :: 107 :: 34 :: 58 :: (a ++ 44 :: 34 :: 75 :: 34 :: 58 :: (b ++ [125]))
def two2 (x y : Bs) : Bs := 123 :: 34 :: 75 :: 34 :: 58 :: (y ++ 32 :: 44 :: 32 :: 34 :: 92 :: 117 :: 48 :: 48 :: 54 :: 98 :: 34 :: 58 :: (x ++ [125]))
theorem ordered_pure (a b : Bs) (ja jb : J) (ha : parse a = some ja) (hb : parse b = some jb) :
    (parse (two1 a b) = some (.obj [([75], jb), ([107], ja)]) ∧ parse (two2 (cJ ja) (cJ jb)) = some (.obj [([75], jb), ([107], ja)])) ∨ (parse (two1 a b) = none ∧ parse (two2 (cJ ja) (cJ jb)) = none) := by
  have wa := (parse_ok ha).1
  have wb := (parse_ok hb).1
  have t1 := parse_two (tK 107) (tK 75) a b [] [107] [75] ja jb rfl (by decide) (fun q => (tK_ok 107 (by simp) q).1) (fun q => (tK_ok 75 (by simp) q).1) (fun q => (tK_ok 107 (by simp) q).2) (fun q => (tK_ok 75 (by simp) q).2) ha hb
  rw [(ofL_kK ja jb).1] at t1
  have hb' : parse (cJ jb ++ [32]) = some jb := by
    have hv : validD (cJ jb ++ [32]) = true := by rw [validD_cJ 6 jb _ wb]; decide
    have hp := pVal_cJ 6 jb [32] wb (by intro c hc; simp at hc; subst hc; decide)
    unfold parse
    rw [hv]
    simp only [if_true, pTop, hp]
    simp [sk, isBl]
  have t2 := parse_two (tK 75) [92, 117, 48, 48, 54, 98, 34] (cJ jb ++ [32]) (cJ ja) [32] [75] [107] jb ja (by simp [sk, isBl]) (by decide) (fun q => (tK_ok 75 (by simp) q).1) (fun q => (tU_ok q).1) (fun q => (tK_ok 75 (by simp) q).2) (fun q => (tU_ok q).2) hb' (parse_cJ ja wa)
  rw [(ofL_kK ja jb).2] at t2
  simp only [tK, List.append_assoc, List.cons_append, List.nil_append] at t1 t2
  unfold two1 two2
  by_cases h : WF 5 ja ∧ WF 5 jb
  · exact .inl ⟨t1.1 h, t2.1 h.symm⟩
  · exact .inr ⟨t1.2 h, t2.2 (fun g => h g.symm)⟩
theorem known_two : parse [123, 34, 98, 34, 58, 49, 44, 34, 97, 34, 58, 50, 125] = some (.obj [([97], .num 2), ([98], .num 1)]) := by
  have h1 : parse [49] = some (.num 1) := by
    have := parse_cJ (.num 1) (by simp [WF, maxNum])
    rwa [show cJ (.num 1) = [49] by rw [cJ, cNum, if_neg (by decide), decN, if_pos (by decide)]; rfl] at this
  have h2 : parse [50] = some (.num 2) := by
    have := parse_cJ (.num 2) (by simp [WF, maxNum])
    rwa [show cJ (.num 2) = [50] by rw [cJ, cNum, if_neg (by decide), decN, if_pos (by decide)]; rfl] at this
  have := parse_two (tK 98) (tK 97) [49] [50] [] [98] [97] _ _ rfl (by decide) (fun q => (tK_ok 98 (by simp) q).1) (fun q => (tK_ok 97 (by simp) q).1) (fun q => (tK_ok 98 (by simp) q).2) (fun q => (tK_ok 97 (by simp) q).2) h1 h2
  have this := this.1 ⟨by simp [WF, maxNum], by simp [WF, maxNum]⟩
  have h3 : ([97] : Bs) < [98] := by decide
  simpa [tK, ofL, insK, h3] using this
theorem known_empty : parse [32, 123, 32, 125, 32] = some (.obj []) := by
  have e : pVal false 6 [32, 123, 32, 125, 32] = some (.obj [], [32]) := by
    rw [pVal]; simp [sk, isBl, pSev, ofL]
  unfold parse
  rw [show validD [32, 123, 32, 125, 32] = true by decide]
  simp [pTop, e, sk, isBl]
end Go.Proofs.YtocligpfmfmihaaGreatDoor
namespace Go.Proofs.YtocligpfmfmihaaGreatDoor
open Go.Lib

def Shr {σ : Type} (p : σ → Bs → Option (σ × Bs)) : Prop := ∀ a s b r, p a s = some (b, r) → r.length ≤ s.length

theorem drop_le (p : UInt8 → Bool) (s : Bs) : (s.dropWhile p).length ≤ s.length := (List.dropWhile_suffix _).length_le
theorem pNat_le {s r : Bs} {n : Nat} (h : pNat s = some (n, r)) : r.length ≤ s.length := by
  unfold pNat at h
  split at h
  · simp only [Option.some.injEq, Prod.mk.injEq] at h
    obtain ⟨_, rfl⟩ := h
    exact drop_le _ _
  · cases h
theorem pNum_le {s r : Bs} {n : Int} (h : pNum s = some (n, r)) : r.length ≤ s.length := by
  unfold pNum at h
  split at h
  · cases h
  · split at h
    · split at h
      · rename_i hn
        have := pNat_le hn
        split at h
        · cases h
        · simp only [Option.some.injEq, Prod.mk.injEq] at h
          obtain ⟨_, rfl⟩ := h
          simp only [List.length_cons]; omega
      · cases h
    · simp only [Option.map_eq_some_iff, Prod.mk.injEq] at h
      obtain ⟨⟨x, y⟩, hn, _, rfl⟩ := h
      exact pNat_le hn
theorem pWord_le {s r : Bs} {j : J} (h : pWord s = some (j, r)) : r.length ≤ s.length := by
  unfold pWord at h
  repeat' split at h
  all_goals first
    | (cases h; done)
    | (simp only [Option.some.injEq, Prod.mk.injEq] at h; obtain ⟨_, rfl⟩ := h; simp only [List.length_drop]; omega)
theorem pSca_le {u : Bool} {c : UInt8} {t r : Bs} {j : J} (h : pSca u c t = some (j, r)) : r.length ≤ (c :: t).length := by
  unfold pSca at h
  split at h
  · simp only [Option.map_eq_some_iff, Prod.mk.injEq] at h
    obtain ⟨⟨x, y⟩, hn, _, rfl⟩ := h
    have := pStr_len t.length (Nat.le_refl _) hn
    simp only [List.length_cons]; omega
  · split at h
    · simp only [Option.map_eq_some_iff, Prod.mk.injEq] at h
      obtain ⟨⟨x, y⟩, hn, _, rfl⟩ := h
      exact pNum_le hn
    · exact pWord_le h
theorem pMore_le {σ : Type} {p : σ → Bs → Option (σ × Bs)} (hp : Shr p) {e : UInt8} : ∀ n a s b r, pMore p e n a s = some (b, r) → r.length ≤ s.length := by
  intro n
  induction n with
  | zero => intro a s b r h; simp [pMore] at h
  | succ n ih =>
    intro a s b r h
    have hs := sk_len s
    unfold pMore at h
    split at h
    · cases h
    · rename_i c t hc
      rw [hc] at hs
      simp only [List.length_cons] at hs
      split at h
      · split at h
        · rename_i b' r' hb
          have := hp _ _ _ _ hb
          have := ih _ _ _ _ h
          omega
        · cases h
      · split at h
        · simp only [Option.some.injEq, Prod.mk.injEq] at h
          obtain ⟨_, rfl⟩ := h
          omega
        · cases h
theorem pSev_le {σ : Type} {p : σ → Bs → Option (σ × Bs)} (hp : Shr p) {e : UInt8} {a b : σ} {s r : Bs} (h : pSev p e a s = some (b, r)) : r.length ≤ s.length := by
  have hs := sk_len s
  unfold pSev at h
  split at h
  · simp only [Option.some.injEq, Prod.mk.injEq] at h
    obtain ⟨_, rfl⟩ := h
    simp only [List.length_tail]; omega
  · split at h
    · rename_i hb
      have := hp _ _ _ _ hb
      have := pMore_le hp _ _ _ _ _ h
      omega
    · cases h
theorem pEl_shr {pv : Bs → Option (J × Bs)} (hv : ∀ s j r, pv s = some (j, r) → r.length ≤ s.length) : Shr (pEl pv) := by
  intro a s b r h
  unfold pEl at h
  simp only [Option.map_eq_some_iff, Prod.mk.injEq] at h
  obtain ⟨⟨x, y⟩, hn, _, rfl⟩ := h
  exact hv _ _ _ hn
theorem pMem_shr {u : Bool} {pv : Bs → Option (J × Bs)} (hv : ∀ s j r, pv s = some (j, r) → r.length ≤ s.length) : Shr (pMem u pv) := by
  intro a s b r h
  have hs := sk_len s
  unfold pMem at h
  split at h
  · cases h
  · rename_i c t hc
    rw [hc] at hs
    simp only [List.length_cons] at hs
    split at h
    · split at h
      · cases h
      · rename_i k r' hk
        have h1 := pStr_len t.length (Nat.le_refl _) hk
        have h2 := sk_len r'
        split at h
        · cases h
        · split at h
          · cases h
          · rename_i c' q hq
            rw [hq] at h2
            simp only [List.length_cons] at h2
            split at h
            · simp only [Option.map_eq_some_iff, Prod.mk.injEq] at h
              obtain ⟨⟨x, y⟩, hn, _, rfl⟩ := h
              have := hv _ _ _ hn
              show y.length ≤ s.length
              omega
            · cases h
    · cases h
theorem pVal_le {u : Bool} : ∀ (d : Nat) (s : Bs) (j : J) (r : Bs), pVal u d s = some (j, r) → r.length ≤ s.length := by
  intro d
  induction d with
  | zero =>
    intro s j r h
    have hs := sk_len s
    unfold pVal at h
    split at h
    · cases h
    · rename_i c t hc
      rw [hc] at hs
      split at h
      · cases h
      · have := pSca_le h; omega
  | succ d ih =>
    intro s j r h
    have hs := sk_len s
    unfold pVal at h
    split at h
    · cases h
    · rename_i c t hc
      rw [hc] at hs
      simp only [List.length_cons] at hs
      split at h
      · simp only [Option.map_eq_some_iff, Prod.mk.injEq] at h
        obtain ⟨⟨x, y⟩, hn, _, rfl⟩ := h
        have := pSev_le (pMem_shr ih) hn
        show y.length ≤ s.length
        omega
      · split at h
        · simp only [Option.map_eq_some_iff, Prod.mk.injEq] at h
          obtain ⟨⟨x, y⟩, hn, _, rfl⟩ := h
          have := pSev_le (pEl_shr ih) hn
          show y.length ≤ s.length
          omega
        · have := pSca_le h
          simp only [List.length_cons] at this
          omega
end Go.Proofs.YtocligpfmfmihaaGreatDoor

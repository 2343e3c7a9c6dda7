import Derived.Test.YtocligpfmfmihaaGreatDoorSize
namespace Go.Proofs.YtocligpfmfmihaaGreatDoor
open Go.Lib

def kSig : Bs := [115, 105, 103, 110, 97, 116, 117, 114, 101, 115]
def kUns : Bs := [117, 110, 115, 105, 103, 110, 101, 100]
/-- The value of a text, or an error's number. -/
def valueF (s : Bs) : Except Nat J := if 600 < s.length then .error 1 else match parse s with | none => .error 2 | some j => .ok j
def objectF (s : Bs) : Except Nat (List (Bs × J)) := match valueF s with | .error e => .error e | .ok (.obj l) => .ok l | .ok _ => .error 3
def bareL (l : List (Bs × J)) : List (Bs × J) := delK kUns (delK kSig l)
def bareF (l : List (Bs × J)) : Bs := cJ (.obj (bareL l))
def childF (k : Bs) (l : List (Bs × J)) : List (Bs × J) := match lookK k l with | some (.obj m) => m | _ => []
def signL (l : List (Bs × J)) (sv id sig : Bs) : List (Bs × J) :=
  insK kSig (.obj (insK sv (.obj (insK id (.str sig) (childF sv (childF kSig l)))) (childF kSig l))) l
/-- What a call answers: a text and an error's number. -/
def ansF (r : Except Nat Bs) : Bs × Nat := match r with | .error e => ([], e) | .ok s => (s, 0)
def canonF (s : Bs) : Bs × Nat := ansF ((valueF s).map cJ)
def messageF (s : Bs) : Bs × Nat := ansF ((objectF s).map bareF)
def signedE (s sv id sig : Bs) : Except Nat Bs :=
  match objectF s with
  | .error e => .error e
  | .ok l => if validD sv && validD id && validD sig then .ok (cJ (.obj (signL l sv id sig))) else .error 2
def signedF (s sv id sig : Bs) : Bs × Nat := ansF (signedE s sv id sig)

/-! ### sorted lists -/
theorem mem_delK {α : Type} {k : Bs} {l : List (Bs × α)} {p : Bs × α} : p ∈ delK k l ↔ p ∈ l ∧ p.1 ≠ k := by simp [delK]
theorem srt_delK {α : Type} (k : Bs) (l : List (Bs × α)) (h : Srt l) : Srt (delK k l) := List.Pairwise.filter _ h
theorem delK_insK {α : Type} (k : Bs) (v : α) (l : List (Bs × α)) : delK k (insK k v l) = delK k l := by
  induction l with
  | nil => simp [insK, delK]
  | cons q l ih =>
    obtain ⟨a, x⟩ := q
    rw [insK]
    split
    · simp [delK]
    · split
      · rename_i e; subst e; simp [delK]
      · rename_i hne
        simp only [delK] at ih ⊢
        simp [hne, ih]
theorem WF_delK (d : Nat) (k : Bs) (l : List (Bs × J)) (h : WF (d + 1) (.obj l)) : WF (d + 1) (.obj (delK k l)) := by
  simp only [WF, WFm_iff] at h ⊢
  exact ⟨srt_delK k l h.1, fun p hp => h.2 p (mem_delK.1 hp).1⟩
theorem WF_insK (d : Nat) (k : Bs) (v : J) (l : List (Bs × J)) (hk : validD k = true) (hv : WF d v) (h : WF (d + 1) (.obj l)) : WF (d + 1) (.obj (insK k v l)) := by
  simp only [WF, WFm_iff] at h ⊢
  refine ⟨srt_insK k v l h.1, fun p hp => ?_⟩
  rcases mem_insK hp with rfl | hp
  · exact ⟨hk, hv⟩
  · exact h.2 p hp
theorem lookK_mem {α : Type} {k : Bs} {l : List (Bs × α)} {v : α} (h : lookK k l = some v) : (k, v) ∈ l := by
  induction l with
  | nil => simp [lookK] at h
  | cons q l ih =>
    obtain ⟨a, x⟩ := q
    by_cases e : a = k
    · simp [lookK, e] at h; subst h; simp [e]
    · simp [lookK, e] at h; simp [ih h]
theorem WF_child (d : Nat) (k : Bs) (l : List (Bs × J)) (h : WF (d + 2) (.obj l)) : WF (d + 1) (.obj (childF k l)) := by
  unfold childF
  split
  · rename_i m hm
    simp only [WF, WFm_iff] at h
    exact (h.2 _ (lookK_mem hm)).2
  · simp [WF, WFm, Srt]
theorem WF_signL (l : List (Bs × J)) (sv id sig : Bs) (h : WF 6 (.obj l)) (h1 : validD sv = true) (h2 : validD id = true) (h3 : validD sig = true) : WF 6 (.obj (signL l sv id sig)) := by
  have c1 := WF_child 4 kSig l h
  have c2 := WF_child 3 sv _ c1
  have a : WF 4 (.obj (insK id (.str sig) (childF sv (childF kSig l)))) := WF_insK 3 id _ _ h2 (by simpa [WF] using h3) c2
  have b : WF 5 (.obj (insK sv (.obj (insK id (.str sig) (childF sv (childF kSig l)))) (childF kSig l))) := WF_insK 4 sv _ _ h1 a c1
  exact WF_insK 5 kSig _ l (by decide) b h

/-! ### Fixed -/
theorem canon_blank (j : J) (h : WF 6 j) : parse (32 :: (cJ j ++ [10])) = some j := by
  have hv : validD (32 :: (cJ j ++ [10])) = true := by
    rw [validD_cons _ _ (by decide), validD_cJ 6 j _ h]; decide
  have hp := pVal_cJ 6 j [10] h (by intro c hc; simp at hc; subst hc; decide)
  have e : ∀ (t : Bs), pVal false 6 (32 :: t) = pVal false 6 t := by
    intro t
    have : sk (32 :: t) = sk t := by simp [sk, isBl]
    rw [pVal, pVal, this]
  unfold parse
  rw [hv]
  simp only [if_true, pTop, e, hp]
  simp [sk, isBl]
theorem valueF_cJ (j : J) (h : WF 6 j) (hl : (cJ j).length ≤ 600) : valueF (cJ j) = .ok j := by
  unfold valueF
  rw [if_neg (by omega), parse_cJ j h]
theorem valueF_ok {s : Bs} {j : J} (h : valueF s = .ok j) : WF 6 j ∧ (cJ j).length ≤ 600 ∧ (cJ j).length ≤ s.length := by
  unfold valueF at h
  split at h
  · simp at h
  · split at h
    · simp at h
    · rename_i h1
      simp only [Except.ok.injEq] at h
      subst h
      obtain ⟨k1, k2⟩ := parse_ok h1
      exact ⟨k1, by omega, k2⟩
theorem bare_sign (l : List (Bs × J)) (sv id sig : Bs) : bareF (signL l sv id sig) = bareF l := by
  unfold bareF bareL signL
  rw [delK_insK]
theorem cJ_ne (j : J) : cJ j ≠ [] := by
  obtain ⟨c, t, e, _⟩ := cJ_head j
  rw [e]; simp
theorem objectF_obj (l : List (Bs × J)) (h : WF 6 (.obj l)) (hl : (cJ (.obj l)).length ≤ 600) : objectF (cJ (.obj l)) = .ok l := by
  unfold objectF; rw [valueF_cJ _ h hl]

/-! ### what follows a value does not turn it -/
theorem sk_app {s t : Bs} {c : UInt8} (h : sk s = c :: t) (q : Bs) : sk (s ++ q) = c :: (t ++ q) := by
  induction s with
  | nil => simp [sk] at h
  | cons a s ih =>
    unfold sk at h ih ⊢
    rw [List.cons_append, List.dropWhile_cons]
    rw [List.dropWhile_cons] at h
    split
    · rename_i hb; rw [if_pos hb] at h; exact ih h
    · rename_i hb; rw [if_neg hb] at h; simp only [List.cons.injEq] at h; rw [h.1, h.2]
theorem sk_app_nil {s : Bs} (h : sk s = []) (q : Bs) : sk (s ++ q) = sk q := by
  induction s with
  | nil => rfl
  | cons a s ih =>
    unfold sk at h ih ⊢
    rw [List.cons_append, List.dropWhile_cons]
    rw [List.dropWhile_cons] at h
    split
    · rename_i hb; rw [if_pos hb] at h; exact ih h
    · rename_i hb; rw [if_neg hb] at h; simp at h
/-- Something is left, or no digit comes behind. -/
def Shut (r q : Bs) : Prop := r ≠ [] ∨ NoDg q
theorem dg_app (q : Bs) : ∀ (s : Bs), Shut (s.dropWhile isDg) q → (s ++ q).takeWhile isDg = s.takeWhile isDg ∧ (s ++ q).dropWhile isDg = s.dropWhile isDg ++ q
  | [], h => by
    rcases h with h | h
    · simp at h
    · have := takeDg_app [] q (by simp) h
      simpa using this
  | c :: s, h => by
    rw [List.cons_append, List.takeWhile_cons, List.dropWhile_cons, List.takeWhile_cons, List.dropWhile_cons]
    rw [List.dropWhile_cons] at h
    split
    · rename_i hc
      rw [if_pos hc] at h
      obtain ⟨h1, h2⟩ := dg_app q s h
      exact ⟨by rw [h1], h2⟩
    · exact ⟨rfl, rfl⟩
theorem pNat_app {s r : Bs} {n : Nat} (h : pNat s = some (n, r)) (q : Bs) (hq : Shut r q) : pNat (s ++ q) = some (n, r ++ q) := by
  unfold pNat dgs at h ⊢
  split at h
  · rename_i hw
    simp only [Option.some.injEq, Prod.mk.injEq] at h
    obtain ⟨rfl, rfl⟩ := h
    obtain ⟨h1, h2⟩ := dg_app q s hq
    rw [h1, h2, if_pos hw]
  · simp at h
theorem pNum_app {s r : Bs} {n : Int} (h : pNum s = some (n, r)) (q : Bs) (hq : Shut r q) : pNum (s ++ q) = some (n, r ++ q) := by
  unfold pNum at h
  split at h
  · simp at h
  · rename_i c t
    rw [List.cons_append, pNum]
    split at h
    · rename_i hc
      rw [if_pos hc]
      split at h
      · rename_i m r' h1
        split at h
        · simp at h
        · rename_i hm
          simp only [Option.some.injEq, Prod.mk.injEq] at h
          obtain ⟨rfl, rfl⟩ := h
          simp only [pNat_app h1 q hq, if_neg hm]
      · simp at h
    · rename_i hc
      rw [if_neg hc]
      simp only [Option.map_eq_some_iff, Prod.mk.injEq] at h
      obtain ⟨⟨x, z⟩, h1, rfl, rfl⟩ := h
      have := pNat_app h1 q hq
      rw [List.cons_append] at this
      rw [this]; rfl
theorem hex4_app {s r : Bs} {x : Nat} (h : hex4 s = some (x, r)) (q : Bs) : hex4 (s ++ q) = some (x, r ++ q) := by
  unfold hex4 at h
  split at h
  · simp only [Option.bind_eq_some_iff, Option.map_eq_some_iff, Prod.mk.injEq] at h
    obtain ⟨_, g1, _, g2, _, g3, _, g4, rfl, rfl⟩ := h
    simp [hex4, g1, g2, g3, g4]
  · simp at h
theorem escU_app {s r : Bs} {x : Nat} (h : escU s = some (x, r)) (q : Bs) : escU (s ++ q) = some (x, r ++ q) := by
  unfold escU at h
  split at h
  · simp at h
  · rename_i x' r' h1
    unfold escU
    rw [hex4_app h1 q]
    simp only
    split at h
    · rename_i hx
      rw [if_pos hx]
      simp only [Option.some.injEq, Prod.mk.injEq] at h
      obtain ⟨rfl, rfl⟩ := h; rfl
    · rename_i hx
      rw [if_neg hx]
      split at h
      · simp at h
      · rename_i hx2
        rw [if_neg hx2]
        split at h
        · simp only [List.cons_append]
          split at h
          · rename_i hab
            rw [if_pos hab]
            split at h
            · rename_i y z h2
              rw [hex4_app h2 q]
              simp only
              split at h
              · rename_i hy
                rw [if_pos hy]
                simp only [Option.some.injEq, Prod.mk.injEq] at h
                obtain ⟨rfl, rfl⟩ := h; rfl
              · simp at h
            · simp at h
          · simp at h
        · simp at h
theorem esc_app {s r : Bs} {x : Nat} (h : esc s = some (x, r)) (q : Bs) : esc (s ++ q) = some (x, r ++ q) := by
  unfold esc at h
  split at h
  · simp at h
  · rename_i c t
    rw [List.cons_append, esc]
    repeat' split at h
    all_goals first
      | (simp at h; done)
      | (simp only [Option.some.injEq, Prod.mk.injEq] at h; obtain ⟨rfl, rfl⟩ := h; simp_all; done)
      | skip
    have := escU_app h q
    simp_all
theorem ch_app {c : UInt8} {t o r : Bs} (h : ch false c t = some (o, r)) (q : Bs) : ch false c (t ++ q) = some (o, r ++ q) := by
  unfold ch at h ⊢
  split at h
  · simp at h
  · rename_i h32
    rw [if_neg h32]
    split at h
    · rename_i h92
      rw [if_pos h92]
      simp only [Option.map_eq_some_iff, Prod.mk.injEq] at h
      obtain ⟨⟨x, z⟩, h1, rfl, rfl⟩ := h
      rw [esc_app h1 q, Option.map_some]
    · rename_i h92
      rw [if_neg h92]
      simp only [Bool.false_eq_true, if_false, Option.some.injEq, Prod.mk.injEq] at h ⊢
      exact ⟨h.1, by rw [h.2]⟩
theorem pStr_app : ∀ (n : Nat) {s o r : Bs} (q : Bs), s.length ≤ n → pStr false s = some (o, r) → pStr false (s ++ q) = some (o, r ++ q)
  | n, [], o, r, q, _, h => by rw [pStr_nil] at h; simp at h
  | 0, c :: t, o, r, q, hn, _ => by simp at hn
  | n + 1, c :: t, o, r, q, hn, h => by
    rw [pStr_cons] at h
    rw [List.cons_append, pStr_cons]
    split at h
    · rename_i hc
      rw [if_pos hc]
      simp only [Option.some.injEq, Prod.mk.injEq] at h
      obtain ⟨rfl, rfl⟩ := h; rfl
    · rename_i hc
      rw [if_neg hc]
      split at h
      · simp at h
      · rename_i o' r' h1
        have g := ch_len h1
        simp only [Option.map_eq_some_iff, Prod.mk.injEq] at h
        obtain ⟨⟨x, r''⟩, h2, rfl, rfl⟩ := h
        rw [ch_app h1 q]
        simp only
        rw [pStr_app n q (by simp at g hn; omega) h2]; rfl
theorem take_app' {s w : Bs} {k : Nat} (h : s.take k = w) (hk : w.length = k) (q : Bs) : (s ++ q).take k = w ∧ (s ++ q).drop k = s.drop k ++ q := by
  have hl : k ≤ s.length := by
    have := congrArg List.length h
    rw [List.length_take] at this; omega
  exact ⟨by rw [List.take_append_of_le_length hl, h], by rw [List.drop_append_of_le_length hl]⟩
theorem pWord_app {s r : Bs} {j : J} (h : pWord s = some (j, r)) (q : Bs) : pWord (s ++ q) = some (j, r ++ q) := by
  unfold pWord at h
  have ne : ∀ (w w' : Bs) (k k' : Nat), s.take k = w → w.length = k → (s ++ q).take k' = w' → w'.length = k' → w.head? = w'.head? ∨ w = [] ∨ w' = [] := by
    intro w w' k k' h1 h2 h3 h4
    cases s with
    | nil => right; left; rw [← h1]; simp
    | cons a s =>
      rcases Nat.eq_zero_or_pos k with rfl | hk
      · right; left; exact List.eq_nil_of_length_eq_zero h2
      · rcases Nat.eq_zero_or_pos k' with rfl | hk'
        · right; right; exact List.eq_nil_of_length_eq_zero h4
        · left
          obtain ⟨k, rfl⟩ : ∃ m, k = m + 1 := ⟨k - 1, by omega⟩
          obtain ⟨k', rfl⟩ : ∃ m, k' = m + 1 := ⟨k' - 1, by omega⟩
          rw [← h1, ← h3]; simp
  split at h
  · rename_i h1
    simp only [Option.some.injEq, Prod.mk.injEq] at h
    obtain ⟨rfl, rfl⟩ := h
    obtain ⟨e1, e2⟩ := take_app' h1 rfl q
    rw [pWord, if_pos e1, e2]
  · rename_i h0
    split at h
    · rename_i h1
      simp only [Option.some.injEq, Prod.mk.injEq] at h
      obtain ⟨rfl, rfl⟩ := h
      obtain ⟨e1, e2⟩ := take_app' h1 rfl q
      rw [pWord, if_neg (by rw [e1]; decide), if_pos e1, e2]
    · split at h
      · rename_i h1
        simp only [Option.some.injEq, Prod.mk.injEq] at h
        obtain ⟨rfl, rfl⟩ := h
        obtain ⟨e1, e2⟩ := take_app' h1 rfl q
        rw [pWord, if_neg (fun e => by rcases ne _ _ 5 4 h1 rfl e rfl with h | h | h <;> simp at h), if_neg (fun e => by rcases ne _ _ 5 4 h1 rfl e rfl with h | h | h <;> simp at h), if_pos e1, e2]
      · simp at h
theorem pSca_app {c : UInt8} {t r : Bs} {j : J} (h : pSca false c t = some (j, r)) (q : Bs) (hq : Shut r q) : pSca false c (t ++ q) = some (j, r ++ q) := by
  unfold pSca at h ⊢
  split at h
  · rename_i hc
    rw [if_pos hc]
    simp only [Option.map_eq_some_iff, Prod.mk.injEq] at h
    obtain ⟨⟨x, z⟩, h1, rfl, rfl⟩ := h
    rw [pStr_app _ q (Nat.le_refl _) h1]; rfl
  · rename_i hc
    rw [if_neg hc]
    split at h
    · rename_i hd
      rw [if_pos hd]
      simp only [Option.map_eq_some_iff, Prod.mk.injEq] at h
      obtain ⟨⟨x, z⟩, h1, rfl, rfl⟩ := h
      have := pNum_app h1 q hq
      rw [List.cons_append] at this
      rw [this]; rfl
    · rename_i hd
      rw [if_neg hd]
      have := pWord_app h q
      rwa [List.cons_append] at this
theorem pMore_app {σ : Type} {p : σ → Bs → Option (σ × Bs)} (q : Bs) (hp : ∀ a s b r, p a s = some (b, r) → r ≠ [] → p a (s ++ q) = some (b, r ++ q)) (e : UInt8) :
    ∀ (n m : Nat) (a : σ) (s : Bs) (b : σ) (r : Bs), n ≤ m → pMore p e n a s = some (b, r) → pMore p e m a (s ++ q) = some (b, r ++ q)
  | 0, m, a, s, b, r, _, h => by simp [pMore] at h
  | n + 1, m, a, s, b, r, hm, h => by
    obtain ⟨m, rfl⟩ : ∃ k, m = k + 1 := ⟨m - 1, by omega⟩
    unfold pMore at h ⊢
    split at h
    · simp at h
    · rename_i c t hs
      rw [sk_app hs q]
      simp only
      split at h
      · rename_i hc
        rw [if_pos hc]
        split at h
        · rename_i b' r' h1
          have hne : r' ≠ [] := by
            rintro rfl
            cases n with
            | zero => simp [pMore] at h
            | succ n => simp [pMore, sk] at h
          rw [hp _ _ _ _ h1 hne]
          exact pMore_app q hp e n m b' r' b r (by omega) h
        · simp at h
      · rename_i hc
        rw [if_neg hc]
        split at h
        · rename_i he
          rw [if_pos he]
          simp only [Option.some.injEq, Prod.mk.injEq] at h
          obtain ⟨rfl, rfl⟩ := h; rfl
        · simp at h
theorem pSev_app {σ : Type} {p : σ → Bs → Option (σ × Bs)} (q : Bs) (hp : ∀ a s b r, p a s = some (b, r) → r ≠ [] → p a (s ++ q) = some (b, r ++ q)) (hn : ∀ a s, sk s = [] → p a s = none) (e : UInt8)
    {a b : σ} {s r : Bs} (h : pSev p e a s = some (b, r)) : pSev p e a (s ++ q) = some (b, r ++ q) := by
  unfold pSev at h ⊢
  cases hs : sk s with
  | nil =>
    rw [hs] at h
    simp [hn a s hs] at h
  | cons c t =>
    rw [hs] at h
    rw [sk_app hs q]
    simp only [List.head?_cons, Option.some.injEq, List.tail_cons] at h ⊢
    split at h
    · rename_i hc
      rw [if_pos hc]
      simp only [Option.some.injEq, Prod.mk.injEq] at h
      obtain ⟨rfl, rfl⟩ := h; rfl
    · rename_i hc
      rw [if_neg hc]
      split at h
      · rename_i b' r' h1
        have hne : r' ≠ [] := by rintro rfl; simp [pMore, sk] at h
        rw [hp _ _ _ _ h1 hne]
        exact pMore_app q hp e _ _ b' r' b r (by simp) h
      · simp at h
theorem pVal_sknil (u : Bool) (d : Nat) (s : Bs) (h : sk s = []) : pVal u d s = none := by
  cases d <;> rw [pVal, h]
theorem pMem_app (pv : Bs → Option (J × Bs)) (q : Bs) (hp : ∀ s j r, pv s = some (j, r) → r ≠ [] → pv (s ++ q) = some (j, r ++ q)) (a : List (Bs × J)) (s : Bs) (b : List (Bs × J)) (r : Bs)
    (h : pMem false pv a s = some (b, r)) (hr : r ≠ []) : pMem false pv a (s ++ q) = some (b, r ++ q) := by
  unfold pMem at h ⊢
  split at h
  · simp at h
  · rename_i c t hs
    rw [sk_app hs q]
    simp only
    split at h
    · rename_i hc
      rw [if_pos hc]
      split at h
      · simp at h
      · rename_i k z h1
        rw [pStr_app _ q (Nat.le_refl _) h1]
        simp only
        split at h
        · simp at h
        · rename_i hl
          rw [if_neg hl]
          split at h
          · simp at h
          · rename_i c2 q2 hs2
            rw [sk_app hs2 q]
            simp only
            split at h
            · rename_i hc2
              rw [if_pos hc2]
              simp only [Option.map_eq_some_iff, Prod.mk.injEq] at h
              obtain ⟨⟨x, y⟩, h2, rfl, rfl⟩ := h
              rw [hp _ _ _ h2 hr]; rfl
            · simp at h
    · simp at h
theorem pVal_app : ∀ (d : Nat) (s : Bs) (j : J) (r : Bs) (q : Bs), pVal false d s = some (j, r) → Shut r q → pVal false d (s ++ q) = some (j, r ++ q)
  | 0, s, j, r, q, h, hq => by
    unfold pVal at h ⊢
    split at h
    · simp at h
    · rename_i c t hs
      rw [sk_app hs q]
      simp only
      split at h
      · simp at h
      · rename_i hc
        rw [if_neg hc]
        exact pSca_app h q hq
  | d + 1, s, j, r, q, h, hq => by
    unfold pVal at h ⊢
    split at h
    · simp at h
    · rename_i c t hs
      rw [sk_app hs q]
      simp only
      split at h
      · rename_i hc
        rw [if_pos hc]
        simp only [Option.map_eq_some_iff, Prod.mk.injEq] at h
        obtain ⟨⟨x, z⟩, h2, rfl, rfl⟩ := h
        rw [pSev_app q (pMem_app (pVal false d) q (fun s j r h hr => pVal_app d s j r q h (.inl hr))) (fun a s hs => by simp [pMem, hs]) 125 h2]; rfl
      · rename_i hc
        rw [if_neg hc]
        split at h
        · rename_i hc2
          rw [if_pos hc2]
          simp only [Option.map_eq_some_iff, Prod.mk.injEq] at h
          obtain ⟨⟨x, z⟩, h2, rfl, rfl⟩ := h
          rw [pSev_app q ?_ (fun a s hs => by simp [pEl, pVal_sknil _ _ _ hs]) 93 h2]
          · rfl
          · intro a s b r hh hr
            unfold pEl at hh ⊢
            simp only [Option.map_eq_some_iff, Prod.mk.injEq] at hh
            obtain ⟨⟨x, z⟩, h3, rfl, rfl⟩ := hh
            rw [pVal_app d _ _ _ q h3 (.inl hr)]; rfl
        · rename_i hc2
          rw [if_neg hc2]
          exact pSca_app h q hq
/-! ### depth -/
theorem pMore_sub {σ : Type} {p p' : σ → Bs → Option (σ × Bs)} (Q : σ → Prop) (hp : ∀ a s b r, p a s = some (b, r) → Q b → Q a ∧ p' a s = some (b, r)) (e : UInt8) :
    ∀ (n : Nat) (a : σ) (s : Bs) (b : σ) (r : Bs), pMore p e n a s = some (b, r) → Q b → Q a ∧ pMore p' e n a s = some (b, r)
  | 0, a, s, b, r, h, _ => by simp [pMore] at h
  | n + 1, a, s, b, r, h, hb => by
    unfold pMore at h ⊢
    split at h
    · simp at h
    · rename_i c t hs
      split at h
      · rename_i hc
        rw [if_pos hc]
        split at h
        · rename_i b' r' h1
          obtain ⟨q1, g1⟩ := pMore_sub Q hp e n b' r' b r h hb
          obtain ⟨q2, g2⟩ := hp _ _ _ _ h1 q1
          rw [g2]
          exact ⟨q2, g1⟩
        · simp at h
      · rename_i hc
        rw [if_neg hc]
        split at h
        · rename_i he
          rw [if_pos he]
          simp only [Option.some.injEq, Prod.mk.injEq] at h
          obtain ⟨rfl, rfl⟩ := h; exact ⟨hb, rfl⟩
        · simp at h
theorem pSev_sub {σ : Type} {p p' : σ → Bs → Option (σ × Bs)} (Q : σ → Prop) (hp : ∀ a s b r, p a s = some (b, r) → Q b → Q a ∧ p' a s = some (b, r)) (e : UInt8)
    {a b : σ} {s r : Bs} (h : pSev p e a s = some (b, r)) (hb : Q b) : pSev p' e a s = some (b, r) := by
  unfold pSev at h ⊢
  split at h
  · rename_i hc; rw [if_pos hc]; exact h
  · rename_i hc
    rw [if_neg hc]
    split at h
    · rename_i b' r' h1
      obtain ⟨q1, g1⟩ := pMore_sub Q hp e _ _ _ _ _ h hb
      obtain ⟨_, g2⟩ := hp _ _ _ _ h1 q1
      rw [g2]; exact g1
    · simp at h
theorem ofL_mem {α : Type} {l : List (Bs × α)} {p : Bs × α} (hn : Nod l) (h : p ∈ l) : p ∈ ofL l := by
  obtain ⟨k, v⟩ := p
  have : lookK k l = some v := by
    induction l with
    | nil => simp at h
    | cons q l ih =>
      obtain ⟨a, x⟩ := q
      unfold Nod at hn
      rw [List.map_cons, List.nodup_cons] at hn
      rcases List.mem_cons.1 h with h | h
      · simp only [Prod.mk.injEq] at h
        simp [lookK, h.1, h.2]
      · have : a ≠ k := by rintro rfl; exact hn.1 (List.mem_map.2 ⟨_, h, rfl⟩)
        simp [lookK, this, ih hn.2 h]
  exact lookK_mem (by rw [lookK_ofL _ _ hn]; exact this)
theorem pMem_nod {u : Bool} {pv : Bs → Option (J × Bs)} {a : List (Bs × J)} {s : Bs} {b : List (Bs × J)} {r : Bs} (h : pMem u pv a s = some (b, r)) :
    ∃ k x, b = a ++ [(k, x)] ∧ lookK k a = none ∧ ∃ z, pv z = some (x, r) ∧ ∀ pv' : Bs → Option (J × Bs), pv' z = some (x, r) → pMem u pv' a s = some (b, r) := by
  unfold pMem at h
  split at h
  · simp at h
  · rename_i c t hs
    split at h
    · rename_i hc
      split at h
      · simp at h
      · rename_i k z h1
        split at h
        · simp at h
        · rename_i hl
          split at h
          · simp at h
          · rename_i c2 q2 hs2
            split at h
            · rename_i hc2
              simp only [Option.map_eq_some_iff, Prod.mk.injEq] at h
              obtain ⟨⟨x, y⟩, h2, rfl, rfl⟩ := h
              refine ⟨k, x, rfl, by simpa using hl, q2, h2, ?_⟩
              intro pv' h3
              simp only [pMem, hs, if_pos hc, h1, if_neg hl, hs2, if_pos hc2, h3, Option.map_some]
            · simp at h
    · simp at h
theorem pMore_inv {σ : Type} {p : σ → Bs → Option (σ × Bs)} (I : σ → Prop) (hp : ∀ a s b r, I a → p a s = some (b, r) → I b) (e : UInt8) :
    ∀ (n : Nat) (a : σ) (s : Bs) (b : σ) (r : Bs), I a → pMore p e n a s = some (b, r) → I b
  | 0, a, s, b, r, _, h => by simp [pMore] at h
  | n + 1, a, s, b, r, ha, h => by
    unfold pMore at h
    split at h
    · simp at h
    · split at h
      · split at h
        · rename_i b' r' h1
          exact pMore_inv I hp e n b' r' b r (hp _ _ _ _ ha h1) h
        · simp at h
      · split at h
        · simp only [Option.some.injEq, Prod.mk.injEq] at h
          obtain ⟨rfl, rfl⟩ := h; exact ha
        · simp at h
theorem pSev_inv {σ : Type} {p : σ → Bs → Option (σ × Bs)} (I : σ → Prop) (hp : ∀ a s b r, I a → p a s = some (b, r) → I b) (e : UInt8) {a b : σ} {s r : Bs} (ha : I a) (h : pSev p e a s = some (b, r)) : I b := by
  unfold pSev at h
  split at h
  · simp only [Option.some.injEq, Prod.mk.injEq] at h
    obtain ⟨rfl, _⟩ := h; exact ha
  · split at h
    · rename_i b' r' h1
      exact pMore_inv I hp e _ b' r' b r (hp _ _ _ _ ha h1) h
    · simp at h
theorem pVal_down (u : Bool) : ∀ (d : Nat) (s : Bs) (j : J) (r : Bs), pVal u (d + 1) s = some (j, r) → WF d j → pVal u d s = some (j, r)
  | 0, s, j, r, h, hw => by
    unfold pVal at h ⊢
    split at h
    · simp at h
    · rename_i c t hs
      split at h
      · simp only [Option.map_eq_some_iff, Prod.mk.injEq] at h
        obtain ⟨⟨x, z⟩, _, rfl, _⟩ := h
        simp [WF] at hw
      · rename_i hc
        split at h
        · simp only [Option.map_eq_some_iff, Prod.mk.injEq] at h
          obtain ⟨⟨x, z⟩, _, rfl, _⟩ := h
          simp [WF] at hw
        · rename_i hc2
          rw [if_neg (by intro g; rcases g with g | g; exact hc g; exact hc2 g)]
          exact h
  | d + 1, s, j, r, h, hw => by
    rw [pVal] at h ⊢
    split at h
    · simp at h
    · rename_i c t hs
      split at h
      · rename_i hc
        rw [if_pos hc]
        simp only [Option.map_eq_some_iff, Prod.mk.injEq] at h
        obtain ⟨⟨x, z⟩, h2, rfl, rfl⟩ := h
        have hn : Nod x := pSev_inv Nod (fun a s b r ha h => by
          obtain ⟨k, y, rfl, h1, _⟩ := pMem_nod h
          exact (nod_snoc _ _ _).2 ⟨ha, h1⟩) 125 (by simp [Nod]) h2
        simp only [WF, WFm_iff] at hw
        rw [pSev_sub (fun l : List (Bs × J) => ∀ p ∈ l, WF d p.2) (p' := pMem u (pVal u d)) ?_ 125 h2 (fun p hp => (hw.2 p (ofL_mem hn hp)).2)]
        · rfl
        · intro a s b r hh hb
          obtain ⟨k, y, rfl, h1, q, h3, h4⟩ := pMem_nod hh
          refine ⟨fun p hp => hb p (by simp [hp]), h4 _ (pVal_down u d _ _ _ h3 (hb (k, y) (by simp)))⟩
      · rename_i hc
        rw [if_neg hc]
        split at h
        · rename_i hc2
          rw [if_pos hc2]
          simp only [Option.map_eq_some_iff, Prod.mk.injEq] at h
          obtain ⟨⟨x, z⟩, h2, rfl, rfl⟩ := h
          simp only [WF, WFs_iff] at hw
          rw [pSev_sub (fun l : List J => ∀ p ∈ l, WF d p) (p' := pEl (pVal u d)) ?_ 93 h2 hw]
          · rfl
          · intro a s b r hh hb
            unfold pEl at hh
            simp only [Option.map_eq_some_iff, Prod.mk.injEq] at hh
            obtain ⟨⟨x, z⟩, h3, rfl, rfl⟩ := hh
            refine ⟨fun p hp => hb p (by simp [hp]), ?_⟩
            rw [pEl, pVal_down u d _ _ _ h3 (hb x (by simp))]; rfl
        · rename_i hc2
          rw [if_neg hc2]
          exact h
end Go.Proofs.YtocligpfmfmihaaGreatDoor

import Derived.Test.YtocligpfmfmihabGreatDoorRound
namespace Go.Proofs.YtocligpfmfmihabGreatDoor
open Go.Lib

def encL (x : Nat) : Bs := (Utf8.encode (x : Int)).data.toList
def okR (x : Nat) : Prop := x < 55296 ∨ (57343 < x ∧ x < 1114112)
set_option maxRecDepth 100000 in
theorem encL_cases (x : Nat) (h : okR x) :
    (x < 128 ∧ encL x = [UInt8.ofNat x]) ∨ (128 ≤ x ∧ x < 2048 ∧ encL x = [UInt8.ofNat (192 + x / 64), UInt8.ofNat (128 + x % 64)]) ∨
    (2048 ≤ x ∧ x < 65536 ∧ encL x = [UInt8.ofNat (224 + x / 4096), UInt8.ofNat (128 + x / 64 % 64), UInt8.ofNat (128 + x % 64)]) ∨
    (65536 ≤ x ∧ encL x = [UInt8.ofNat (240 + x / 262144), UInt8.ofNat (128 + x / 4096 % 64), UInt8.ofNat (128 + x / 64 % 64), UInt8.ofNat (128 + x % 64)]) := by
  unfold okR at h
  have hv : Utf8.valid (x : Int) = true := by unfold Utf8.valid; simp; omega
  unfold encL Utf8.encode
  simp only [hv, if_true, Int.toNat_natCast]
  by_cases h1 : x < 128
  · exact .inl ⟨h1, by rw [if_pos h1]⟩
  · rw [if_neg h1]
    by_cases h2 : x < 2048
    · exact .inr (.inl ⟨by omega, h2, by rw [if_pos h2]⟩)
    · rw [if_neg h2]
      by_cases h3 : x < 65536
      · exact .inr (.inr (.inl ⟨by omega, h3, by rw [if_pos h3]⟩))
      · exact .inr (.inr (.inr ⟨by omega, by rw [if_neg h3]⟩))
theorem toNat_of (n : Nat) (h : n < 256) : (UInt8.ofNat n).toNat = n := by simp; omega
theorem validD_encL (x : Nat) (r : Bs) (h : okR x) : validD (encL x ++ r) = validD r := by
  rcases encL_cases x h with ⟨h1, e⟩ | ⟨h1, h2, e⟩ | ⟨h1, h2, e⟩ | ⟨h1, e⟩ <;> rw [e]
  · rw [List.singleton_append, validD_cons _ _ (by rw [toNat_of _ (by omega)]; omega)]
  · have d : decodeL ([UInt8.ofNat (192 + x / 64), UInt8.ofNat (128 + x % 64)] ++ r) = (x, 2) := by
      rw [decodeL_N]
      simp only [List.cons_append, List.nil_append, List.getD_cons_zero, List.getD_cons_succ, List.length_cons]
      rw [toNat_of (192 + x / 64) (by omega), toNat_of (128 + x % 64) (by omega)]
      unfold decodeN
      rw [if_neg (by omega), if_pos ⟨by omega, by omega, by omega⟩, if_pos (by omega)]
      simp; omega
    rw [validD_step _ (by simp), d, if_neg (by simp)]
    rfl
  · have d : decodeL ([UInt8.ofNat (224 + x / 4096), UInt8.ofNat (128 + x / 64 % 64), UInt8.ofNat (128 + x % 64)] ++ r) = (x, 3) := by
      unfold okR at h
      rw [decodeL_N]
      simp only [List.cons_append, List.nil_append, List.getD_cons_zero, List.getD_cons_succ, List.length_cons]
      rw [toNat_of (224 + x / 4096) (by omega), toNat_of (128 + x / 64 % 64) (by omega), toNat_of (128 + x % 64) (by omega)]
      unfold decodeN
      have ex : (224 + x / 4096) % 16 * 4096 + (128 + x / 64 % 64) % 64 * 64 + (128 + x % 64) % 64 = x := by omega
      rw [if_neg (by omega), if_neg (by omega), if_pos ⟨by omega, ⟨by omega, by omega⟩, by omega, by omega⟩, ex, if_pos (by omega)]
    rw [validD_step _ (by simp), d, if_neg (by simp)]
    rfl
  · have d : decodeL ([UInt8.ofNat (240 + x / 262144), UInt8.ofNat (128 + x / 4096 % 64), UInt8.ofNat (128 + x / 64 % 64), UInt8.ofNat (128 + x % 64)] ++ r) = (x, 4) := by
      unfold okR at h
      rw [decodeL_N]
      simp only [List.cons_append, List.nil_append, List.getD_cons_zero, List.getD_cons_succ, List.length_cons]
      rw [toNat_of (240 + x / 262144) (by omega), toNat_of (128 + x / 4096 % 64) (by omega), toNat_of (128 + x / 64 % 64) (by omega), toNat_of (128 + x % 64) (by omega)]
      unfold decodeN
      have ex : (240 + x / 262144) % 8 * 262144 + (128 + x / 4096 % 64) % 64 * 4096 + (128 + x / 64 % 64) % 64 * 64 + (128 + x % 64) % 64 = x := by omega
      rw [if_neg (by omega), if_neg (by omega), if_neg (by omega), if_pos ⟨by omega, ⟨by omega, by omega⟩, ⟨by omega, by omega⟩, by omega, by omega⟩, ex, if_pos (by omega)]
    rw [validD_step _ (by simp), d, if_neg (by simp)]
    rfl
theorem hexV_lt {c : UInt8} {y : Nat} (h : hexV c = some y) : y < 16 := by
  unfold hexV at h
  have a1 := UInt8.le_iff_toNat_le (a := c) (b := 57)
  have a2 := UInt8.le_iff_toNat_le (a := c) (b := 102)
  have a3 := UInt8.le_iff_toNat_le (a := c) (b := 70)
  simp at a1 a2 a3
  repeat' split at h
  all_goals simp only [Option.some.injEq, reduceCtorEq] at h
  all_goals rename_i g
  · have := a1.1 g.2; omega
  · have := a2.1 g.2; omega
  · have := a3.1 g.2; omega
theorem hex4_lt {q z : Bs} {y : Nat} (h : hex4 q = some (y, z)) : y < 65536 ∧ q.length = z.length + 4 := by
  unfold hex4 at h
  split at h
  · simp only [Option.bind_eq_some_iff, Option.map_eq_some_iff, Prod.mk.injEq] at h
    obtain ⟨a, g1, b, g2, c, g3, d, g4, rfl, rfl⟩ := h
    have := hexV_lt g1; have := hexV_lt g2; have := hexV_lt g3; have := hexV_lt g4
    exact ⟨by omega, by simp⟩
  · simp at h
set_option maxRecDepth 100000 in
/-- An escape stands for a rune; canonical JSON writes it in no more bytes. -/
theorem esc_ok {s r : Bs} {x : Nat} (h : esc s = some (x, r)) : okR x ∧ ((encL x).flatMap cB).length + r.length ≤ s.length + 1 := by
  have small : ∀ x : Nat, x < 128 → (encL x).flatMap cB = cB (UInt8.ofNat x) := by
    intro x hx; unfold encL; rw [enc_lt x hx]; simp
  have cBlen : ∀ c : UInt8, (cB c).length ≤ 6 := by
    intro c; unfold cB; repeat' split
    all_goals simp
  unfold esc at h
  split at h
  · simp at h
  · rename_i c t
    split at h
    · rename_i hc
      simp at h; obtain ⟨rfl, rfl⟩ := h
      rcases hc with rfl | rfl | rfl
      all_goals exact ⟨by unfold okR; simp, by rw [small _ (by decide)]; simp [cB]; omega⟩
    · split at h
      · simp at h; obtain ⟨rfl, rfl⟩ := h; exact ⟨by unfold okR; simp, by rw [small _ (by decide)]; simp [cB]; omega⟩
      · split at h
        · simp at h; obtain ⟨rfl, rfl⟩ := h; exact ⟨by unfold okR; simp, by rw [small _ (by decide)]; simp [cB]; omega⟩
        · split at h
          · simp at h; obtain ⟨rfl, rfl⟩ := h; exact ⟨by unfold okR; simp, by rw [small _ (by decide)]; simp [cB]; omega⟩
          · split at h
            · simp at h; obtain ⟨rfl, rfl⟩ := h; exact ⟨by unfold okR; simp, by rw [small _ (by decide)]; simp [cB]; omega⟩
            · split at h
              · simp at h; obtain ⟨rfl, rfl⟩ := h; exact ⟨by unfold okR; simp, by rw [small _ (by decide)]; simp [cB]; omega⟩
              · split at h
                · have high : ∀ x, okR x → 128 ≤ x → (encL x).flatMap cB = encL x ∧ (encL x).length ≤ 4 := by
                    intro x ho hx
                    have hb : ∀ b ∈ encL x, 128 ≤ b.toNat := by
                      unfold okR at ho
                      rcases encL_cases x ho with ⟨h1, e⟩ | ⟨h1, h2, e⟩ | ⟨h1, h2, e⟩ | ⟨h1, e⟩ <;> rw [e]
                      · omega
                      all_goals
                        intro b hb
                        simp only [List.mem_cons, List.not_mem_nil, or_false] at hb
                      · rcases hb with rfl | rfl <;> rw [toNat_of _ (by omega)] <;> omega
                      · rcases hb with rfl | rfl | rfl <;> rw [toNat_of _ (by omega)] <;> omega
                      · rcases hb with rfl | rfl | rfl | rfl <;> rw [toNat_of _ (by omega)] <;> omega
                    refine ⟨flat_high _ hb, ?_⟩
                    rcases encL_cases x ho with ⟨h1, e⟩ | ⟨h1, h2, e⟩ | ⟨h1, h2, e⟩ | ⟨h1, e⟩ <;> rw [e] <;> simp
                  have any : ∀ x, okR x → ((encL x).flatMap cB).length ≤ 6 := by
                    intro x ho
                    by_cases hx : x < 128
                    · rw [small x hx]; exact cBlen _
                    · obtain ⟨e, g⟩ := high x ho (by omega); rw [e]; omega
                  unfold escU at h
                  split at h
                  · simp at h
                  · rename_i x' r' h1
                    obtain ⟨g1, g2⟩ := hex4_lt h1
                    split at h
                    · rename_i hx
                      simp at h; obtain ⟨rfl, rfl⟩ := h
                      have ho : okR x' := by unfold okR; omega
                      refine ⟨ho, ?_⟩
                      have := any x' ho
                      simp only [List.length_cons]; omega
                    · split at h
                      · simp at h
                      · rename_i hx hx2
                        split at h
                        · split at h
                          · split at h
                            · rename_i y z h2
                              obtain ⟨k1, k2⟩ := hex4_lt h2
                              split at h
                              · rename_i hy
                                simp at h; obtain ⟨rfl, rfl⟩ := h
                                have ho : okR (65536 + (x' - 55296) * 1024 + (y - 56320)) := by unfold okR; omega
                                refine ⟨ho, ?_⟩
                                have := any _ ho
                                simp only [List.length_cons] at g2 ⊢; omega
                              · simp at h
                            · simp at h
                          · simp at h
                        · simp at h
                · simp at h
/-- A string of a text that is UTF-8 is UTF-8; canonical JSON writes it in no more bytes. -/
theorem pStr_ok : ∀ (n : Nat) {s o r : Bs}, s.length ≤ n → pStr true s = some (o, r) → validD o = true ∧ (o.flatMap cB).length + 1 + r.length ≤ s.length
  | n, [], o, r, _, h => by rw [pStr_nil] at h; simp at h
  | 0, c :: t, o, r, hn, _ => by simp at hn
  | n + 1, c :: t, o, r, hn, h => by
    rw [pStr_cons] at h
    split at h
    · simp at h; obtain ⟨rfl, rfl⟩ := h; exact ⟨rfl, by simp; omega⟩
    · rename_i h34
      split at h
      · simp at h
      · rename_i o' r' h1
        have g := ch_len h1
        simp only [Option.map_eq_some_iff, Prod.mk.injEq] at h
        obtain ⟨⟨x, r''⟩, h2, rfl, rfl⟩ := h
        obtain ⟨v1, v2⟩ := pStr_ok n (by simp at g hn; omega) h2
        have key : validD (o' ++ x) = validD x ∧ (o'.flatMap cB).length + r'.length ≤ (c :: t).length := by
          unfold ch at h1
          split at h1
          · simp at h1
          · rename_i h32
            split at h1
            · rename_i h92
              simp only [Option.map_eq_some_iff, Prod.mk.injEq] at h1
              obtain ⟨⟨y, q⟩, h3, rfl, rfl⟩ := h1
              obtain ⟨k1, k2⟩ := esc_ok h3
              have e1 : (Utf8.encode ((y : Nat) : Int)).data.toList = encL y := by rw [encL]
              rw [e1]
              refine ⟨validD_encL y x k1, ?_⟩
              rw [List.length_cons]; exact k2
            · rename_i h92
              simp only [if_true] at h1
              split at h1
              · simp at h1
              · rename_i hb
                simp only [Option.some.injEq, Prod.mk.injEq] at h1
                obtain ⟨rfl, rfl⟩ := h1
                have hk := decodeL_le (c :: t) (by simp)
                have hw := decodeL_width (c :: t)
                have e := dec_own (c :: t) x (by simp) hb
                constructor
                · have hlen : ((c :: t).take (decodeL (c :: t)).2).length = (decodeL (c :: t)).2 := by simp only [List.length_take]; omega
                  rw [validD_step _ (by intro h0; have := congrArg List.length h0; rw [List.length_append, hlen] at this; simp at this; omega), e, if_neg hb]
                  rw [List.drop_append_of_le_length (by omega), List.drop_eq_nil_of_le (by omega), List.nil_append]
                · by_cases hc : c.toNat < 128
                  · rw [decodeL_ascii c t hc]
                    have : cB c = [c] := by
                      have c8 : c ≠ 8 := by rintro rfl; exact h32 (by decide)
                      have c12 : c ≠ 12 := by rintro rfl; exact h32 (by decide)
                      have c10 : c ≠ 10 := by rintro rfl; exact h32 (by decide)
                      have c13 : c ≠ 13 := by rintro rfl; exact h32 (by decide)
                      have c9 : c ≠ 9 := by rintro rfl; exact h32 (by decide)
                      simp [cB, h34, h92, c8, c12, c10, c13, c9, h32]
                    simp [this]; omega
                  · obtain ⟨_, hh⟩ := dec_high (c :: t) (by simp) (by simpa using hc)
                    rw [flat_high _ (getD_take hh hk), List.length_take, List.length_drop]
                    omega
        refine ⟨by rw [key.1]; exact v1, ?_⟩
        rw [List.flatMap_append, List.length_append]
        simp only [List.length_cons] at *
        omega

/-! ### numbers -/
theorem decN_natOf (d : Bs) (hd : ∀ c ∈ d, isDg c = true) (hne : d ≠ []) (h0 : d.head? ≠ some 48 ∨ d = [48]) : decN (natOf d) = d := by
  have dgv : ∀ c : UInt8, isDg c = true → 48 ≤ c.toNat ∧ c.toNat ≤ 57 := by
    intro c hc
    unfold isDg at hc
    simp only [Bool.and_eq_true, decide_eq_true_eq] at hc
    have a := UInt8.le_iff_toNat_le.1 hc.1
    have b := UInt8.le_iff_toNat_le.1 hc.2
    simp at a b; omega
  have back : ∀ c : UInt8, isDg c = true → UInt8.ofNat (48 + (c.toNat - 48)) = c := by
    intro c hc
    have := dgv c hc
    rw [show 48 + (c.toNat - 48) = c.toNat by omega]; simp
  have pos : ∀ n (l : Bs), l.length = n → (∀ c ∈ l, isDg c = true) → l ≠ [] → l.head? ≠ some 48 → 0 < natOf l ∧ decN (natOf l) = l := by
    intro n
    induction n with
    | zero => intro l hl _ hne; exact absurd (List.eq_nil_of_length_eq_zero hl) hne
    | succ n ih =>
      intro l hl hd hne h0
      obtain ⟨m, c, rfl⟩ : ∃ m c, l = m ++ [c] := ⟨l.dropLast, l.getLast hne, (List.dropLast_concat_getLast hne).symm⟩
      have hc := hd c (by simp)
      have hv := dgv c hc
      rw [natOf_snoc]
      cases m with
      | nil =>
        simp only [List.nil_append, List.head?_cons, ne_eq, Option.some.injEq] at h0
        have h48 : c.toNat ≠ 48 := fun e => h0 (by rw [← ofNat_toNat' c, e]; rfl)
        simp only [natOf, List.foldl_nil, List.nil_append]
        refine ⟨by omega, ?_⟩
        rw [decN, if_pos (by omega), show 48 + (0 * 10 + (c.toNat - 48)) = 48 + (c.toNat - 48) by omega, back c hc]
      | cons a m =>
        obtain ⟨p, e⟩ := ih (a :: m) (by simpa using hl) (fun x hx => hd x (List.mem_append.2 (.inl hx))) (by simp) (by simpa using h0)
        refine ⟨by omega, ?_⟩
        rw [decN, if_neg (by omega), show (natOf (a :: m) * 10 + (c.toNat - 48)) / 10 = natOf (a :: m) by omega, e, show (natOf (a :: m) * 10 + (c.toNat - 48)) % 10 = c.toNat - 48 by omega, back c hc]
  rcases h0 with h0 | rfl
  · exact (pos d.length d rfl hd hne h0).2
  · have e : natOf [48] = 0 := by decide
    rw [e, decN]; rfl
theorem pNat_ok {s r : Bs} {n : Nat} (h : pNat s = some (n, r)) : n ≤ maxNum ∧ (decN n).length + r.length = s.length := by
  unfold pNat at h
  split at h
  · rename_i hw
    simp only [Option.some.injEq, Prod.mk.injEq] at h
    obtain ⟨rfl, rfl⟩ := h
    simp only [Bool.and_eq_true, decide_eq_true_eq] at hw
    refine ⟨hw.2, ?_⟩
    have hd : ∀ c ∈ dgs s, isDg c = true := by
      intro c hc
      unfold dgs at hc
      exact List.all_eq_true.1 (List.all_takeWhile) c hc
    have hwh := hw.1
    unfold whole at hwh
    simp only [Bool.or_eq_true, beq_iff_eq, Bool.and_eq_true, bne_iff_ne, ne_eq] at hwh
    have hne : dgs s ≠ [] := by rcases hwh with h | h; rw [h]; simp; exact h.1
    rw [decN_natOf (dgs s) hd hne (by rcases hwh with h | h; exact .inr h; exact .inl h.2)]
    have := congrArg List.length (List.takeWhile_append_dropWhile (p := isDg) (l := s))
    rw [List.length_append] at this
    exact this
  · simp at h
theorem pNum_ok {s r : Bs} {n : Int} (h : pNum s = some (n, r)) : n.natAbs ≤ maxNum ∧ (cNum n).length + r.length = s.length := by
  unfold pNum at h
  split at h
  · simp at h
  · split at h
    · split at h
      · rename_i m q h1
        obtain ⟨k1, k2⟩ := pNat_ok h1
        split at h
        · simp at h
        · simp only [Option.some.injEq, Prod.mk.injEq] at h
          obtain ⟨rfl, rfl⟩ := h
          have e : (-(m : Int)).natAbs = m := by omega
          refine ⟨by omega, ?_⟩
          rw [cNum, if_pos (by omega), e]
          simp only [List.length_cons]; omega
      · simp at h
    · simp only [Option.map_eq_some_iff, Prod.mk.injEq] at h
      obtain ⟨⟨x, q⟩, h1, rfl, rfl⟩ := h
      obtain ⟨k1, k2⟩ := pNat_ok h1
      refine ⟨by simpa using k1, ?_⟩
      rw [cNum, if_neg (by simp)]
      simpa using k2
theorem pSca_ok {d : Nat} {c : UInt8} {t r : Bs} {j : J} (h : pSca true c t = some (j, r)) : WF d j ∧ (cJ j).length + r.length ≤ (c :: t).length := by
  unfold pSca at h
  split at h
  · simp only [Option.map_eq_some_iff, Prod.mk.injEq] at h
    obtain ⟨⟨x, q⟩, h1, rfl, rfl⟩ := h
    obtain ⟨k1, k2⟩ := pStr_ok _ (Nat.le_refl _) h1
    refine ⟨by simpa [WF] using k1, ?_⟩
    rw [cJ, cStr]
    simp only [List.length_cons, List.length_append, List.length_nil] at k2 ⊢
    omega
  · split at h
    · simp only [Option.map_eq_some_iff, Prod.mk.injEq] at h
      obtain ⟨⟨x, q⟩, h1, rfl, rfl⟩ := h
      obtain ⟨k1, k2⟩ := pNum_ok h1
      exact ⟨by simpa [WF] using k1, by rw [cJ]; exact Nat.le_of_eq k2⟩
    · unfold pWord at h
      repeat' split at h
      all_goals first
        | (simp at h; done)
        | (simp only [Option.some.injEq, Prod.mk.injEq] at h
           obtain ⟨rfl, rfl⟩ := h
           refine ⟨by simp [WF], ?_⟩
           rename_i h1
           have := congrArg List.length h1
           simp only [List.length_take, List.length_cons, List.length_nil] at this
           rw [List.length_drop]
           simp [cJ]
           omega)

/-! ### lists -/
theorem pMore_ok {σ : Type} {p : σ → Bs → Option (σ × Bs)} (I : σ → Prop) (M : σ → Nat) (hp : ∀ a s b r, I a → p a s = some (b, r) → I b ∧ 0 < M b ∧ M b + r.length ≤ M a + s.length + 1) (e : UInt8) :
    ∀ (n : Nat) (a : σ) (s : Bs) (b : σ) (r : Bs), I a → 0 < M a → pMore p e n a s = some (b, r) → I b ∧ 0 < M b ∧ M b + r.length + 1 ≤ M a + s.length
  | 0, a, s, b, r, _, _, h => by simp [pMore] at h
  | n + 1, a, s, b, r, ha, hm, h => by
    unfold pMore at h
    split at h
    · simp at h
    · rename_i c t hs
      have hl := sk_len s
      rw [hs] at hl
      simp only [List.length_cons] at hl
      split at h
      · split at h
        · rename_i b' r' h1
          obtain ⟨k1, k2, k3⟩ := hp _ _ _ _ ha h1
          obtain ⟨g1, g2, g3⟩ := pMore_ok I M hp e n b' r' b r k1 k2 h
          exact ⟨g1, g2, by omega⟩
        · simp at h
      · split at h
        · simp only [Option.some.injEq, Prod.mk.injEq] at h
          obtain ⟨rfl, rfl⟩ := h
          exact ⟨ha, hm, by omega⟩
        · simp at h
theorem pSev_ok {σ : Type} {p : σ → Bs → Option (σ × Bs)} (I : σ → Prop) (M : σ → Nat) (hp : ∀ a s b r, I a → p a s = some (b, r) → I b ∧ 0 < M b ∧ M b + r.length ≤ M a + s.length + 1) (e : UInt8)
    {a b : σ} {s r : Bs} (ha : I a) (h : pSev p e a s = some (b, r)) : I b ∧ ((b = a ∧ r.length + 1 ≤ s.length) ∨ (0 < M b ∧ M b + r.length ≤ M a + s.length)) := by
  unfold pSev at h
  split at h
  · rename_i hh
    simp only [Option.some.injEq, Prod.mk.injEq] at h
    obtain ⟨rfl, rfl⟩ := h
    have hl := sk_len s
    cases hs : sk s with
    | nil => rw [hs] at hh; simp at hh
    | cons c t =>
      rw [hs] at hl
      simp only [List.length_cons, List.tail_cons] at hl ⊢
      exact ⟨ha, .inl ⟨by simp, by omega⟩⟩
  · split at h
    · rename_i b' r' h1
      obtain ⟨k1, k2, k3⟩ := hp _ _ _ _ ha h1
      obtain ⟨g1, g2, g3⟩ := pMore_ok I M hp e _ b' r' b r k1 k2 h
      exact ⟨g1, .inr ⟨g2, by omega⟩⟩
    · simp at h
def sumM {α : Type} (f : α → Bs) (l : List α) : Nat := (l.map fun x => (f x).length + 1).sum
theorem joinC_len {α : Type} (f : α → Bs) (l : List α) : (joinC (l.map f)).length + (if l = [] then 0 else 1) = sumM f l := by
  cases l with
  | nil => simp [joinC, sumM]
  | cons x l =>
    rw [List.map_cons, joinC_cons, List.length_append]
    have : ∀ l : List α, (((l.map f).flatMap (fun y => 44 :: y)).length) = sumM f l := by
      intro l
      induction l with
      | nil => simp [sumM]
      | cons y l ih => simp [sumM] at ih ⊢; omega
    rw [this]
    simp [sumM]; omega
theorem sumM_insK (k : Bs) (v : J) (l : List (Bs × J)) (h : lookK k l = none) : sumM cMem (insK k v l) = sumM cMem l + ((cMem (k, v)).length + 1) := by
  induction l with
  | nil => simp [insK, sumM]
  | cons q l ih =>
    obtain ⟨a, x⟩ := q
    have hne : a ≠ k := by intro e; simp [lookK, e] at h
    rw [lookK, if_neg hne] at h
    rw [insK]
    split
    · simp [sumM]; omega
    · have := ih h
      simp [sumM] at this ⊢; omega
theorem sumM_ofL (l : List (Bs × J)) (h : Nod l) : sumM cMem (ofL l) = sumM cMem l := by
  have : ∀ n (l : List (Bs × J)), l.length = n → Nod l → sumM cMem (ofL l) = sumM cMem l := by
    intro n
    induction n with
    | zero => intro l hl _; obtain rfl := List.eq_nil_of_length_eq_zero hl; rfl
    | succ n ih =>
      intro l hl hn
      have hne : l ≠ [] := by intro e; subst e; simp at hl
      obtain ⟨m, p, rfl⟩ : ∃ m p, l = m ++ [p] := ⟨l.dropLast, l.getLast hne, (List.dropLast_concat_getLast hne).symm⟩
      obtain ⟨a, x⟩ := p
      obtain ⟨h1, h2⟩ := (nod_snoc m a x).1 hn
      rw [ofL_snoc, sumM_insK _ _ _ (by rw [lookK_ofL _ _ h1]; exact h2), ih m (by simpa using hl) h1]
      simp [sumM]
  exact this l.length l rfl h
theorem mem_ofL {α : Type} {l : List (Bs × α)} {p : Bs × α} (h : p ∈ ofL l) : p ∈ l := by
  have : ∀ (l a : List (Bs × α)), p ∈ l.foldl (fun a p => insK p.1 p.2 a) a → p ∈ a ∨ p ∈ l := by
    intro l
    induction l with
    | nil => intro a h; exact .inl h
    | cons q l ih =>
      intro a h
      rcases ih _ h with h | h
      · rcases mem_insK h with rfl | h
        · exact .inr (by simp)
        · exact .inl h
      · exact .inr (by simp [h])
  rcases this l [] h with h | h
  · simp at h
  · exact h
theorem ofL_nil {α : Type} : ofL ([] : List (Bs × α)) = [] := rfl
theorem pVal_ok : ∀ (d : Nat) (s : Bs) (j : J) (r : Bs), pVal true d s = some (j, r) → WF d j ∧ (cJ j).length + r.length ≤ s.length
  | 0, s, j, r, h => by
    unfold pVal at h
    split at h
    · simp at h
    · rename_i c t hs
      have hl := sk_len s
      rw [hs] at hl
      split at h
      · simp at h
      · obtain ⟨k1, k2⟩ := pSca_ok (d := 0) h
        exact ⟨k1, by omega⟩
  | d + 1, s, j, r, h => by
    unfold pVal at h
    split at h
    · simp at h
    · rename_i c t hs
      have hl := sk_len s
      rw [hs] at hl
      simp only [List.length_cons] at hl
      split at h
      · simp only [Option.map_eq_some_iff, Prod.mk.injEq] at h
        obtain ⟨⟨l, q⟩, h2, rfl, rfl⟩ := h
        have hp : ∀ (a : List (Bs × J)) (s : Bs) (b : List (Bs × J)) (r : Bs), (Nod a ∧ ∀ p ∈ a, validD p.1 = true ∧ WF d p.2) → pMem true (pVal true d) a s = some (b, r) →
            (Nod b ∧ ∀ p ∈ b, validD p.1 = true ∧ WF d p.2) ∧ 0 < sumM cMem b ∧ sumM cMem b + r.length ≤ sumM cMem a + s.length + 1 := by
          intro a s b r ⟨i1, i2⟩ hh
          unfold pMem at hh
          split at hh
          · simp at hh
          · rename_i c t hs
            have hl := sk_len s
            rw [hs] at hl
            simp only [List.length_cons] at hl
            split at hh
            · split at hh
              · simp at hh
              · rename_i k q1 h3
                obtain ⟨g1, g2⟩ := pStr_ok _ (Nat.le_refl _) h3
                split at hh
                · simp at hh
                · rename_i hlk
                  split at hh
                  · simp at hh
                  · rename_i c2 q2 hs2
                    have hl2 := sk_len q1
                    rw [hs2] at hl2
                    simp only [List.length_cons] at hl2
                    split at hh
                    · simp only [Option.map_eq_some_iff, Prod.mk.injEq] at hh
                      obtain ⟨⟨x, z⟩, h4, rfl, rfl⟩ := hh
                      obtain ⟨m1, m2⟩ := pVal_ok d _ _ _ h4
                      refine ⟨⟨(nod_snoc _ _ _).2 ⟨i1, by simpa using hlk⟩, ?_⟩, ?_, ?_⟩
                      · intro p hp
                        rcases List.mem_append.1 hp with hp | hp
                        · exact i2 p hp
                        · obtain rfl := List.mem_singleton.1 hp; exact ⟨g1, m1⟩
                      · simp [sumM]; omega
                      · simp [sumM, cMem, cStr] at *; omega
                    · simp at hh
            · simp at hh
        obtain ⟨⟨k1, k2⟩, k3⟩ := pSev_ok (fun l : List (Bs × J) => Nod l ∧ ∀ p ∈ l, validD p.1 = true ∧ WF d p.2) (sumM cMem) hp 125 (by constructor; simp [Nod]; simp) h2
        · refine ⟨by rw [WF, WFm_iff]; exact ⟨srt_ofL l, fun p hp => k2 p (mem_ofL hp)⟩, ?_⟩
          rw [cJ_obj]
          have e := joinC_len cMem (ofL l)
          rw [sumM_ofL l k1] at e
          simp only [List.length_cons, List.length_append, List.length_nil]
          rcases k3 with ⟨rfl, k3⟩ | ⟨k3, k4⟩
          · simp [ofL_nil, sumM] at e; simp [ofL_nil, joinC]; omega
          · have : ofL l ≠ [] := by
              intro h0; rw [h0] at e; simp [joinC] at e; omega
            rw [if_neg this] at e
            simp [sumM] at k4 e; omega
      · split at h
        · simp only [Option.map_eq_some_iff, Prod.mk.injEq] at h
          obtain ⟨⟨l, q⟩, h2, rfl, rfl⟩ := h
          have hp : ∀ (a : List J) (s : Bs) (b : List J) (r : Bs), (∀ x ∈ a, WF d x) → pEl (pVal true d) a s = some (b, r) →
              (∀ x ∈ b, WF d x) ∧ 0 < sumM cJ b ∧ sumM cJ b + r.length ≤ sumM cJ a + s.length + 1 := by
            intro a s b r i1 hh
            unfold pEl at hh
            simp only [Option.map_eq_some_iff, Prod.mk.injEq] at hh
            obtain ⟨⟨x, z⟩, h4, rfl, rfl⟩ := hh
            obtain ⟨m1, m2⟩ := pVal_ok d _ _ _ h4
            refine ⟨?_, ?_, ?_⟩
            · intro y hy
              rcases List.mem_append.1 hy with hy | hy
              · exact i1 y hy
              · obtain rfl := List.mem_singleton.1 hy; exact m1
            · simp [sumM]; omega
            · simp [sumM] at *; omega
          obtain ⟨k1, k3⟩ := pSev_ok (fun l : List J => ∀ x ∈ l, WF d x) (sumM cJ) hp 93 (by simp) h2
          · refine ⟨by rw [WF, WFs_iff]; exact k1, ?_⟩
            rw [cJ_arr]
            have e := joinC_len cJ l
            simp only [List.length_cons, List.length_append, List.length_nil]
            rcases k3 with ⟨rfl, k3⟩ | ⟨k3, k4⟩
            · simp [sumM] at e; simp [joinC]; omega
            · have : l ≠ [] := by intro h0; subst h0; simp [sumM] at k3
              rw [if_neg this] at e
              simp [sumM] at k4 e; omega
        · obtain ⟨k1, k2⟩ := pSca_ok (d := d + 1) h
          exact ⟨k1, by simp only [List.length_cons] at k2; omega⟩
/-- The tree of a text: what it is; its canonical JSON is not longer than the text. -/
theorem parse_ok {s : Bs} {j : J} (h : parse s = some j) : WF 6 j ∧ (cJ j).length ≤ s.length := by
  rw [← parse_eq] at h
  unfold pTop at h
  split at h
  · rename_i j' t h1
    split at h
    · simp only [Option.some.injEq] at h
      subst h
      obtain ⟨k1, k2⟩ := pVal_ok 6 s _ t h1
      exact ⟨k1, by omega⟩
    · simp at h
  · simp at h
end Go.Proofs.YtocligpfmfmihabGreatDoor

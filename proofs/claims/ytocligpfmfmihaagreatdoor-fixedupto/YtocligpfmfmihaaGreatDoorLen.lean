import Derived.Test.YtocligpfmfmihaaGreatDoorCore
namespace Go.Proofs.YtocligpfmfmihaaGreatDoor
open Go.Lib

def Shr {σ : Type} (p : σ → Bs → Option (σ × Bs)) : Prop := ∀ a s b r, p a s = some (b, r) → r.length ≤ s.length

theorem drop_le (p : UInt8 → Bool) (s : Bs) : (s.dropWhile p).length ≤ s.length := (List.dropWhile_suffix _).length_le
theorem pNat_le {s r : Bs} {n : Nat} (h : pNat s = some (n, r)) : r.length ≤ s.length := by
  unfold pNat at h
  split at h
  · simp only [Option.some.injEq, Prod.mk.injEq] at h
    obtain ⟨_, rfl⟩ := h
    exact drop_le _ _
  · cases h
theorem pNum_le {s r : Bs} {n : Int} (h : pNum s = some (n, r)) : r.length ≤ s.length := by
  unfold pNum at h
  split at h
  · cases h
  · split at h
    · split at h
      · rename_i hn
        have := pNat_le hn
        split at h
        · cases h
        · simp only [Option.some.injEq, Prod.mk.injEq] at h
          obtain ⟨_, rfl⟩ := h
          simp only [List.length_cons]; omega
      · cases h
    · simp only [Option.map_eq_some_iff, Prod.mk.injEq] at h
      obtain ⟨⟨x, y⟩, hn, _, rfl⟩ := h
      exact pNat_le hn
theorem pWord_le {s r : Bs} {j : J} (h : pWord s = some (j, r)) : r.length ≤ s.length := by
  unfold pWord at h
  repeat' split at h
  all_goals first
    | (cases h; done)
    | (simp only [Option.some.injEq, Prod.mk.injEq] at h; obtain ⟨_, rfl⟩ := h; simp only [List.length_drop]; omega)
theorem pSca_le {u : Bool} {c : UInt8} {t r : Bs} {j : J} (h : pSca u c t = some (j, r)) : r.length ≤ (c :: t).length := by
  unfold pSca at h
  split at h
  · simp only [Option.map_eq_some_iff, Prod.mk.injEq] at h
    obtain ⟨⟨x, y⟩, hn, _, rfl⟩ := h
    have := pStr_len t.length (Nat.le_refl _) hn
    simp only [List.length_cons]; omega
  · split at h
    · simp only [Option.map_eq_some_iff, Prod.mk.injEq] at h
      obtain ⟨⟨x, y⟩, hn, _, rfl⟩ := h
      exact pNum_le hn
    · exact pWord_le h
theorem pMore_le {σ : Type} {p : σ → Bs → Option (σ × Bs)} (hp : Shr p) {e : UInt8} : ∀ n a s b r, pMore p e n a s = some (b, r) → r.length ≤ s.length := by
  intro n
  induction n with
  | zero => intro a s b r h; simp [pMore] at h
  | succ n ih =>
    intro a s b r h
    have hs := sk_len s
    unfold pMore at h
    split at h
    · cases h
    · rename_i c t hc
      rw [hc] at hs
      simp only [List.length_cons] at hs
      split at h
      · split at h
        · rename_i b' r' hb
          have := hp _ _ _ _ hb
          have := ih _ _ _ _ h
          omega
        · cases h
      · split at h
        · simp only [Option.some.injEq, Prod.mk.injEq] at h
          obtain ⟨_, rfl⟩ := h
          omega
        · cases h
theorem pSev_le {σ : Type} {p : σ → Bs → Option (σ × Bs)} (hp : Shr p) {e : UInt8} {a b : σ} {s r : Bs} (h : pSev p e a s = some (b, r)) : r.length ≤ s.length := by
  have hs := sk_len s
  unfold pSev at h
  split at h
  · simp only [Option.some.injEq, Prod.mk.injEq] at h
    obtain ⟨_, rfl⟩ := h
    simp only [List.length_tail]; omega
  · split at h
    · rename_i hb
      have := hp _ _ _ _ hb
      have := pMore_le hp _ _ _ _ _ h
      omega
    · cases h
theorem pEl_shr {pv : Bs → Option (J × Bs)} (hv : ∀ s j r, pv s = some (j, r) → r.length ≤ s.length) : Shr (pEl pv) := by
  intro a s b r h
  unfold pEl at h
  simp only [Option.map_eq_some_iff, Prod.mk.injEq] at h
  obtain ⟨⟨x, y⟩, hn, _, rfl⟩ := h
  exact hv _ _ _ hn
theorem pMem_shr {u : Bool} {pv : Bs → Option (J × Bs)} (hv : ∀ s j r, pv s = some (j, r) → r.length ≤ s.length) : Shr (pMem u pv) := by
  intro a s b r h
  have hs := sk_len s
  unfold pMem at h
  split at h
  · cases h
  · rename_i c t hc
    rw [hc] at hs
    simp only [List.length_cons] at hs
    split at h
    · split at h
      · cases h
      · rename_i k r' hk
        have h1 := pStr_len t.length (Nat.le_refl _) hk
        have h2 := sk_len r'
        split at h
        · cases h
        · split at h
          · cases h
          · rename_i c' q hq
            rw [hq] at h2
            simp only [List.length_cons] at h2
            split at h
            · simp only [Option.map_eq_some_iff, Prod.mk.injEq] at h
              obtain ⟨⟨x, y⟩, hn, _, rfl⟩ := h
              have := hv _ _ _ hn
              show y.length ≤ s.length
              omega
            · cases h
    · cases h
theorem pVal_le {u : Bool} : ∀ (d : Nat) (s : Bs) (j : J) (r : Bs), pVal u d s = some (j, r) → r.length ≤ s.length := by
  intro d
  induction d with
  | zero =>
    intro s j r h
    have hs := sk_len s
    unfold pVal at h
    split at h
    · cases h
    · rename_i c t hc
      rw [hc] at hs
      split at h
      · cases h
      · have := pSca_le h; omega
  | succ d ih =>
    intro s j r h
    have hs := sk_len s
    unfold pVal at h
    split at h
    · cases h
    · rename_i c t hc
      rw [hc] at hs
      simp only [List.length_cons] at hs
      split at h
      · simp only [Option.map_eq_some_iff, Prod.mk.injEq] at h
        obtain ⟨⟨x, y⟩, hn, _, rfl⟩ := h
        have := pSev_le (pMem_shr ih) hn
        show y.length ≤ s.length
        omega
      · split at h
        · simp only [Option.map_eq_some_iff, Prod.mk.injEq] at h
          obtain ⟨⟨x, y⟩, hn, _, rfl⟩ := h
          have := pSev_le (pEl_shr ih) hn
          show y.length ≤ s.length
          omega
        · have := pSca_le h
          simp only [List.length_cons] at this
          omega
end Go.Proofs.YtocligpfmfmihaaGreatDoor

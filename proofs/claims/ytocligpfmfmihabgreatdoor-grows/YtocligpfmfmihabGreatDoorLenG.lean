import Derived.Test.YtocligpfmfmihabGreatDoorCoreG
namespace Go.Proofs.YtocligpfmfmihabGreatDoor
open Go.Lib

def Shr {σ : Type} (p : σ → Bs → Option (σ × Bs)) : Prop := ∀ a s b r, p a s = some (b, r) → r.length ≤ s.length

theorem drop_le (p : UInt8 → Bool) (s : Bs) : (s.dropWhile p).length ≤ s.length := (List.dropWhile_suffix _).length_le
theorem pNat_le {s r : Bs} {n : Nat} (h : pNat s = some (n, r)) : r.length ≤ s.length := by
  unfold pNat at h
  split at h
  · simp only [Option.some.injEq, Prod.mk.injEq] at h
    obtain ⟨_, rfl⟩ := h
    exact drop_le _ _
  · cases h
theorem pNum_le {s r : Bs} {n : Int} (h : pNum s = some (n, r)) : r.length ≤ s.length := by
  unfold pNum at h
  split at h
  · cases h
  · split at h
    · split at h
      · rename_i hn
        have := pNat_le hn
        split at h
        · cases h
        · simp only [Option.some.injEq, Prod.mk.injEq] at h
          obtain ⟨_, rfl⟩ := h
          simp only [List.length_cons]; omega
      · cases h
    · simp only [Option.map_eq_some_iff, Prod.mk.injEq] at h
      obtain ⟨⟨x, y⟩, hn, _, rfl⟩ := h
      exact pNat_le hn
theorem pWord_le {s r : Bs} {j : J} (h : pWord s = some (j, r)) : r.length ≤ s.length := by
  unfold pWord at h
  repeat' split at h
  all_goals first
    | (cases h; done)
    | (simp only [Option.some.injEq, Prod.mk.injEq] at h; obtain ⟨_, rfl⟩ := h; simp only [List.length_drop]; omega)
theorem pSca_le {u : Bool} {c : UInt8} {t r : Bs} {j : J} (h : pSca u c t = some (j, r)) : r.length ≤ (c :: t).length := by
  unfold pSca at h
  split at h
  · simp only [Option.map_eq_some_iff, Prod.mk.injEq] at h
    obtain ⟨⟨x, y⟩, hn, _, rfl⟩ := h
    have := pStr_len t.length (Nat.le_refl _) hn
    simp only [List.length_cons]; omega
  · split at h
    · simp only [Option.map_eq_some_iff, Prod.mk.injEq] at h
      obtain ⟨⟨x, y⟩, hn, _, rfl⟩ := h
      exact pNum_le hn
    · exact pWord_le h
theorem pMore_le {σ : Type} {p : σ → Bs → Option (σ × Bs)} (hp : Shr p) {e : UInt8} : ∀ n a s b r, pMore p e n a s = some (b, r) → r.length ≤ s.length := by
  intro n
  induction n with
  | zero => intro a s b r h; simp [pMore] at h
  | succ n ih =>
    intro a s b r h
    have hs := sk_len s
    unfold pMore at h
    split at h
    · cases h
    · rename_i c t hc
      rw [hc] at hs
      simp only [List.length_cons] at hs
      split at h
      · split at h
        · rename_i b' r' hb
          have := hp _ _ _ _ hb
          have := ih _ _ _ _ h
          omega
        · cases h
      · split at h
        · simp only [Option.some.injEq, Prod.mk.injEq] at h
          obtain ⟨_, rfl⟩ := h
          omega
        · cases h
theorem pSev_le {σ : Type} {p : σ → Bs → Option (σ × Bs)} (hp : Shr p) {e : UInt8} {a b : σ} {s r : Bs} (h : pSev p e a s = some (b, r)) : r.length ≤ s.length := by
  have hs := sk_len s
  unfold pSev at h
  split at h
  · simp only [Option.some.injEq, Prod.mk.injEq] at h
    obtain ⟨_, rfl⟩ := h
    simp only [List.length_tail]; omega
  · split at h
    · rename_i hb
      have := hp _ _ _ _ hb
      have := pMore_le hp _ _ _ _ _ h
      omega
    · cases h
theorem pEl_shr {pv : Bs → Option (J × Bs)} (hv : ∀ s j r, pv s = some (j, r) → r.length ≤ s.length) : Shr (pEl pv) := by
  intro a s b r h
  unfold pEl at h
  simp only [Option.map_eq_some_iff, Prod.mk.injEq] at h
  obtain ⟨⟨x, y⟩, hn, _, rfl⟩ := h
  exact hv _ _ _ hn
theorem pMem_shr {u : Bool} {pv : Bs → Option (J × Bs)} (hv : ∀ s j r, pv s = some (j, r) → r.length ≤ s.length) : Shr (pMem u pv) := by
  intro a s b r h
  have hs := sk_len s
  unfold pMem at h
  split at h
  · cases h
  · rename_i c t hc
    rw [hc] at hs
    simp only [List.length_cons] at hs
    split at h
    · split at h
      · cases h
      · rename_i k r' hk
        have h1 := pStr_len t.length (Nat.le_refl _) hk
        have h2 := sk_len r'
        split at h
        · cases h
        · split at h
          · cases h
          · rename_i c' q hq
            rw [hq] at h2
            simp only [List.length_cons] at h2
            split at h
            · simp only [Option.map_eq_some_iff, Prod.mk.injEq] at h
              obtain ⟨⟨x, y⟩, hn, _, rfl⟩ := h
              have := hv _ _ _ hn
              show y.length ≤ s.length
              omega
            · cases h
    · cases h
theorem pVal_le {u : Bool} : ∀ (d : Nat) (s : Bs) (j : J) (r : Bs), pVal u d s = some (j, r) → r.length ≤ s.length := by
  intro d
  induction d with
  | zero =>
    intro s j r h
    have hs := sk_len s
    unfold pVal at h
    split at h
    · cases h
    · rename_i c t hc
      rw [hc] at hs
      split at h
      · cases h
      · have := pSca_le h; omega
  | succ d ih =>
    intro s j r h
    have hs := sk_len s
    unfold pVal at h
    split at h
    · cases h
    · rename_i c t hc
      rw [hc] at hs
      simp only [List.length_cons] at hs
      split at h
      · simp only [Option.map_eq_some_iff, Prod.mk.injEq] at h
        obtain ⟨⟨x, y⟩, hn, _, rfl⟩ := h
        have := pSev_le (pMem_shr ih) hn
        show y.length ≤ s.length
        omega
      · split at h
        · simp only [Option.map_eq_some_iff, Prod.mk.injEq] at h
          obtain ⟨⟨x, y⟩, hn, _, rfl⟩ := h
          have := pSev_le (pEl_shr ih) hn
          show y.length ≤ s.length
          omega
        · have := pSca_le h
          simp only [List.length_cons] at this
          omega
end Go.Proofs.YtocligpfmfmihabGreatDoor
namespace Go.Proofs.YtocligpfmfmihabGreatDoor
open Go Go.RowKit

/-- What a part of the reading without a result comes to. -/
def Ser {σ : Type} (W : World) (rb : Nat) (s : ByteArray) (d : Nat) (w0 : World) (o : Option (σ × List UInt8)) (I : σ → World → Prop) (e : Ending) (w' : World) : Prop :=
  Kp (· = rb) w0 w' ∧ match o with
  | some (y, r) => e = .returned (.tuple #[]) ∧ I y w' ∧ ∃ k', St W w' rb s k' d ∧ rest s k' = r
  | none => Thrown W w0 w' e
theorem ser_none {σ : Type} {W : World} {rb : Nat} {s : ByteArray} {d : Nat} {w0 w' : World} {o : Option (σ × List UInt8)} {I : σ → World → Prop} {e : Ending}
    (h : o = none) (hk : Kp (· = rb) w0 w' ∧ Thrown W w0 w' e) : Ser W rb s d w0 o I e w' := by
  subst h; exact hk
theorem ser_some {σ : Type} {W : World} {rb : Nat} {s : ByteArray} {d k' : Nat} {w0 w' : World} {o : Option (σ × List UInt8)} {I : σ → World → Prop} {y : σ} {r : List UInt8}
    (h : o = some (y, r)) (hk : Kp (· = rb) w0 w') (hi : I y w') (hs : St W w' rb s k' d) (hr : rest s k' = r) : Ser W rb s d w0 o I (.returned (.tuple #[])) w' := by
  subst h; exact ⟨hk, rfl, hi, k', hs, hr⟩

/-- What is asked of the function that reads one. -/
structure One {σ : Type} (W : World) (rb : Nat) (s : ByteArray) (d : Nat) (w0 : World) (p : σ → List UInt8 → Option (σ × List UInt8)) (I : σ → World → Prop) (m : σ → Nat) (f : FuncId) (a b : Value) : Prop where
  keep : ∀ x w1 w2, I x w1 → Kp (· = rb) w1 w2 → I x w2
  shr : Shr p
  skp : ∀ x l, p x (sk l) = p x l
  ent : ∀ w, (callFunc f #[a, b]).run Tryz.prog w = .ok (.enter f #[a, b]) w
  inc : ∀ x l y r, p x l = some (y, r) → m y ≤ m x + 1
  call : ∀ x w1 k1, m x ≤ 700 → St W w1 rb s k1 d → I x w1 → Kp (· = rb) w0 w1 → Calls Tryz.prog f #[a, b] w1 fun e w2 => Ser W rb s d w0 (p x (rest s k1)) I e w2

set_option maxRecDepth 8000 in
theorem several_c {σ : Type} (W : World) (rb : Nat) (s : ByteArray) (k d : Nat) (w0 w : World) (p : σ → List UInt8 → Option (σ × List UInt8)) (I : σ → World → Prop) (m : σ → Nat) (f : FuncId) (a b : Value)
    (h1 : One W rb s (d + 1) w0 p I m f a b) (hr : St W w rb s k d) (x0 : σ) (hm0 : m x0 = 0) (hI : I x0 w) (hk : Kp (· = rb) w0 w) (hd : d < 6)
    (qb qe : Int) (bb be : UInt8) (hqb : qb = bb.toNat) (hqe : qe = be.toNat) (hb0 : be ≠ 0) (_hb44 : be ≠ 44) (t : List UInt8) (hl : sk (rest s k) = bb :: t) :
    Calls Tryz.prog 178 #[.pointer (some ⟨rb, 0, none⟩), .int .u8 qb, .int .u8 qe, .func (.func f) #[] #[a, b]] w fun e w' =>
      Ser W rb s d w0 (pSev p be x0 t) I e w' := by
  have hsz := hr.sz
  have HQ := hide (And.intro hqb hqe)
  have HL := hide hl
  clear hqb hqe hl
  have hd' : (d : Int) < 6 := by omega
  have hcf := h1.ent
  go_enter Tryz.func178, Tryz.ntmps178
  go_wp2_with fail
  refine (need_yes W rb s k d _ hr qb bb HQ.out.1 t HL.out).mono ?_
  rintro e w1 ⟨rfl, a1, k1, a2, a3⟩
  have A3 := hide a3
  clear a3
  obtain ⟨c0, c1, c2, f1, f2, hb⟩ := a2.rdr.facts
  have K1 := hk.trans a1
  have I1 := h1.keep _ _ _ hI a1
  have S2 := a2.dep (d + 1)
  have K2 : Kp (· = rb) w0 (w1.setCell ⟨rb, 2, none⟩ (.int .i64 ((d + 1 : Nat) : Int))) := Kp.setCell (p := ⟨rb, 2, none⟩) K1 (fun _ => rfl) _
  have I2 := h1.keep _ _ _ I1 (Kp.setCell (p := ⟨rb, 2, none⟩) (Kp.refl (· = rb) w1) (fun _ => rfl) (.int .i64 ((d + 1 : Nat) : Int)))
  have fin : ∀ (y : σ) (w9 : World) (k9 : Nat), St W w9 rb s k9 (d + 1) → I y w9 → Kp (· = rb) w0 w9 → St W (w9.setCell ⟨rb, 2, none⟩ (.int .i64 d)) rb s k9 d ∧ I y (w9.setCell ⟨rb, 2, none⟩ (.int .i64 d)) ∧ Kp (· = rb) w0 (w9.setCell ⟨rb, 2, none⟩ (.int .i64 d)) :=
    fun y w9 k9 b1 b2 b3 => ⟨b1.dep d, h1.keep _ _ _ b2 (Kp.setCell (p := ⟨rb, 2, none⟩) (Kp.refl (· = rb) w9) (fun _ => rfl) _), Kp.setCell (p := ⟨rb, 2, none⟩) b3 (fun _ => rfl) _⟩
  have FIN := hide fin
  clear fin K1 I1
  have C1 : Hid (One W rb s (d + 1) w0 p I m f a b) := h1
  have M0 := hide hm0
  clear hm0
  clear h1
  by_cases he : (sk t).head? = some be
  · obtain ⟨t', ht'⟩ : ∃ t', sk t = be :: t' := by
      cases hst : sk t with
      | nil => rw [hst] at he; cases he
      | cons c q =>
        rw [hst] at he
        simp only [List.head?_cons, Option.some.injEq] at he
        exact ⟨q, by rw [he]⟩
    have T := hide (And.intro he ht')
    clear he ht'
    go_wp2_with fail
    refine (take_yes W rb s k1 (d + 1) _ S2 qe be HQ.out.2 t' (by rw [A3.out]; exact T.out.2)).mono ?_
    rintro e w3 ⟨rfl, b1, k3, b2, b3⟩
    have B3 := hide b3
    clear b3 c0 c1 c2 f1 f2 hb
    obtain ⟨c0, c1, c2, f1, f2, hb⟩ := b2.rdr.facts
    have I3 := C1.out.keep _ _ _ I2 b1
    have F := FIN.out _ _ _ b2 I3 (K2.trans b1)
    clear I3
    go_wp2
    go_end0
    refine ser_some ?_ F.2.2 F.2.1 F.1 B3.out
    rw [pSev, if_pos T.out.1, T.out.2]
    rfl
  · have T := hide he
    clear he
    go_wp2_with fail
    refine (take_no W rb s k1 (d + 1) _ S2 qe be HQ.out.2 hb0 (by rw [A3.out]; exact T.out)).mono ?_
    rintro e w3 ⟨rfl, b1, k3, b2, b3⟩
    have B3 : Hid (rest s k3 = sk t) := by rw [A3.out] at b3; exact b3
    clear b3 c0 c1 c2 f1 f2 hb
    have I3 := C1.out.keep _ _ _ I2 b1
    have K3 := K2.trans b1
    clear I2 K2
    go_wp2_with fail
    refine (C1.out.call _ _ _ (by rw [M0.out]; omega) b2 I3 K3).mono ?_
    rintro e w4 ⟨d1, d2⟩
    rw [B3.out, C1.out.skp] at d2
    cases hp : p x0 t with
    | none =>
      rw [hp] at d2
      obtain ⟨fb, k9, g, cb, rfl, q⟩ := d2
      refine ⟨rfl, ser_none ?_ ⟨d1, fb, k9, g, cb, rfl, q⟩⟩
      rw [pSev, if_neg T.out, hp]
    | some z =>
      obtain ⟨y, r⟩ := z
      rw [hp] at d2
      obtain ⟨rfl, I4, k4, S4, d3⟩ := d2
      have hs : pSev p be x0 t = pMore p be (r.length + 1) y r := by rw [pSev, if_neg T.out, hp]
      have hm1 : m y + (r.length + 1) ≤ 602 := by
        have e1 := C1.out.inc _ _ _ _ hp
        have e2 := C1.out.shr _ _ _ _ hp
        have e3 : t.length ≤ s.size := by rw [← A3.out]; simp [rest]
        rw [M0.out] at e1
        omega
      have D := hide (And.intro d3 (And.intro hs hm1))
      clear d3 hs hm1 hp I3 K3
      go_wp2_with fail
      go_loopg [] (r.length + 1) (fun n wr => ∃ (x : σ) (k' : Nat), St W wr rb s k' (d + 1) ∧ I x wr ∧ Kp (· = rb) w0 wr ∧ (rest s k').length < n ∧ m x + n ≤ 602 ∧ pMore p be n x (rest s k') = pSev p be x0 t)
      case atStart => exact ⟨y, k4, S4, I4, d1, by rw [D.out.1]; omega, D.out.2.2, by rw [D.out.1, D.out.2.1]⟩
      case round =>
        clear S4 I4 d1
        obtain ⟨x, k', q1, q2, q3, q4, q6, q5⟩ := hrel
        obtain ⟨n, rfl⟩ : ∃ n, gk = n + 1 := ⟨gk - 1, by omega⟩
        have Q := hide (And.intro q4 q5)
        have M := hide q6
        clear q4 q5 q6
        by_cases hc : (sk (rest s k')).head? = some 44
        · obtain ⟨q, hq⟩ : ∃ q, sk (rest s k') = 44 :: q := by
            cases hst : sk (rest s k') with
            | nil => rw [hst] at hc; cases hc
            | cons c q =>
              rw [hst] at hc
              simp only [List.head?_cons, Option.some.injEq] at hc
              exact ⟨q, by rw [hc]⟩
          have HQQ := hide hq
          clear hc hq
          go_wp2_with fail
          refine (take_yes W rb s k' (d + 1) _ q1 44 44 rfl q HQQ.out).mono ?_
          rintro e w5 ⟨rfl, e1, k5, e2, e3⟩
          have E3 := hide e3
          clear e3
          have I5 := C1.out.keep _ _ _ q2 e1
          have K5 := q3.trans e1
          go_wp2_with fail
          refine (C1.out.call _ _ _ (by have := M.out; omega) e2 I5 K5).mono ?_
          rintro e w6 ⟨g1, g2⟩
          rw [E3.out] at g2
          have hm : pMore p be (n + 1) x (rest s k') = match p x q with | some (b, r) => pMore p be n b r | none => none := by
            rw [pMore, HQQ.out]; rfl
          cases hp : p x q with
          | none =>
            rw [hp] at g2 hm
            obtain ⟨fb, k9, g, cb, rfl, q⟩ := g2
            exact ⟨rfl, ser_none (Q.out.2.symm.trans hm) ⟨g1, fb, k9, g, cb, rfl, q⟩⟩
          | some z =>
            obtain ⟨y', r'⟩ := z
            rw [hp] at g2 hm
            obtain ⟨rfl, I6, k6, S6, g3⟩ := g2
            have hr1 := C1.out.shr _ _ _ _ hp
            have hr2 := sk_len (rest s k')
            rw [HQQ.out] at hr2
            simp only [List.length_cons] at hr2
            have hm2 := C1.out.inc _ _ _ _ hp
            have G := hide (And.intro g3 (And.intro hm (And.intro hr1 (And.intro hr2 hm2))))
            clear g3 hm hr1 hr2 hm2 hp
            go_wp2
            go_roundg n
            case measure => omega
            case rel =>
              refine ⟨y', k6, S6, I6, g1, ?_, ?_, ?_⟩
              · have := G.out
                have := Q.out.1
                rw [G.out.1]; omega
              · have := G.out.2.2.2.2
                have := M.out
                omega
              · rw [G.out.1, ← Q.out.2, G.out.2.1]
        · have HC := hide hc
          clear hc
          go_wp2_with fail
          refine (take_no W rb s k' (d + 1) _ q1 44 44 rfl (by decide) HC.out).mono ?_
          rintro e w5 ⟨rfl, e1, k5, e2, e3⟩
          have E3 := hide e3
          clear e3
          have I5 := C1.out.keep _ _ _ q2 e1
          have K5 := q3.trans e1
          by_cases hb : (sk (rest s k')).head? = some be
          · obtain ⟨q, hq⟩ : ∃ q, sk (rest s k') = be :: q := by
              cases hst : sk (rest s k') with
              | nil => rw [hst] at hb; cases hb
              | cons c q =>
                rw [hst] at hb
                simp only [List.head?_cons, Option.some.injEq] at hb
                exact ⟨q, by rw [hb]⟩
            have HQQ := hide hq
            clear hb hq
            go_wp2_with fail
            refine (need_yes W rb s k5 (d + 1) _ e2 qe be HQ.out.2 q (by rw [E3.out, sk_sk]; exact HQQ.out)).mono ?_
            rintro e w6 ⟨rfl, j1, k6, j2, j3⟩
            have J3 := hide j3
            clear j3
            obtain ⟨c0, c1, c2, f1, f2, hb⟩ := j2.rdr.facts
            have F := FIN.out _ _ _ j2 (C1.out.keep _ _ _ I5 j1) (K5.trans j1)
            go_wp2
            go_end0
            refine ser_some ?_ F.2.2 F.2.1 F.1 J3.out
            have h1 := HC.out
            rw [HQQ.out] at h1
            simp only [List.head?_cons, Option.some.injEq] at h1
            rw [← Q.out.2, pMore, HQQ.out]
            simp [h1]
          · have HB := hide hb
            clear hb
            go_wp2_with fail
            refine (need_no W rb s k5 (d + 1) _ e2 qe be HQ.out.2 hb0 (by rw [E3.out, sk_sk]; exact HB.out)).mono ?_
            rintro e w6 ⟨j1, j2⟩
            obtain ⟨fb, k9, g, cb, rfl, q⟩ := j2
            refine ⟨rfl, ser_none ?_ ⟨K5.trans j1, fb, k9, g, cb, rfl, Nat.le_trans K5.size q.1, q.2⟩⟩
            rw [← Q.out.2, pMore]
            cases hst : sk (rest s k') with
            | nil => rfl
            | cons c q =>
              have h1 := HC.out
              have h2 := HB.out
              rw [hst] at h1 h2
              simp only [List.head?_cons, Option.some.injEq] at h1 h2
              simp [h1, h2]

theorem several_deep (W : World) (rb : Nat) (s : ByteArray) (k : Nat) (w : World) (hr : St W w rb s k 6) (fv : Value)
    (qb qe : Int) (bb : UInt8) (hqb : qb = bb.toNat) (t : List UInt8) (hl : sk (rest s k) = bb :: t) :
    Calls Tryz.prog 178 #[.pointer (some ⟨rb, 0, none⟩), .int .u8 qb, .int .u8 qe, fv] w fun e w' => Kp (· = rb) w w' ∧ Thrown W w w' e := by
  have hsz := hr.sz
  have HQ := hide hqb
  have HL := hide hl
  clear hqb hl
  go_enter Tryz.func178, Tryz.ntmps178
  go_wp2_with fail
  refine (need_yes W rb s k 6 _ hr qb bb HQ.out t HL.out).mono ?_
  rintro e w1 ⟨rfl, a1, k1, a2, a3⟩
  have A3 := hide a3
  clear a3
  obtain ⟨c0, c1, c2, f1, f2, hb⟩ := a2.rdr.facts
  have S2 := a2.dep 7
  obtain ⟨cb, hg, he⟩ := a2.err 25 (by decide) (by decide)
  have K2 : Kp (· = rb) w (w1.setCell ⟨rb, 2, none⟩ (.int .i64 7)) := Kp.setCell (p := ⟨rb, 2, none⟩) a1 (fun _ => rfl) _
  go_wp2_with (go_at_call 132; refine (fault_c rb s k1 7 _ S2.rdr _ _).mono ?_; rintro e w' ⟨rfl, rfl⟩)
  have hz : (w1.setCell ⟨rb, 2, none⟩ (.int .i64 7)).heap.size = w1.heap.size := by simp [World.setCell]
  have h9 := thrown_new (k := (k1 : Int)) K2 he
  rw [hz] at h9
  exact ⟨rfl, h9⟩
end Go.Proofs.YtocligpfmfmihabGreatDoor

import Derived.Test.YtocligpfmfmihabGreatDoorRd
import Derived.Lib.Strings
import Derived.Lib.IndexBytes
namespace Go.Proofs.YtocligpfmfmihabGreatDoor
open Go Go.RowKit

theorem isDigit_c (w : World) (c : UInt8) :
    Calls Tryz.prog 163 #[.int .u8 c.toNat] w fun e w' => e = .returned (.bool (isDg c)) ∧ w = w' := by
  have hc : c.toNat < 256 := c.toNat_lt
  have h : isDg c = (decide (48 ≤ (c.toNat : Int)) && decide ((c.toNat : Int) ≤ 57)) := by
    unfold isDg
    rw [Bool.eq_iff_iff]; simp [UInt8.le_iff_toNat_le]; omega
  have H := hide h
  clear h
  go_enter Tryz.func163, Tryz.ntmps163
  go_wp2
  all_goals
    go_ret
    refine ⟨?_, rfl⟩
    rw [H.out]
    first | (simp [*]; done) | (simp [*]; omega)

/-- One hexadecimal digit. -/
def hex1 (l : List UInt8) : Option (Nat × List UInt8) := match l with | [] => none | c :: t => (hexV c).map fun v => (v, t)

theorem hexV_dg {c : UInt8} (h : isDg c = true) : hexV c = some (c.toNat - 48) ∧ 48 ≤ (c.toNat : Int) ∧ (c.toNat : Int) ≤ 57 := by
  unfold isDg at h
  simp only [Bool.and_eq_true, decide_eq_true_eq] at h
  unfold hexV
  rw [if_pos h]
  rw [UInt8.le_iff_toNat_le, UInt8.le_iff_toNat_le] at h
  have h1 : (48 : UInt8).toNat = 48 := rfl
  have h2 : (57 : UInt8).toNat = 57 := rfl
  exact ⟨rfl, by omega, by omega⟩
theorem hexV_nodg {c : UInt8} (h : isDg c = false) : hexV c = if 97 ≤ (c.toNat : Int) ∧ (c.toNat : Int) ≤ 102 then some (c.toNat - 97 + 10) else if 65 ≤ (c.toNat : Int) ∧ (c.toNat : Int) ≤ 70 then some (c.toNat - 65 + 10) else none := by
  unfold isDg at h
  unfold hexV
  rw [if_neg (by intro ⟨a, b⟩; simp [a, b] at h)]
  have e1 : (97 ≤ c ∧ c ≤ 102) ↔ (97 ≤ (c.toNat : Int) ∧ (c.toNat : Int) ≤ 102) := by
    rw [UInt8.le_iff_toNat_le, UInt8.le_iff_toNat_le]
    have h1 : (97 : UInt8).toNat = 97 := rfl
    have h2 : (102 : UInt8).toNat = 102 := rfl
    omega
  have e2 : (65 ≤ c ∧ c ≤ 70) ↔ (65 ≤ (c.toNat : Int) ∧ (c.toNat : Int) ≤ 70) := by
    rw [UInt8.le_iff_toNat_le, UInt8.le_iff_toNat_le]
    have h1 : (65 : UInt8).toNat = 65 := rfl
    have h2 : (70 : UInt8).toNat = 70 := rfl
    omega
  simp only [e1, e2]

theorem int_i32 {a b : Int} (h : a = b) : Value.int .i32 a = .int .i32 b := by rw [h]
theorem int_i64 {a b : Int} (h : a = b) : Value.int .i64 a = .int .i64 b := by rw [h]

theorem hex1_cons {c : UInt8} {o : Option Nat} (h : hexV c = o) (t : List UInt8) : hex1 (c :: t) = o.map fun v => (v, t) := by
  simp only [hex1, h]

theorem hexDigit_c (W : World) (rb : Nat) (s : ByteArray) (k d : Nat) (w : World) (hr : St W w rb s k d) :
    Calls Tryz.prog 233 #[.pointer (some ⟨rb, 0, none⟩)] w fun e w' =>
      Res W rb s d w (hex1 (rest s k)) (fun _ x v => v = .int .i32 (x : Int)) e w' := by
  have hsz := hr.sz
  cases hl : rest s k with
  | nil =>
    have hk : k = s.size := by
      have := hr.le
      rcases Nat.lt_or_ge k s.size with h | h
      · rw [rest_cons h] at hl; cases hl
      · omega
    clear hl
    go_enter Tryz.func233, Tryz.ntmps233
    go_wp2_with fail
    refine (pop_none W rb s k d _ hr hk).mono ?_
    rintro e w1 ⟨h1, h2⟩
    obtain ⟨fb, k1, g, cb, rfl, h3⟩ := h2
    exact ⟨rfl, h1, fb, k1, g, cb, rfl, h3⟩
  | cons c t =>
    obtain ⟨g1, _, g3, g4⟩ := nxt_cons hl
    have g5 := g4 g1
    have H := hide (And.intro g3 g5)
    clear hl g3 g4 g5
    have hc : c.toNat < 256 := c.toNat_lt
    go_enter Tryz.func233, Tryz.ntmps233
    go_wp2_with fail
    refine (pop_some W rb s k d _ hr g1).mono ?_
    rintro e w1 ⟨rfl, h1, h2⟩
    rw [H.out.2]
    have hle := h1.le
    obtain ⟨c0, c1, c2, f1, f2, hb⟩ := h1.rdr.facts
    obtain ⟨cb, hg, he⟩ := h1.err 27 (by decide) (by decide)
    cases hdg : isDg c with
    | true =>
      obtain ⟨e1, e2, e3⟩ := hexV_dg hdg
      have E := hide (And.intro e1 hdg)
      clear e1 hdg
      go_wp2_with fail
      refine (isDigit_c _ c).mono ?_
      rintro e w2 ⟨rfl, rfl⟩
      rw [E.out.2]
      go_wp2
      go_ret
      refine ⟨h2, ?_⟩
      simp only [hex1, E.out.1, Option.map_some]
      exact ⟨_, _, rfl, int_i32 (by omega), h1, H.out.1⟩
    | false =>
      have E := hide (And.intro (hexV_nodg hdg) hdg)
      clear hdg
      go_wp2_with fail
      refine (isDigit_c _ c).mono ?_
      rintro e w2 ⟨rfl, rfl⟩
      rw [E.out.2]
      go_wp2_with (go_at_call 132; refine (fault_c rb s (k + 1) d _ h1.rdr _ _).mono ?_; rintro e w' ⟨rfl, rfl⟩)
      all_goals
        by_cases p1 : 97 ≤ (c.toNat : Int) ∧ (c.toNat : Int) ≤ 102
        · have hv := E.out.1.trans (if_pos p1)
          first
            | (exfalso; omega)
            | (go_ret; exact res_some (hex1_cons hv t) h2 (int_i32 (by omega)) h1 H.out.1)
        · by_cases p2 : 65 ≤ (c.toNat : Int) ∧ (c.toNat : Int) ≤ 70
          · have hv := E.out.1.trans ((if_neg p1).trans (if_pos p2))
            first
              | (exfalso; omega)
              | (go_ret; exact res_some (hex1_cons hv t) h2 (int_i32 (by omega)) h1 H.out.1)
          · have hv := E.out.1.trans ((if_neg p1).trans (if_neg p2))
            first
              | (exfalso; omega)
              | exact ⟨rfl, res_none (hex1_cons hv t) (thrown_new h2 he)⟩

/-- The four digits, one by one: after n of them x. -/
def hexN : Nat → Nat → List UInt8 → Option (Nat × List UInt8)
  | 0, x, l => some (x, l)
  | n + 1, x, l => match hex1 l with | none => none | some (v, t) => hexN n (x * 16 + v) t
theorem hexN4 (l : List UInt8) : hexN 4 0 l = hex4 l := by
  rcases l with _ | ⟨a, _ | ⟨b, _ | ⟨c, _ | ⟨e, t⟩⟩⟩⟩
  · simp [hexN, hex1, hex4]
  · cases ha : hexV a <;> simp [hexN, hex1, hex4, ha]
  · cases ha : hexV a <;> cases hb : hexV b <;> simp [hexN, hex1, hex4, ha, hb]
  · cases ha : hexV a <;> cases hb : hexV b <;> cases hc : hexV c <;> simp [hexN, hex1, hex4, ha, hb, hc]
  · cases ha : hexV a <;> cases hb : hexV b <;> cases hc : hexV c <;> cases he : hexV e <;> simp [hexN, hex1, hex4, ha, hb, hc, he]
theorem hexV_b16 {c : UInt8} {v : Nat} (h : hexV c = some v) : v < 16 := by
  have hc := c.toNat_lt
  unfold hexV at h
  repeat' split at h
  all_goals first | (simp at h; done) | skip
  all_goals
    rename_i p
    rw [UInt8.le_iff_toNat_le, UInt8.le_iff_toNat_le] at p
    simp only [Option.some.injEq] at h
    have e1 : (48 : UInt8).toNat = 48 := rfl
    have e2 : (57 : UInt8).toNat = 57 := rfl
    have e3 : (97 : UInt8).toNat = 97 := rfl
    have e4 : (102 : UInt8).toNat = 102 := rfl
    have e5 : (65 : UInt8).toNat = 65 := rfl
    have e6 : (70 : UInt8).toNat = 70 := rfl
    omega
theorem hex1_b16 {l r : List UInt8} {v : Nat} (h : hex1 l = some (v, r)) : v < 16 := by
  unfold hex1 at h
  split at h
  · cases h
  · simp only [Option.map_eq_some_iff, Prod.mk.injEq] at h
    obtain ⟨x, h1, rfl, _⟩ := h
    exact hexV_b16 h1

theorem fourDigits_c (W : World) (rb : Nat) (s : ByteArray) (k d : Nat) (w : World) (hr : St W w rb s k d) :
    Calls Tryz.prog 224 #[.pointer (some ⟨rb, 0, none⟩)] w fun e w' =>
      Res W rb s d w (hex4 (rest s k)) (fun _ x v => v = .int .i32 (x : Int)) e w' := by
  rw [← hexN4]
  generalize ho : hexN 4 0 (rest s k) = o
  have HO := hide ho
  clear ho
  go_enter Tryz.func224, Tryz.ntmps224
  go_wp2_with fail
  go_loopg [3, 4] 4 (fun n a i wr => ∃ (x k' : Nat), n ≤ 4 ∧ x < 16 ^ (4 - n) ∧ a = .int .i32 (x : Int) ∧ i = .int .i64 (4 - n : Int) ∧ St W wr rb s k' d ∧ Kp (· = rb) w wr ∧ hexN n x (rest s k') = o)
  case atStart => exact ⟨0, k, by omega, by decide, rfl, rfl, hr, Kp.refl _ _, HO.out⟩
  case round =>
    obtain ⟨x, k', hn, hx, rfl, rfl, h1, h2, h3⟩ := hrel
    have H := hide h3
    clear h3
    rcases gk with _ | n
    · have hlt : decide (((4 : Int) - (0 : Nat)) < 4) = false := by decide
      have e := H.out
      simp only [hexN] at e
      have E := hide e
      clear e
      go_wp2
      go_ret
      exact res_some E.out.symm h2 rfl h1 rfl
    · have hlt : decide (((4 : Int) - ((n + 1 : Nat) : Int)) < 4) = true := by simp; omega
      have hx2 : x < 4096 := by
        have : (16 : Nat) ^ (4 - (n + 1)) ≤ 16 ^ 3 := Nat.pow_le_pow_right (by omega) (by omega)
        omega
      go_wp2_with fail
      refine (hexDigit_c W rb s k' d _ h1).mono ?_
      rintro e w1 ⟨g1, g2⟩
      have e := H.out
      simp only [hexN] at e
      cases hx1 : hex1 (rest s k') with
      | none =>
        rw [hx1] at g2 e
        obtain ⟨fb, k1, g, cb, rfl, q⟩ := g2
        exact ⟨rfl, res_none e.symm ⟨h2.trans g1, fb, k1, g, cb, rfl, Nat.le_trans h2.size q.1, q.2⟩⟩
      | some p =>
        obtain ⟨v, r⟩ := p
        rw [hx1] at g2 e
        obtain ⟨_, k1, rfl, rfl, q1, q2⟩ := g2
        have hv := hex1_b16 hx1
        have E := hide (And.intro e q2)
        clear e q2 hx1
        go_wp2
        go_roundg n
        case measure => omega
        case rel =>
          refine ⟨x * 16 + v, k1, by omega, ?_, int_i32 (by omega), int_i64 (by omega), q1, h2.trans g1, by rw [E.out.2]; exact E.out.1⟩
          have e4 : 4 - n = (4 - (n + 1)) + 1 := by omega
          rw [e4, Nat.pow_succ]
          omega

def lowB (x : Int) : Bool := decide (56320 ≤ x) && decide (x ≤ 57343)
def highB (x : Int) : Bool := decide (55296 ≤ x) && decide (x ≤ 56319)
theorem isLow_c (w : World) (x : Int) : Calls Tryz.prog 225 #[.int .i32 x] w fun e w' => e = .returned (.bool (lowB x)) ∧ w = w' := by
  go_enter Tryz.func225, Tryz.ntmps225
  go_wp2
  all_goals
    go_ret
    refine ⟨?_, rfl⟩
    unfold lowB
    first | (simp [*]; done) | (simp [*]; omega)
theorem isHigh_c (w : World) (x : Int) : Calls Tryz.prog 226 #[.int .i32 x] w fun e w' => e = .returned (.bool (highB x)) ∧ w = w' := by
  go_enter Tryz.func226, Tryz.ntmps226
  go_wp2
  all_goals
    go_ret
    refine ⟨?_, rfl⟩
    unfold highB
    first | (simp [*]; done) | (simp [*]; omega)

/-- a begins with b. -/
def begB (a b : List UInt8) : Bool := a.take b.length == b
theorem hasPrefix_c (w : World) (a b : ByteArray) (_ha : a.size ≤ 600) (_hb : b.size ≤ 600) (bb : Bool) (hbb : begB a.data.toList b.data.toList = bb) :
    Calls Tryz.prog 207 #[.string a, .string b] w fun e w' => e = .returned (.bool bb) ∧ w' = w := by
  subst hbb
  have la : a.data.toList.length = a.size := by simp
  have lb : b.data.toList.length = b.size := by simp
  have L := hide (And.intro la lb)
  clear la lb
  by_cases h : b.size ≤ a.size
  · go_enter Tryz.func207, Tryz.ntmps207
    go_wp2
    go_ret
    refine ⟨?_, rfl⟩
    show Ending.returned (.bool ((a.extract 0 b.size).toList == b.toList)) = _
    rw [Lib.toList_data, Lib.toList_data, Lib.extract_data, begB, L.out.2]
    rfl
  · go_enter Tryz.func207, Tryz.ntmps207
    go_wp2
    go_ret
    refine ⟨?_, rfl⟩
    have : begB a.data.toList b.data.toList = false := by
      unfold begB
      rw [beq_eq_false_iff_ne]
      intro e
      have := congrArg List.length e
      rw [List.length_take, L.out.1, L.out.2] at this
      omega
    rw [this]; rfl

theorem takeWord_c (W : World) (rb : Nat) (s : ByteArray) (k d : Nat) (w : World) (hr : St W w rb s k d) (p : ByteArray) (hp : p.size ≤ 5) (bb : Bool) (hbb : begB (rest s k) p.data.toList = bb) :
    Calls Tryz.prog 187 #[.pointer (some ⟨rb, 0, none⟩), .string p] w fun e w' =>
      e = .returned (.bool bb) ∧ Kp (· = rb) w w' ∧ ∃ k', St W w' rb s k' d ∧ rest s k' = if bb then (rest s k).drop p.size else rest s k := by
  have hsz := hr.sz
  have hle := hr.le
  obtain ⟨c0, c1, c2, f1, f2, hb⟩ := hr.rdr.facts
  have e1 : begB (s.extract k s.size).data.toList p.data.toList = bb := by rw [Lib.extract_to_end]; exact hbb
  have es : (s.extract k s.size).size ≤ 600 := by
    have : (s.extract k s.size).size = (s.extract k s.size).data.toList.length := by simp
    rw [this, Lib.extract_to_end, List.length_drop]; simp; omega
  have E := hide (And.intro e1 hbb)
  clear e1 hbb
  cases bb with
  | false =>
    go_enter Tryz.func187, Tryz.ntmps187
    go_wp2
    go_quiet ((go_at_call 207; exact Calls.quiet_of_same (hasPrefix_c _ _ _ es (by omega) false E.out.1)))
    go_wp2
    go_ret
    exact ⟨rfl, (Kp.refl _ _).drewN _, k, hr.drewN _, rfl⟩
  | true =>
    have hk : k + p.size ≤ s.size := by
      have := E.out.2
      unfold begB at this
      have := congrArg List.length (eq_of_beq this)
      rw [List.length_take] at this
      have e2 : (rest s k).length = s.size - k := by simp [rest]
      have e3 : p.data.toList.length = p.size := by simp
      omega
    go_enter Tryz.func187, Tryz.ntmps187
    go_wp2
    go_quiet ((go_at_call 207; exact Calls.quiet_of_same (hasPrefix_c _ _ _ es (by omega) true E.out.1)))
    go_wp2
    go_ret
    refine ⟨rfl, Kp.setCell (p := ⟨rb, 1, none⟩) ((Kp.refl (· = rb) _).drewN _) (fun _ => rfl) _, k + p.size, (hr.drewN _).at (k + p.size) hk, ?_⟩
    simp [rest, List.drop_drop]

theorem hex4_b16 {l r : List UInt8} {x : Nat} (h : hex4 l = some (x, r)) : x < 65536 := by
  unfold hex4 at h
  split at h
  · simp only [Option.bind_eq_some_iff, Option.map_eq_some_iff, Prod.mk.injEq] at h
    obtain ⟨_, a1, _, a2, _, a3, _, a4, rfl, _⟩ := h
    have := hexV_b16 a1
    have := hexV_b16 a2
    have := hexV_b16 a3
    have := hexV_b16 a4
    omega
  · cases h
theorem begB2 {l : List UInt8} (h : begB l [92, 117] = true) : ∃ q, l = 92 :: 117 :: q := by
  unfold begB at h
  rcases l with _ | ⟨a, _ | ⟨b, q⟩⟩
  · simp at h
  · simp at h
  · simp at h
    obtain ⟨rfl, rfl⟩ := h
    exact ⟨q, rfl⟩
theorem escU_two {l r : List UInt8} {x : Nat} (h : hex4 l = some (x, r)) (h1 : 55296 ≤ x) (h2 : x ≤ 56319) (hb : begB r [92, 117] = false) : escU l = none := by
  simp only [escU, h]
  rw [if_neg (by omega), if_neg (by omega)]
  split
  · rename_i a b q
    split
    · rename_i hc
      obtain ⟨rfl, rfl⟩ := hc
      simp [begB] at hb
    · rfl
  · rfl
theorem escU_none {l r : List UInt8} {x : Nat} (h : hex4 l = some (x, r)) (h1 : 55296 ≤ x) (h2 : x ≤ 56319) (hb : begB r [92, 117] = true) (hy : hex4 (r.drop 2) = none) : escU l = none := by
  obtain ⟨q, rfl⟩ := begB2 hb
  simp only [List.drop_succ_cons, List.drop_zero] at hy
  simp only [escU, h]
  rw [if_neg (by omega), if_neg (by omega)]
  simp [hy]
theorem escU_some {l r z : List UInt8} {x y : Nat} (h : hex4 l = some (x, r)) (h1 : 55296 ≤ x) (h2 : x ≤ 56319) (hb : begB r [92, 117] = true) (hy : hex4 (r.drop 2) = some (y, z)) :
    escU l = if 56320 ≤ y ∧ y ≤ 57343 then some (65536 + (x - 55296) * 1024 + (y - 56320), z) else none := by
  obtain ⟨q, rfl⟩ := begB2 hb
  simp only [List.drop_succ_cons, List.drop_zero] at hy
  simp only [escU, h]
  rw [if_neg (by omega), if_neg (by omega)]
  simp [hy]

theorem unicode_c (W : World) (rb : Nat) (s : ByteArray) (k d : Nat) (w : World) (hr : St W w rb s k d) :
    Calls Tryz.prog 206 #[.pointer (some ⟨rb, 0, none⟩)] w fun e w' =>
      Res W rb s d w (escU (rest s k)) (fun _ x v => v = .int .i32 (x : Int)) e w' := by
  go_enter Tryz.func206, Tryz.ntmps206
  go_wp2_with fail
  refine (fourDigits_c W rb s k d _ hr).mono ?_
  rintro e w1 ⟨g1, g2⟩
  cases hx : hex4 (rest s k) with
  | none =>
    rw [hx] at g2
    have : escU (rest s k) = none := by simp only [escU, hx]
    obtain ⟨fb, k1, g, cb, rfl, q⟩ := g2
    exact ⟨rfl, res_none this ⟨g1, fb, k1, g, cb, rfl, q⟩⟩
  | some p =>
    obtain ⟨x, r⟩ := p
    rw [hx] at g2
    obtain ⟨_, k1, rfl, rfl, q1, q2⟩ := g2
    have E := hide (And.intro hx q2)
    clear hx q2
    obtain ⟨cb, hg, he⟩ := q1.err 28 (by decide) (by decide)
    cases hlow : lowB x with
    | true =>
      have L := hide hlow
      clear hlow
      go_wp2_with fail
      refine (isLow_c _ _).mono ?_
      rintro e w2 ⟨rfl, rfl⟩
      rw [L.out]
      go_wp2_with (go_at_call 132; refine (fault_c rb s k1 d _ q1.rdr _ _).mono ?_; rintro e w' ⟨rfl, rfl⟩)
      refine ⟨rfl, res_none ?_ (thrown_new g1 he)⟩
      have h := L.out
      simp only [lowB, Bool.and_eq_true, decide_eq_true_eq] at h
      simp only [escU, E.out.1]
      rw [if_neg (by omega), if_pos (by omega)]
    | false =>
      have L := hide hlow
      clear hlow
      have hle := q1.le
      have hsz := q1.sz
      have hx4 : (x : Int) < 65536 := by
        have := hex4_b16 E.out.1
        omega
      cases hhigh : highB x with
      | false =>
        have L2 := hide hhigh
        clear hhigh
        go_wp2_with fail
        refine (isLow_c _ _).mono ?_
        rintro e w2 ⟨rfl, rfl⟩
        rw [L.out]
        go_wp2_with fail
        refine (isHigh_c _ _).mono ?_
        rintro e w2 ⟨rfl, rfl⟩
        rw [L2.out]
        go_wp2
        go_ret
        refine res_some ?_ g1 rfl q1 E.out.2
        have h := L.out
        have h2 := L2.out
        simp only [lowB, highB, Bool.and_eq_false_iff, decide_eq_false_iff_not] at h h2
        simp only [escU, E.out.1]
        rw [if_pos (by omega)]
      | true =>
        have L2 := hide hhigh
        clear hhigh
        have hb2 : 55296 ≤ (x : Int) ∧ (x : Int) ≤ 56319 := by
          have h2 := L2.out
          simpa [highB] using h2
        obtain ⟨hb3, hb4⟩ := hb2
        go_wp2_with fail
        refine (isLow_c _ _).mono ?_
        rintro e w2 ⟨rfl, rfl⟩
        rw [L.out]
        go_wp2_with fail
        refine (isHigh_c _ _).mono ?_
        rintro e w2 ⟨rfl, rfl⟩
        rw [L2.out]
        cases hbg : begB (rest s k1) [92, 117] with
        | false =>
          have B := hide hbg
          clear hbg
          go_wp2_with fail
          refine (takeWord_c W rb s k1 d _ q1 ⟨#[92, 117]⟩ (by decide) false B.out).mono ?_
          rintro e w2 ⟨rfl, t1, k2, t2, t3⟩
          obtain ⟨cb, hg, he⟩ := t2.err 28 (by decide) (by decide)
          go_wp2_with (go_at_call 132; refine (fault_c rb s k2 d _ t2.rdr _ _).mono ?_; rintro e w' ⟨rfl, rfl⟩)
          refine ⟨rfl, res_none ?_ (thrown_new (g1.trans t1) he)⟩
          exact escU_two E.out.1 (by omega) (by omega) (by rw [← E.out.2]; exact B.out)
        | true =>
          have B := hide hbg
          clear hbg
          go_wp2_with fail
          refine (takeWord_c W rb s k1 d _ q1 ⟨#[92, 117]⟩ (by decide) true B.out).mono ?_
          rintro e w2 ⟨rfl, t1, k2, t2, t3⟩
          have T3 : Hid (rest s k2 = (rest s k1).drop 2) := t3
          clear t3
          go_wp2_with fail
          refine (fourDigits_c W rb s k2 d _ t2).mono ?_
          rintro e w3 ⟨v1, v2⟩
          rw [T3.out, E.out.2] at v2
          have B2 : Hid (begB r [92, 117] = true) := by rw [← E.out.2]; exact B.out
          cases hy : hex4 (r.drop 2) with
          | none =>
            rw [hy] at v2
            obtain ⟨fb, k3, g, cb, rfl, q⟩ := v2
            exact ⟨rfl, res_none (escU_none E.out.1 (by omega) (by omega) B2.out hy) ⟨(g1.trans t1).trans v1, fb, k3, g, cb, rfl, Nat.le_trans (g1.trans t1).size q.1, q.2⟩⟩
          | some p =>
            obtain ⟨y, z⟩ := p
            rw [hy] at v2
            obtain ⟨_, k3, rfl, rfl, u1, u2⟩ := v2
            have E2 := hide (And.intro hy u2)
            clear hy u2
            have hy4 : (y : Int) < 65536 := by
              have := hex4_b16 E2.out.1
              omega
            obtain ⟨cb, hg, he⟩ := u1.err 28 (by decide) (by decide)
            cases hl2 : lowB y with
            | false =>
              have L3 := hide hl2
              clear hl2
              go_wp2_with fail
              refine (isLow_c _ _).mono ?_
              rintro e w2 ⟨rfl, rfl⟩
              rw [L3.out]
              go_wp2_with (go_at_call 132; refine (fault_c rb s k3 d _ u1.rdr _ _).mono ?_; rintro e w' ⟨rfl, rfl⟩)
              refine ⟨rfl, res_none ?_ (thrown_new ((g1.trans t1).trans v1) he)⟩
              have h2 := L3.out
              simp only [lowB, Bool.and_eq_false_iff, decide_eq_false_iff_not] at h2
              exact (escU_some E.out.1 (by omega) (by omega) B2.out E2.out.1).trans (if_neg (by omega))
            | true =>
              have L3 := hide hl2
              clear hl2
              have hb5 : 56320 ≤ (y : Int) ∧ (y : Int) ≤ 57343 := by
                have h2 := L3.out
                simpa [lowB] using h2
              obtain ⟨hb6, hb7⟩ := hb5
              go_wp2_with fail
              refine (isLow_c _ _).mono ?_
              rintro e w2 ⟨rfl, rfl⟩
              rw [L3.out]
              go_wp2
              go_ret
              refine res_some ((escU_some E.out.1 (by omega) (by omega) B2.out E2.out.1).trans (if_pos (by omega))) ((g1.trans t1).trans v1) (int_i32 ?_) u1 E2.out.2
              omega
end Go.Proofs.YtocligpfmfmihabGreatDoor

import Derived.Test.YtocligpfmfmihabGreatDoorRd2
namespace Go.Proofs.YtocligpfmfmihabGreatDoor
open Go Go.RowKit

theorem u8n {c d : UInt8} (h : c ≠ d) : ((c.toNat : Int) == (d.toNat : Int)) = false := by
  rw [u8b]; simpa using h
theorem rest_end {s : ByteArray} {k : Nat} (hl : rest s k = []) (hle : k ≤ s.size) : k = s.size := by
  rcases Nat.lt_or_ge k s.size with h | h
  · rw [rest_cons h] at hl; cases hl
  · omega

theorem escape_c (W : World) (rb : Nat) (s : ByteArray) (k d : Nat) (w : World) (hr : St W w rb s k d) :
    Calls Tryz.prog 184 #[.pointer (some ⟨rb, 0, none⟩)] w fun e w' =>
      Res W rb s d w (esc (rest s k)) (fun _ x v => v = .int .i32 (x : Int)) e w' := by
  have hsz := hr.sz
  generalize hl : rest s k = l
  rcases l with _ | ⟨c, t⟩
  · have hk := rest_end hl hr.le
    clear hl
    go_enter Tryz.func184, Tryz.ntmps184
    go_wp2_with fail
    refine (pop_none W rb s k d _ hr hk).mono ?_
    rintro e w1 ⟨h1, h2⟩
    obtain ⟨fb, k1, g, cb, rfl, h3⟩ := h2
    exact ⟨rfl, res_none rfl ⟨h1, fb, k1, g, cb, rfl, h3⟩⟩
  obtain ⟨g1, _, g3, g4⟩ := nxt_cons hl
  have g5 := g4 g1
  have H := hide (And.intro g3 g5)
  clear hl g3 g4 g5
  by_cases h0 : c = 34
  · subst h0
    go_enter Tryz.func184, Tryz.ntmps184
    go_wp2_with fail
    refine (pop_some W rb s k d _ hr g1).mono ?_
    rintro e w1 ⟨rfl, h1, h2⟩
    rw [H.out.2]
    go_wp2
    go_ret
    exact res_some (x := 34) (r := t) (by simp [esc]) h2 rfl h1 H.out.1
  by_cases h1 : c = 92
  · subst h1
    go_enter Tryz.func184, Tryz.ntmps184
    go_wp2_with fail
    refine (pop_some W rb s k d _ hr g1).mono ?_
    rintro e w1 ⟨rfl, h1, h2⟩
    rw [H.out.2]
    go_wp2
    go_ret
    exact res_some (x := 92) (r := t) (by simp [esc]) h2 rfl h1 H.out.1
  by_cases h2 : c = 47
  · subst h2
    go_enter Tryz.func184, Tryz.ntmps184
    go_wp2_with fail
    refine (pop_some W rb s k d _ hr g1).mono ?_
    rintro e w1 ⟨rfl, h1, h2⟩
    rw [H.out.2]
    go_wp2
    go_ret
    exact res_some (x := 47) (r := t) (by simp [esc]) h2 rfl h1 H.out.1
  by_cases h3 : c = 98
  · subst h3
    go_enter Tryz.func184, Tryz.ntmps184
    go_wp2_with fail
    refine (pop_some W rb s k d _ hr g1).mono ?_
    rintro e w1 ⟨rfl, h1, h2⟩
    rw [H.out.2]
    go_wp2
    go_ret
    exact res_some (x := 8) (r := t) (by simp [esc]) h2 rfl h1 H.out.1
  by_cases h4 : c = 102
  · subst h4
    go_enter Tryz.func184, Tryz.ntmps184
    go_wp2_with fail
    refine (pop_some W rb s k d _ hr g1).mono ?_
    rintro e w1 ⟨rfl, h1, h2⟩
    rw [H.out.2]
    go_wp2
    go_ret
    exact res_some (x := 12) (r := t) (by simp [esc]) h2 rfl h1 H.out.1
  by_cases h5 : c = 110
  · subst h5
    go_enter Tryz.func184, Tryz.ntmps184
    go_wp2_with fail
    refine (pop_some W rb s k d _ hr g1).mono ?_
    rintro e w1 ⟨rfl, h1, h2⟩
    rw [H.out.2]
    go_wp2
    go_ret
    exact res_some (x := 10) (r := t) (by simp [esc]) h2 rfl h1 H.out.1
  by_cases h6 : c = 114
  · subst h6
    go_enter Tryz.func184, Tryz.ntmps184
    go_wp2_with fail
    refine (pop_some W rb s k d _ hr g1).mono ?_
    rintro e w1 ⟨rfl, h1, h2⟩
    rw [H.out.2]
    go_wp2
    go_ret
    exact res_some (x := 13) (r := t) (by simp [esc]) h2 rfl h1 H.out.1
  by_cases h7 : c = 116
  · subst h7
    go_enter Tryz.func184, Tryz.ntmps184
    go_wp2_with fail
    refine (pop_some W rb s k d _ hr g1).mono ?_
    rintro e w1 ⟨rfl, h1, h2⟩
    rw [H.out.2]
    go_wp2
    go_ret
    exact res_some (x := 9) (r := t) (by simp [esc]) h2 rfl h1 H.out.1
  have n0 := u8n h0
  have n1 := u8n h1
  have n2 := u8n h2
  have n3 := u8n h3
  have n4 := u8n h4
  have n5 := u8n h5
  have n6 := u8n h6
  have n7 := u8n h7
  have D := hide (And.intro h0 (And.intro h1 (And.intro h2 (And.intro h3 (And.intro h4 (And.intro h5 (And.intro h6 h7)))))))
  clear h0 h1 h2 h3 h4 h5 h6 h7
  simp only [UInt8.reduceToNat, Int.cast_ofNat_Int] at n0 n1 n2 n3 n4 n5 n6 n7
  by_cases h8 : c = 117
  · subst h8
    clear n0 n1 n2 n3 n4 n5 n6 n7
    go_enter Tryz.func184, Tryz.ntmps184
    go_wp2_with fail
    refine (pop_some W rb s k d _ hr g1).mono ?_
    rintro e w1 ⟨rfl, h1, h2⟩
    rw [H.out.2]
    go_wp2_with fail
    refine (unicode_c W rb s (k + 1) d _ h1).mono ?_
    rintro e w2 ⟨v1, v2⟩
    rw [H.out.1] at v2
    have ee : esc (117 :: t) = escU t := by simp [esc]
    cases hy : escU t with
    | none =>
      rw [hy] at v2 ee
      obtain ⟨fb, k3, g, cb, rfl, q⟩ := v2
      exact ⟨rfl, res_none ee ⟨h2.trans v1, fb, k3, g, cb, rfl, Nat.le_trans h2.size q.1, q.2⟩⟩
    | some p =>
      obtain ⟨y, z⟩ := p
      rw [hy] at v2 ee
      obtain ⟨_, k3, rfl, rfl, u1, u2⟩ := v2
      have E := hide (And.intro ee u2)
      clear hy u2 ee
      go_wp2
      go_ret
      exact res_some E.out.1 (h2.trans v1) rfl u1 E.out.2
  have n8 := u8n h8
  simp only [UInt8.reduceToNat] at n8
  have D8 := hide h8
  clear h8
  go_enter Tryz.func184, Tryz.ntmps184
  go_wp2_with fail
  refine (pop_some W rb s k d _ hr g1).mono ?_
  rintro e w1 ⟨rfl, h1, h2⟩
  rw [H.out.2]
  obtain ⟨cb, hg, he⟩ := h1.err 27 (by decide) (by decide)
  go_wp2_with (go_at_call 132; refine (fault_c rb s (k + 1) d _ h1.rdr _ _).mono ?_; rintro e w' ⟨rfl, rfl⟩)
  refine ⟨rfl, res_none ?_ (thrown_new h2 he)⟩
  obtain ⟨d0, d1, d2, d3, d4, d5, d6, d7⟩ := D.out
  simp [esc, d0, d1, d2, d3, d4, d5, d6, d7, D8.out]
end Go.Proofs.YtocligpfmfmihabGreatDoor
namespace Go.Proofs.YtocligpfmfmihabGreatDoor
open Go Go.RowKit

/-- What isWhole tells. -/
def wholeB (l : List UInt8) (m : Bool) : Bool := if l == [48] then !m else (l != [] && l.head? != some 48)

theorem isWhole_c (w : World) (a : ByteArray) (m : Bool) (ha : a.size ≤ 600) (bb : Bool) (hbb : wholeB a.data.toList m = bb) :
    Calls Tryz.prog 186 #[.string a, .bool m] w fun e w' => e = .returned (.bool bb) ∧ w' = w := by
  subst hbb
  obtain ⟨⟨l⟩⟩ := a
  by_cases h1 : l = [48]
  · subst h1
    go_enter Tryz.func186, Tryz.ntmps186
    go_wp2
    go_ret
    exact ⟨rfl, rfl⟩
  · have h2 : (ByteArray.toList ⟨⟨l⟩⟩ == [48]) = false := by
      rw [Lib.toList_data]; simpa using h1
    rcases l with _ | ⟨c, t⟩
    · go_enter Tryz.func186, Tryz.ntmps186
      go_wp2
      go_ret
      exact ⟨rfl, rfl⟩
    · have H1 := hide h1
      clear h1
      have hpos : 0 < (ByteArray.mk ⟨c :: t⟩).size := by simp [ByteArray.size]
      go_enter Tryz.func186, Tryz.ntmps186
      go_wp2
      · rename_i hh
        exfalso
        apply H1.out
        simp at hh
        simp [hh]
      · go_ret
        refine ⟨?_, rfl⟩
        have e1 : wholeB (c :: t) m = (c != 48) := by
          unfold wholeB
          rw [if_neg (by simpa using H1.out)]
          simp [bne]
        have e2 : (((c.toNat : Int)) != 48) = (c != 48) := by
          have := u8b c 48
          simp only [bne, ← this]; rfl
        rw [e1, ← e2]; rfl

/-! digits -/
theorem natOf_app (l : List UInt8) (c : UInt8) : natOf (l ++ [c]) = natOf l * 10 + (c.toNat - 48) := by simp [natOf]
theorem natOf_mono (l m : List UInt8) : natOf l ≤ natOf (l ++ m) := by
  induction m generalizing l with
  | nil => simp
  | cons c m ih =>
    have := ih (l ++ [c])
    rw [natOf_app] at this
    rw [show l ++ c :: m = l ++ [c] ++ m by simp]
    omega
theorem dgs_split {l D r : List UInt8} (h : l = D ++ r) (hD : ∀ c ∈ D, isDg c = true) : dgs l = D ++ dgs r ∧ l.dropWhile isDg = r.dropWhile isDg := by
  subst h
  unfold dgs
  constructor
  · rw [List.takeWhile_append_of_pos hD]
  · rw [List.dropWhile_append_of_pos hD]
theorem natOf_pos {d : List UInt8} (hd : ∀ c ∈ d, isDg c = true) (hw : whole d = true) : natOf d = 0 ↔ d = [48] := by
  constructor
  · intro h0
    unfold whole at hw
    rcases d with _ | ⟨c, t⟩
    · simp at hw
    · simp only [Bool.or_eq_true, Bool.and_eq_true, beq_iff_eq, bne_iff_ne, ne_eq, List.head?_cons, Option.some.injEq] at hw
      rcases hw with h | ⟨_, h⟩
      · exact h
      · exfalso
        have h1 := natOf_mono [c] t
        have h2 : natOf [c] = c.toNat - 48 := by simp [natOf]
        have h3 := (hexV_dg (hd c (by simp))).2
        have h4 : c.toNat ≠ 48 := fun e => h (UInt8.toNat_inj.1 e)
        simp only [List.singleton_append] at h1
        omega
  · rintro rfl; decide
theorem wholeB_false (l : List UInt8) : wholeB l false = whole l := by
  unfold wholeB whole
  by_cases h : l = [48]
  · simp [h]
  · have : (l == [48]) = false := by simpa using h
    simp [this]
theorem wholeB_true (l : List UInt8) : wholeB l true = (whole l && !(l == [48])) := by
  unfold wholeB whole
  by_cases h : l = [48]
  · simp [h]
  · have : (l == [48]) = false := by simpa using h
    simp [this]
theorem dgs_all (l : List UInt8) : ∀ c ∈ dgs l, isDg c = true := List.all_eq_true.1 List.all_takeWhile

/-- What number answers behind the sign. -/
def numT (m : Bool) (l : List UInt8) : Option (Int × List UInt8) :=
  if wholeB (dgs l) m = true ∧ natOf (dgs l) ≤ maxNum then some ((if m then -(natOf (dgs l) : Int) else natOf (dgs l)), l.dropWhile isDg) else none
theorem numT_false (l : List UInt8) (hl : l.head? ≠ some 45) (hne : l ≠ []) : numT false l = pNum l := by
  rcases l with _ | ⟨c, t⟩
  · exact absurd rfl hne
  · have hc : c ≠ 45 := by simpa using hl
    unfold numT pNum pNat
    simp only [if_neg hc, wholeB_false]
    by_cases h : whole (dgs (c :: t)) = true ∧ natOf (dgs (c :: t)) ≤ maxNum
    · rw [if_pos h, if_pos (show (whole (dgs (c :: t)) && decide (natOf (dgs (c :: t)) ≤ maxNum)) = true by simpa using h)]; rfl
    · rw [if_neg h, if_neg (show ¬ (whole (dgs (c :: t)) && decide (natOf (dgs (c :: t)) ≤ maxNum)) = true by simpa using h)]; rfl
theorem numT_true (t : List UInt8) : numT true t = pNum (45 :: t) := by
  unfold numT pNum pNat
  simp only [if_true, wholeB_true]
  by_cases h : whole (dgs t) = true ∧ natOf (dgs t) ≤ maxNum
  · have h2 := natOf_pos (dgs_all t) h.1
    rw [if_pos (show (whole (dgs t) && decide (natOf (dgs t) ≤ maxNum)) = true by simpa using h)]
    by_cases h0 : dgs t = [48]
    · rw [if_neg (by simp [h0])]
      simp [h0, natOf]
    · rw [if_pos (by simp [h.1, h.2, h0])]
      simp [mt h2.1 h0]
  · rw [if_neg (by intro ⟨a, b⟩; simp at a; exact h ⟨a.1, b⟩)]
    rw [if_neg (show ¬ (whole (dgs t) && decide (natOf (dgs t) ≤ maxNum)) = true by simpa using h)]

theorem take_rest {s : ByteArray} {a b : Nat} (h : a ≤ b) : rest s a = (s.extract a b).data.toList ++ rest s b := by
  rw [Lib.extract_data]
  unfold rest
  have : s.data.toList.drop b = (s.data.toList.drop a).drop (b - a) := by rw [List.drop_drop]; congr 1; omega
  rw [this, List.take_append_drop]
theorem ext_snoc {s : ByteArray} {a b : Nat} (h : a ≤ b) (hb : b < s.size) : (s.extract a (b + 1)).data.toList = (s.extract a b).data.toList ++ [s[b]] := by
  rw [Lib.extract_data, Lib.extract_data]
  have e : b + 1 - a = (b - a) + 1 := by omega
  rw [e, List.take_succ_eq_append_getElem (by simp; omega)]
  congr 2
  simp only [List.getElem_drop]
  have : a + (b - a) = b := by omega
  simp only [this]
  rfl

theorem next_o (W : World) (rb : Nat) (s : ByteArray) (k d : Nat) (w : World) (hr : St W w rb s k d) (c : UInt8) (hc : nxt (rest s k) = c) :
    Calls Tryz.prog 159 #[.pointer (some ⟨rb, 0, none⟩)] w fun e w' =>
      e = .returned (.int .u8 c.toNat) ∧ St W w' rb s k d ∧ Kp (· = rb) w w' := by
  subst hc
  exact (next_c W rb s k d w hr).mono (by rintro e w' ⟨rfl, n, rfl⟩; exact ⟨rfl, hr.drewN n, (Kp.refl _ _).drewN n⟩)

theorem number_tail (W : World) (rb : Nat) (s : ByteArray) (d : Nat) (w0 : World) (m : Bool) (l : List UInt8)
    (hcall : Calls Tryz.prog 185 #[.pointer (some ⟨rb, 0, none⟩), .int .u8 45] w0 fun e w' => e = .returned (.bool m) ∧ Kp (· = rb) w0 w' ∧ ∃ k', St W w' rb s k' d ∧ rest s k' = l) :
    Calls Tryz.prog 164 #[.pointer (some ⟨rb, 0, none⟩)] w0 fun e w' => Res W rb s d w0 (numT m l) (fun _ x v => v = .int .i64 x) e w' := by
  go_enter Tryz.func164, Tryz.ntmps164
  go_wp2_with fail
  refine hcall.mono ?_
  rintro e w ⟨rfl, hk0, k1, hr, hl⟩
  clear hcall
  have hsz := hr.sz
  have hle1 := hr.le
  have HL := hide hl
  clear hl
  obtain ⟨c0, c1, c2, f1, f2, hb⟩ := hr.rdr.facts
  go_wp2_with fail
  go_loopg [5] (s.size - k1) (fun g a wr => ∃ (n k' : Nat), g = s.size - k' ∧ k1 ≤ k' ∧ St W wr rb s k' d ∧ Kp (· = rb) w0 wr ∧ a = .int .i64 (n : Int) ∧ n = natOf (s.extract k1 k').data.toList ∧ n ≤ maxNum ∧ ∀ c ∈ (s.extract k1 k').data.toList, isDg c = true)
  case atStart =>
    have e0 : (s.extract k1 k1).data.toList = [] := by rw [Lib.extract_data]; simp
    exact ⟨0, k1, rfl, Nat.le_refl _, hr, hk0, rfl, by rw [e0]; rfl, by decide, by rw [e0]; simp⟩
  case round =>
    obtain ⟨n, k', hg, hkk, h1, h2, rfl, h3, h4, h5⟩ := hrel
    have H := hide (And.intro hg (And.intro h3 h5))
    have hn : (n : Int) ≤ 9007199254740991 := by unfold maxNum at h4; omega
    clear hg h3 h5
    have hle := h1.le
    generalize hc : nxt (rest s k') = c
    have HC := hide hc
    clear hc
    have hc256 : c.toNat < 256 := c.toNat_lt
    go_wp2_with fail
    refine (next_o W rb s k' d _ h1 c HC.out).mono ?_
    rintro e wq ⟨rfl, h1q, h2q⟩
    replace h2q := h2.trans h2q
    clear h1 h2
    obtain ⟨b0, b1, b2, b3, b4, hb'⟩ := h1q.rdr.facts
    cases hdg : isDg c with
    | false =>
      have D := hide hdg
      clear hdg
      have hext : (s.extract k1 k').size ≤ 600 := by
        have : (s.extract k1 k').size = (s.extract k1 k').data.toList.length := by rw [Array.length_toList]; rfl
        rw [this, Lib.extract_data, List.length_take, List.length_drop]; simp; omega
      obtain ⟨cb, hg, he⟩ := h1q.err 22 (by decide) (by decide)
      have hfin : dgs l = (s.extract k1 k').data.toList ∧ l.dropWhile isDg = rest s k' := by
        have e1 := dgs_split (take_rest (s := s) hkk) H.out.2.2
        rw [HL.out] at e1
        have e2 : dgs (rest s k') = [] ∧ (rest s k').dropWhile isDg = rest s k' := by
          have := HC.out
          generalize rest s k' = r at this
          rcases r with _ | ⟨a, r⟩
          · simp [dgs]
          · simp only [nxt, List.headD_cons] at this
            subst this
            simp [dgs, D.out]
        rw [e2.1, e2.2, List.append_nil] at e1
        exact e1
      have FI := hide hfin
      clear hfin
      generalize hwb : wholeB (s.extract k1 k').data.toList m = bb
      have WB := hide hwb
      clear hwb
      go_wp2_with fail
      refine (isDigit_c _ c).mono ?_
      rintro e w2 ⟨rfl, rfl⟩
      rw [D.out]
      go_wp2_with fail
      cases bb with
      | false =>
        go_quiet ((go_at_call 186; exact Calls.quiet_of_same (isWhole_c _ _ _ hext false WB.out)))
        go_wp2_with (go_at_call 132; refine (fault_c rb s k' d _ (h1q.drewN _).rdr _ _).mono ?_; rintro e w' ⟨rfl, rfl⟩)
        refine ⟨rfl, res_none ?_ (thrown_new (h2q.drewN _) he)⟩
        unfold numT
        rw [FI.out.1, WB.out]
        simp
      | true =>
        go_quiet ((go_at_call 186; exact Calls.quiet_of_same (isWhole_c _ _ _ hext true WB.out)))
        have e3 : numT m l = some ((if m then -(n : Int) else n), rest s k') := by
          unfold numT
          rw [FI.out.1, FI.out.2, WB.out, ← H.out.2.1, if_pos ⟨rfl, h4⟩]
        have E3 := hide e3
        clear e3
        cases m with
        | true =>
          go_wp2
          go_ret
          exact res_some E3.out (h2q.drewN _) rfl (h1q.drewN _) rfl
        | false =>
          go_wp2
          go_ret
          exact res_some E3.out (h2q.drewN _) rfl (h1q.drewN _) rfl
    | true =>
      have hd2 := hexV_dg hdg
      obtain ⟨_, hd3, hd4⟩ := hd2
      have D := hide hdg
      clear hdg
      go_wp2_with fail
      refine (isDigit_c _ c).mono ?_
      rintro e w2 ⟨rfl, rfl⟩
      rw [D.out]
      go_wp2_with fail
      refine (next_o W rb s k' d _ h1q c HC.out).mono ?_
      rintro e wz ⟨rfl, h1z, h2z⟩
      replace h2z := h2q.trans h2z
      clear b0 b1 b2 b3 b4
      obtain ⟨b0, b1, b2, b3, b4, hb'⟩ := h1z.rdr.facts
      obtain ⟨cb, hg, he⟩ := h1z.err 21 (by decide) (by decide)
      have hkl : k' < s.size := by
        rcases Nat.lt_or_ge k' s.size with h | h
        · exact h
        · exfalso
          have := HC.out
          rw [rest_nil h] at this
          subst this
          simp [nxt] at hd3
      have hck : s[k'] = c := by
        have := HC.out
        rw [rest_cons hkl] at this
        exact this
      have hnat : natOf (s.extract k1 (k' + 1)).data.toList = n * 10 + (c.toNat - 48) := by
        rw [ext_snoc hkk hkl, natOf_app, hck, ← H.out.2.1]
      have hall : ∀ x ∈ (s.extract k1 (k' + 1)).data.toList, isDg x = true := by
        rw [ext_snoc hkk hkl, hck]
        intro x hx
        rcases List.mem_append.1 hx with h | h
        · exact H.out.2.2 x h
        · obtain rfl : x = c := by simpa using h
          exact D.out
      have N := hide (And.intro hnat hall)
      clear hnat hall hck
      by_cases hgt : 9007199254740991 < (n : Int) * 10 + ((c.toNat : Int) - 48)
      · go_wp2_with (go_at_call 132; refine (fault_c rb s k' d _ h1z.rdr _ _).mono ?_; rintro e w' ⟨rfl, rfl⟩)
        refine ⟨rfl, res_none ?_ (thrown_new h2z he)⟩
        unfold numT
        rw [if_neg]
        rintro ⟨_, h6⟩
        have e1 := dgs_split (take_rest (s := s) (show k1 ≤ k' + 1 by omega)) N.out.2
        rw [HL.out] at e1
        rw [e1.1] at h6
        have h7 := natOf_mono (s.extract k1 (k' + 1)).data.toList (dgs (rest s (k' + 1)))
        have h8 := N.out.1
        unfold maxNum at h6
        omega
      · have hgt' : ((n : Int) * 10 + ((c.toNat : Int) - 48)) ≤ 9007199254740991 := by omega
        clear hgt
        go_wp2_with fail
        go_roundg (s.size - (k' + 1))
        case measure => rw [H.out.1]; omega
        case rel =>
          refine ⟨n * 10 + (c.toNat - 48), k' + 1, rfl, by omega, h1z.at (k' + 1) hkl, Kp.setCell (p := ⟨rb, 1, none⟩) h2z (fun _ => rfl) _, int_i64 (by omega), N.out.1.symm, by unfold maxNum; omega, N.out.2⟩

theorem number_c (W : World) (rb : Nat) (s : ByteArray) (k d : Nat) (w : World) (hr : St W w rb s k d) (c : UInt8) (t : List UInt8) (hl : rest s k = c :: t) (hc : c = 45 ∨ isDg c = true) :
    Calls Tryz.prog 164 #[.pointer (some ⟨rb, 0, none⟩)] w fun e w' => Res W rb s d w (pNum (c :: t)) (fun _ x v => v = .int .i64 x) e w' := by
  by_cases h : c = 45
  · subst h
    rw [← numT_true]
    refine number_tail W rb s d w true t ?_
    refine (take_yes W rb s k d w hr 45 45 rfl t ?_).mono ?_
    · rw [hl]; simp [sk, isBl]
    · rintro e w' ⟨rfl, h⟩; exact ⟨rfl, h⟩
  · have hb : sk (c :: t) = c :: t := by
      have : isBl c = false := by
        have h2 := hexV_dg (hc.resolve_left h)
        rw [isBl_eq]
        simp; omega
      simp [sk, this]
    rw [← numT_false _ (by simpa using h) (by simp)]
    refine number_tail W rb s d w false (c :: t) ?_
    refine (take_no W rb s k d w hr 45 45 rfl (by decide) ?_).mono ?_
    · rw [hl, hb]; simpa using h
    · rintro e w' ⟨rfl, h1, k', h2, h3⟩
      exact ⟨rfl, h1, k', h2, by rw [h3, hl, hb]⟩

/-- The program's value of a scalar. -/
def wordV (x : J) (v : Value) : Prop := (x = .null ∧ v = .iface 194 (.agg #[])) ∨ ∃ b, x = .bool b ∧ v = .iface 195 (.bool b)
theorem pWord_1 {l : List UInt8} (h : begB l [110, 117, 108, 108] = true) : pWord l = some (.null, l.drop 4) := by
  simp only [begB, List.length_cons, List.length_nil, beq_iff_eq] at h
  simp [pWord, h]
theorem pWord_2 {l : List UInt8} (_h0 : begB l [110, 117, 108, 108] = false) (h : begB l [116, 114, 117, 101] = true) : pWord l = some (.bool true, l.drop 4) := by
  simp only [begB, List.length_cons, List.length_nil, beq_iff_eq] at h
  simp [pWord, h]
theorem pWord_3 {l : List UInt8} (h0 : begB l [110, 117, 108, 108] = false) (h1 : begB l [116, 114, 117, 101] = false) (h : begB l [102, 97, 108, 115, 101] = true) : pWord l = some (.bool false, l.drop 5) := by
  simp only [begB, List.length_cons, List.length_nil, beq_iff_eq, beq_eq_false_iff_ne] at h h0 h1
  simp only [Nat.zero_add, Nat.reduceAdd] at h h0 h1
  rw [pWord, if_neg h0, if_neg h1, if_pos h]
theorem pWord_4 {l : List UInt8} (h0 : begB l [110, 117, 108, 108] = false) (h1 : begB l [116, 114, 117, 101] = false) (h : begB l [102, 97, 108, 115, 101] = false) : pWord l = none := by
  simp only [begB, List.length_cons, List.length_nil, beq_eq_false_iff_ne] at h h0 h1
  simp only [Nat.zero_add, Nat.reduceAdd] at h h0 h1
  rw [pWord, if_neg h0, if_neg h1, if_neg h]
theorem word_c (W : World) (rb : Nat) (s : ByteArray) (k d : Nat) (w : World) (hr : St W w rb s k d) :
    Calls Tryz.prog 165 #[.pointer (some ⟨rb, 0, none⟩)] w fun e w' =>
      Res W rb s d w (pWord (rest s k)) (fun _ x v => wordV x v) e w' := by
  generalize hl : rest s k = l
  have HL := hide hl
  clear hl
  cases h0 : begB l [110, 117, 108, 108] with
  | true =>
    have H0 := hide h0
    clear h0
    go_enter Tryz.func165, Tryz.ntmps165
    go_wp2_with fail
    refine (takeWord_c W rb s k d _ hr ⟨#[110, 117, 108, 108]⟩ (by decide) true (by rw [HL.out]; exact H0.out)).mono ?_
    rintro e w0 ⟨rfl, t0, k0, s0, q0⟩
    have T0 : Hid (rest s k0 = l.drop 4) := by rw [HL.out] at q0; exact q0
    clear q0
    go_wp2
    go_ret
    exact res_some (pWord_1 H0.out) t0 (Or.inl ⟨rfl, rfl⟩) s0 T0.out
  | false =>
    have H0 := hide h0
    clear h0
    cases h1 : begB l [116, 114, 117, 101] with
    | true =>
      have H1 := hide h1
      clear h1
      go_enter Tryz.func165, Tryz.ntmps165
      go_wp2_with fail
      refine (takeWord_c W rb s k d _ hr ⟨#[110, 117, 108, 108]⟩ (by decide) false (by rw [HL.out]; exact H0.out)).mono ?_
      rintro e w0 ⟨rfl, t0, k0, s0, q0⟩
      have T0 : Hid (rest s k0 = l) := by rw [HL.out] at q0; exact q0
      clear q0
      go_wp2_with fail
      refine (takeWord_c W rb s k0 d _ s0 ⟨#[116, 114, 117, 101]⟩ (by decide) true (by rw [T0.out]; exact H1.out)).mono ?_
      rintro e w1 ⟨rfl, t1, k1, s1, q1⟩
      replace t1 := t0.trans t1
      have T1 : Hid (rest s k1 = l.drop 4) := by rw [T0.out] at q1; exact q1
      clear q1
      go_wp2
      go_ret
      exact res_some (pWord_2 H0.out H1.out) t1 (Or.inr ⟨true, rfl, rfl⟩) s1 T1.out
    | false =>
      have H1 := hide h1
      clear h1
      cases h2 : begB l [102, 97, 108, 115, 101] with
      | true =>
        have H2 := hide h2
        clear h2
        go_enter Tryz.func165, Tryz.ntmps165
        go_wp2_with fail
        refine (takeWord_c W rb s k d _ hr ⟨#[110, 117, 108, 108]⟩ (by decide) false (by rw [HL.out]; exact H0.out)).mono ?_
        rintro e w0 ⟨rfl, t0, k0, s0, q0⟩
        have T0 : Hid (rest s k0 = l) := by rw [HL.out] at q0; exact q0
        clear q0
        go_wp2_with fail
        refine (takeWord_c W rb s k0 d _ s0 ⟨#[116, 114, 117, 101]⟩ (by decide) false (by rw [T0.out]; exact H1.out)).mono ?_
        rintro e w1 ⟨rfl, t1, k1, s1, q1⟩
        replace t1 := t0.trans t1
        have T1 : Hid (rest s k1 = l) := by rw [T0.out] at q1; exact q1
        clear q1
        go_wp2_with fail
        refine (takeWord_c W rb s k1 d _ s1 ⟨#[102, 97, 108, 115, 101]⟩ (by decide) true (by rw [T1.out]; exact H2.out)).mono ?_
        rintro e w2 ⟨rfl, t2, k2, s2, q2⟩
        replace t2 := t1.trans t2
        have T2 : Hid (rest s k2 = l.drop 5) := by rw [T1.out] at q2; exact q2
        clear q2
        go_wp2
        go_ret
        exact res_some (pWord_3 H0.out H1.out H2.out) t2 (Or.inr ⟨false, rfl, rfl⟩) s2 T2.out
      | false =>
        have H2 := hide h2
        clear h2
        go_enter Tryz.func165, Tryz.ntmps165
        go_wp2_with fail
        refine (takeWord_c W rb s k d _ hr ⟨#[110, 117, 108, 108]⟩ (by decide) false (by rw [HL.out]; exact H0.out)).mono ?_
        rintro e w0 ⟨rfl, t0, k0, s0, q0⟩
        have T0 : Hid (rest s k0 = l) := by rw [HL.out] at q0; exact q0
        clear q0
        go_wp2_with fail
        refine (takeWord_c W rb s k0 d _ s0 ⟨#[116, 114, 117, 101]⟩ (by decide) false (by rw [T0.out]; exact H1.out)).mono ?_
        rintro e w1 ⟨rfl, t1, k1, s1, q1⟩
        replace t1 := t0.trans t1
        have T1 : Hid (rest s k1 = l) := by rw [T0.out] at q1; exact q1
        clear q1
        go_wp2_with fail
        refine (takeWord_c W rb s k1 d _ s1 ⟨#[102, 97, 108, 115, 101]⟩ (by decide) false (by rw [T1.out]; exact H2.out)).mono ?_
        rintro e w2 ⟨rfl, t2, k2, s2, q2⟩
        replace t2 := t1.trans t2
        have T2 : Hid (rest s k2 = l) := by rw [T1.out] at q2; exact q2
        clear q2
        obtain ⟨cb, hg, he⟩ := s2.err 19 (by decide) (by decide)
        go_wp2_with (go_at_call 132; refine (fault_c rb s k2 d _ s2.rdr _ _).mono ?_; rintro e w' ⟨rfl, rfl⟩)
        exact ⟨rfl, res_none (pWord_4 H0.out H1.out H2.out) (thrown_new t2 he)⟩
end Go.Proofs.YtocligpfmfmihabGreatDoor

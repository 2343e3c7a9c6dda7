import Derived.Test.YtocligpfmfmihaaGreatDoorRd4
import Derived.Test.YtocligpfmfmihaaGreatDoorRef2G
namespace Go.Proofs.YtocligpfmfmihaaGreatDoor
open Go Go.RowKit

theorem ext_len {s : ByteArray} {a b : Nat} (h : b ≤ s.size) : (s.extract a b).data.toList.length = b - a := by
  rw [Lib.extract_data]
  simp
  omega
theorem drop_of_dgs {l : Bs} (h : dgs l = []) : l.dropWhile isDg = l := by
  have := List.takeWhile_append_dropWhile (p := isDg) (l := l)
  unfold dgs at h
  rw [h] at this
  simpa using this
theorem ext_head {s : ByteArray} {a b : Nat} (h : a < b) (hb : b ≤ s.size) : ∃ t, (s.extract a b).data.toList = nxt (rest s a) :: t ∧ t.length + 1 = b - a := by
  have h1 := take_rest (s := s) (Nat.le_of_lt h)
  have h2 := ext_len (a := a) hb
  generalize (s.extract a b).data.toList = D at *
  cases D with
  | nil => simp at h2; omega
  | cons c t =>
    refine ⟨t, ?_, by simpa using h2⟩
    rw [h1]
    rfl
theorem num_none {m : Bool} {s : ByteArray} {k1 k' : Nat} (hk : k1 ≤ k') (hb : k' ≤ s.size) (hD : ∀ c ∈ (s.extract k1 k').data.toList, isDg c = true)
    (hbad : maxNum < natOf (s.extract k1 k').data.toList ∨ (k1 + 1 < k' ∧ nxt (rest s k1) = 48)) : numT m (rest s k1) = none := by
  have e := (dgs_split (take_rest (s := s) hk) hD).1
  unfold numT
  rw [if_neg]
  rintro ⟨h1, h2⟩
  rw [e] at h1 h2
  rcases hbad with h | ⟨h, h0⟩
  · have := natOf_mono (s.extract k1 k').data.toList (dgs (rest s k'))
    omega
  · obtain ⟨t, ht, hl⟩ := ext_head (s := s) (show k1 < k' by omega) hb
    rw [ht, h0] at h1
    have hne : (48 :: t) ++ dgs (rest s k') ≠ [48] := by
      cases t with
      | nil => simp at hl; omega
      | cons a t => simp
    unfold wholeB at h1
    rw [if_neg (by simpa using hne)] at h1
    simp at h1
theorem num_end {m : Bool} {s : ByteArray} {k1 k' : Nat} (hk : k1 ≤ k') (hb : k' ≤ s.size) (hD : ∀ c ∈ (s.extract k1 k').data.toList, isDg c = true) (hstop : dgs (rest s k') = [])
    (hn : natOf (s.extract k1 k').data.toList ≤ maxNum) (hz : k' ≤ k1 + 1 ∨ nxt (rest s k1) ≠ 48) :
    numT m (rest s k1) = if k' = k1 ∨ (m = true ∧ natOf (s.extract k1 k').data.toList = 0) then none else some ((if m then -(natOf (s.extract k1 k').data.toList : Int) else natOf (s.extract k1 k').data.toList), rest s k') := by
  obtain ⟨e1, e2⟩ := dgs_split (take_rest (s := s) hk) hD
  rw [hstop, List.append_nil] at e1
  rw [drop_of_dgs hstop] at e2
  unfold numT
  rw [e1, e2]
  rcases Nat.eq_or_lt_of_le hk with rfl | hlt
  · have e0 : (s.extract k1 k1).data.toList = [] := by rw [Lib.extract_data]; simp
    rw [e0, if_pos (Or.inl rfl), if_neg]
    rintro ⟨h, _⟩
    simp [wholeB] at h
  · obtain ⟨t, ht, hl⟩ := ext_head (s := s) hlt hb
    have hw : whole (s.extract k1 k').data.toList = true := by
      rw [ht]
      unfold whole
      rcases hz with hz | hz
      · have : t = [] := List.eq_nil_of_length_eq_zero (by omega)
        subst this
        by_cases h : nxt (rest s k1) = 48 <;> simp [h]
      · simp [hz]
    have hp := natOf_pos hD hw
    generalize (s.extract k1 k').data.toList = D at *
    cases m with
    | false =>
      have hno : ¬ (k' = k1 ∨ (false = true ∧ natOf D = 0)) := by
        rintro (h | ⟨h, _⟩)
        · omega
        · cases h
      rw [wholeB_false, hw, if_pos ⟨rfl, hn⟩, if_neg hno]
    | true =>
      rw [wholeB_true, hw]
      by_cases h0 : natOf D = 0
      · have h1 : k' = k1 ∨ (true = true ∧ natOf D = 0) := Or.inr ⟨rfl, h0⟩
        rw [if_pos h1, if_neg]
        rintro ⟨h, _⟩
        simp [hp.1 h0] at h
      · have hno : ¬ (k' = k1 ∨ (true = true ∧ natOf D = 0)) := by
          rintro (h | ⟨_, h⟩)
          · omega
          · exact h0 h
        have hyes : (true && !(D == [48])) = true ∧ natOf D ≤ maxNum := ⟨by simp [mt hp.2 h0], hn⟩
        rw [if_neg hno, if_pos hyes]
end Go.Proofs.YtocligpfmfmihaaGreatDoor
namespace Go.Proofs.YtocligpfmfmihaaGreatDoor
open Go Go.RowKit
variable {W w w' : World} {rb k : Nat} {s : ByteArray} {bad : Bool}
theorem Rs.at2 (h : Rs W w rb s k bad) (k' : Nat) (b : Bool) (h1 : k' ≤ s.size + 9) (h2 : b = false → k' ≤ s.size) : Rs W ((w.setCell ⟨rb, 1, none⟩ (.int .i64 k')).setCell ⟨rb, 2, none⟩ (.bool b)) rb s k' b := by
  refine ⟨h.gl, (h.old.setCell (p := ⟨rb, 1, none⟩) h.ge _).setCell (p := ⟨rb, 2, none⟩) h.ge _, ?_, h.ge, h.sz, h1, h2⟩
  have := h.rdr
  simp [World.setCell, Array.getElem?_modify, this]
/-- word, whatever comes. -/
theorem rword_c (h : Rs W w rb s k bad) (t : ByteArray) (ht : t.size ≤ 10) :
    Calls Tryz.prog 125 #[.pointer (some ⟨rb, 0, none⟩), .string t] w fun e w' => e = .returned (.tuple #[]) ∧ Kp (· = rb) w w' ∧
      ∃ k' bad', Rs W w' rb s k' bad' ∧ (k' ≤ k ∨ k' ≤ s.size) ∧ ((bad = false ∧ bad' = false ∧ ∃ r, rest s k = t.data.toList ++ r ∧ rest s k' = r) ∨ (bad' = true ∧ k' = k ∧ (bad = true ∨ ∀ r, rest s k ≠ t.data.toList ++ r))) := by
  cases bad with
  | true =>
    refine (word_bad h t).mono ?_
    rintro e w1 ⟨rfl, K1, h1⟩
    exact ⟨rfl, K1, k, true, h1, Or.inl (Nat.le_refl _), Or.inr ⟨rfl, rfl, Or.inl rfl⟩⟩
  | false =>
    by_cases hp : ∃ r, rest s k = t.data.toList ++ r
    · obtain ⟨r, hp⟩ := hp
      refine (word_yes h t ht r hp).mono ?_
      rintro e w1 ⟨rfl, K1, k1, h1, h2⟩
      exact ⟨rfl, K1, k1, false, h1, Or.inr (h1.good rfl), Or.inl ⟨rfl, rfl, r, hp, h2⟩⟩
    · refine (word_no h t ht (fun r e => hp ⟨r, e⟩)).mono ?_
      rintro e w1 ⟨rfl, K1, h1⟩
      exact ⟨rfl, K1, k, true, h1, Or.inl (Nat.le_refl _), Or.inr ⟨rfl, rfl, Or.inr fun r e => hp ⟨r, e⟩⟩⟩

/-- What escape comes to. -/
def EsR (W w : World) (rb : Nat) (s : ByteArray) (o : Option (Nat × Bs)) (e : Ending) (w' : World) : Prop :=
  ∃ v : Int, e = .returned (.int .i32 v) ∧ 0 ≤ v ∧ v < 100000000 ∧ Kp (· = rb) w w' ∧ ∃ k' bad', Rs W w' rb s k' bad' ∧ match o with | some (x, r) => bad' = false ∧ v = (x : Int) ∧ rest s k' = r | none => bad' = true
theorem esR_some {o : Option (Nat × Bs)} {x k' : Nat} {r : Bs} (ho : o = some (x, r)) (hx : x < 100000000) (hk : Kp (· = rb) w w') (hs : Rs W w' rb s k' false) (hr : rest s k' = r) : EsR W w rb s o (.returned (.int .i32 (x : Int))) w' := by
  subst ho
  exact ⟨_, rfl, by omega, by omega, hk, k', false, hs, rfl, rfl, hr⟩
theorem esR_none {o : Option (Nat × Bs)} {k' : Nat} {v : Int} (ho : o = none) (h0 : 0 ≤ v) (h1 : v < 100000000) (hk : Kp (· = rb) w w') (hs : Rs W w' rb s k' true) : EsR W w rb s o (.returned (.int .i32 v)) w' := by
  subst ho
  exact ⟨_, rfl, h0, h1, hk, k', true, hs, rfl⟩

set_option maxRecDepth 20000 in
set_option maxHeartbeats 1000000 in
theorem resc_c (h : Rs W w rb s k false) (l : Bs) (hl : rest s k = 92 :: l) :
    Calls Tryz.prog 171 #[.pointer (some ⟨rb, 0, none⟩)] w fun e w' => EsR W w rb s (esc l) e w' := by
  have hsz := h.sz
  go_enter Tryz.func171, Tryz.ntmps171
  go_wp2_with fail
  refine (word_yes h ⟨#[92]⟩ (by decide) l hl).mono ?_
  rintro e w1 ⟨rfl, K1, k1, h1, r1⟩
  clear hl
  have hg := h1.good rfl
  obtain ⟨c0, c1, c2, f1, f2, hb⟩ := h1.facts
  have hlen := rest_len s k1
  rw [r1] at hlen
  have hr2 : rest s (k1 + 1) = l.tail := by rw [rest_add, r1, List.drop_one]
  have R := hide (And.intro r1 hr2)
  clear r1 hr2
  go_wp2_with fail
  refine (peek_c h1).mono ?_
  rintro e w2 ⟨rfl, n, rfl⟩
  rw [R.out.1]
  have fin : ∀ u : Value, Kp (· = rb) w ((w1.drewN n).setCell ⟨rb, 1, none⟩ u) := fun u => Kp.setCell (p := ⟨rb, 1, none⟩) (K1.drewN n) (fun _ => rfl) u
  have FIN := hide fin
  clear fin
  rcases l with _ | ⟨c, t⟩
  · simp only [nxt, List.headD_nil]
    go_wp2
    go_ret
    exact esR_none rfl (by omega) (by omega) (Kp.setCell (p := ⟨rb, 2, none⟩) (FIN.out _) (fun _ => rfl) _) ((h1.drewN n).at2 (k1 + 1) true (by omega) (fun e => by cases e))
  simp only [nxt, List.headD_cons]
  simp only [List.length_cons] at hlen
  by_cases e34 : c = 34
  · subst e34
    go_wp2
    go_ret
    exact esR_some (x := 34) (k' := k1 + 1) (by simp [esc]) (by omega) (FIN.out _) ((h1.drewN n).at (k1 + 1) (by omega) (fun _ => by omega)) R.out.2
  by_cases e92 : c = 92
  · subst e92
    go_wp2
    go_ret
    exact esR_some (x := 92) (k' := k1 + 1) (by simp [esc]) (by omega) (FIN.out _) ((h1.drewN n).at (k1 + 1) (by omega) (fun _ => by omega)) R.out.2
  by_cases e47 : c = 47
  · subst e47
    go_wp2
    go_ret
    exact esR_some (x := 47) (k' := k1 + 1) (by simp [esc]) (by omega) (FIN.out _) ((h1.drewN n).at (k1 + 1) (by omega) (fun _ => by omega)) R.out.2
  by_cases e98 : c = 98
  · subst e98
    go_wp2
    go_ret
    exact esR_some (x := 8) (k' := k1 + 1) (by simp [esc]) (by omega) (FIN.out _) ((h1.drewN n).at (k1 + 1) (by omega) (fun _ => by omega)) R.out.2
  by_cases e102 : c = 102
  · subst e102
    go_wp2
    go_ret
    exact esR_some (x := 12) (k' := k1 + 1) (by simp [esc]) (by omega) (FIN.out _) ((h1.drewN n).at (k1 + 1) (by omega) (fun _ => by omega)) R.out.2
  by_cases e110 : c = 110
  · subst e110
    go_wp2
    go_ret
    exact esR_some (x := 10) (k' := k1 + 1) (by simp [esc]) (by omega) (FIN.out _) ((h1.drewN n).at (k1 + 1) (by omega) (fun _ => by omega)) R.out.2
  by_cases e114 : c = 114
  · subst e114
    go_wp2
    go_ret
    exact esR_some (x := 13) (k' := k1 + 1) (by simp [esc]) (by omega) (FIN.out _) ((h1.drewN n).at (k1 + 1) (by omega) (fun _ => by omega)) R.out.2
  by_cases e116 : c = 116
  · subst e116
    go_wp2
    go_ret
    exact esR_some (x := 9) (k' := k1 + 1) (by simp [esc]) (by omega) (FIN.out _) ((h1.drewN n).at (k1 + 1) (by omega) (fun _ => by omega)) R.out.2
  have n34 := u8n e34
  have n92 := u8n e92
  have n47 := u8n e47
  have n98 := u8n e98
  have n102 := u8n e102
  have n110 := u8n e110
  have n114 := u8n e114
  have n116 := u8n e116
  have D := hide (And.intro e34 (And.intro e92 (And.intro e47 (And.intro e98 (And.intro e102 (And.intro e110 (And.intro e114 e116)))))))
  clear e34 e92 e47 e98 e102 e110 e114 e116
  simp only [UInt8.reduceToNat, Int.cast_ofNat_Int] at n34 n92 n47 n98 n102 n110 n114 n116
  by_cases e117 : c = 117
  · subst e117
    clear n34 n92 n47 n98 n102 n110 n114 n116
    have S1 := (h1.drewN n).at (k1 + 1) (by omega) (fun _ => by omega)
    have he : esc (117 :: t) = escU t := by simp [esc]
    have E := hide he
    clear he D
    go_wp2_with fail
    refine (hex_c S1 (by omega)).mono ?_
    rintro e w3 ⟨rfl, K3, h3⟩
    have hX := hxs_lt (rest s (k1 + 1)) 4
    have h4 := hex4_hxs t
    have hlen4 := hxs_len t 4
    rw [R.out.2] at h3 hX ⊢
    simp only [List.tail_cons] at h3 hX ⊢
    have hdr : rest s (k1 + 1 + 4) = t.drop 4 := by rw [rest_add, R.out.2]; rfl
    generalize hxs t 4 = X at *
    obtain ⟨X, ok⟩ := X
    simp only [Bool.false_or] at h3 hX h4 hlen4 ⊢
    have K3' := (FIN.out _).trans K3
    have H4 := hide (And.intro h4 (And.intro hdr hlen4))
    clear h4 hdr hlen4 K3 S1
    by_cases hx : X < 55296 ∨ 57343 < X
    · have done : EsR W w rb s (esc (117 :: t)) (.returned (.int .i32 (X : Int))) w3 := by
        cases ok with
        | true =>
          refine esR_some ?_ (by omega) K3' h3 H4.out.2.1
          rw [E.out, escU, H4.out.1]
          simp [hx]
        | false =>
          refine esR_none ?_ (by omega) (by omega) K3' h3
          rw [E.out, escU, H4.out.1]
          simp
      have DN := hide done
      clear done
      by_cases hx1 : (X : Int) < 55296
      · go_wp2
        go_ret
        exact DN.out
      · have hx2 : (57343 : Int) < X := by omega
        go_wp2
        go_ret
        exact DN.out
    · have hx1 : ¬ ((X : Int) < 55296) := by omega
      have hx2 : ¬ ((57343 : Int) < X) := by omega
      have HX := hide hx
      clear hx
      go_wp2_with fail
      refine (rword_c h3 ⟨#[92, 117]⟩ (by decide)).mono ?_
      rintro e w4 ⟨rfl, K4, k4, bad4, h5, hk4, hw⟩
      have HW := hide hw
      clear hw
      go_wp2_with fail
      refine (hex_c h5 (by omega)).mono ?_
      rintro e w5 ⟨rfl, K5, h6⟩
      have hY := hxs_lt (rest s k4) 4
      have g4 := hex4_hxs (rest s k4)
      have hdr : rest s (k4 + 4) = (rest s k4).drop 4 := rest_add _ _ _
      generalize hxs (rest s k4) 4 = Y at *
      obtain ⟨Y, ok2⟩ := Y
      simp only at h6 hY g4 ⊢
      have G4 := hide (And.intro g4 hdr)
      clear g4 hdr
      have K5' := (K3'.trans K4).trans K5
      obtain ⟨d0, d1, d2, q1, q2, hb5⟩ := h6.facts
      have val : (65536 + ((X : Int) - 55296) * 1024 + (Y : Int)) - 56320 = ((65536 + (X - 55296) * 1024 + Y - 56320 : Nat) : Int) := by omega
      by_cases hc : 56319 < X ∨ Y < 56320 ∨ 57343 < Y
      · have none' : esc (117 :: t) = none := by
          rw [E.out, escU, H4.out.1]
          cases ok with
          | false => rfl
          | true =>
            simp only [if_true]
            rw [if_neg HX.out]
            by_cases h7 : 56319 < X
            · rw [if_pos h7]
            · rw [if_neg h7]
              rcases HW.out with ⟨_, b4, r, p1, p2⟩ | ⟨b4, _, b5⟩
              · have p3 := H4.out.2.1.symm.trans p1
                show (match t.drop 4 with | a :: b :: q => _ | _ => _) = none
                rw [p3]
                simp only [List.cons_append, List.nil_append, and_self, if_true]
                rw [p2] at G4
                rw [G4.out.1]
                cases ok2 with
                | false => rfl
                | true =>
                  simp only [if_true]
                  rw [if_neg (by omega)]
              · rcases b5 with b5 | b5
                · cases b5
                · rw [H4.out.2.1] at b5
                  show (match t.drop 4 with | a :: b :: q => _ | _ => _) = none
                  split
                  · rename_i a b q hq
                    rw [if_neg]
                    rintro ⟨rfl, rfl⟩
                    exact b5 q hq
                  · rfl
        have NN := hide none'
        clear none'
        have cs : (56319 : Int) < X ∨ (¬ (56319 : Int) < X ∧ (Y : Int) < 56320) ∨ (¬ (56319 : Int) < X ∧ ¬ (Y : Int) < 56320 ∧ (57343 : Int) < Y) := by omega
        clear hc
        rcases cs with b1 | ⟨b1, b2⟩ | ⟨b1, b2, b3⟩
        all_goals
          go_wp2
          go_ret
          exact esR_none NN.out (by omega) (by omega) (Kp.setCell (p := ⟨rb, 2, none⟩) K5' (fun _ => rfl) _) (h6.turn true (fun e => by cases e))
      · have b1 : ¬ (56319 : Int) < X := by omega
        have b2 : ¬ (Y : Int) < 56320 := by omega
        have b3 : ¬ (57343 : Int) < Y := by omega
        have fini : EsR W w rb s (esc (117 :: t)) (.returned (.int .i32 ((65536 + (X - 55296) * 1024 + Y - 56320 : Nat) : Int))) w5 := by
          by_cases hgood : bad4 = false ∧ ok2 = true
          · obtain ⟨rfl, rfl⟩ := hgood
            rcases HW.out with ⟨o1, _, r, p1, p2⟩ | ⟨b4, _⟩
            · have o1' : ok = true := by simpa using o1
              subst o1'
              refine esR_some ?_ (by omega) K5' (by simpa using h6) rfl
              have p3 := H4.out.2.1.symm.trans p1
              rw [E.out, escU, H4.out.1]
              simp only [if_true]
              rw [if_neg HX.out, if_neg (by omega)]
              show (match t.drop 4 with | a :: b :: q => _ | _ => _) = _
              rw [p3]
              simp only [List.cons_append, List.nil_append, and_self, if_true]
              have g := G4.out.1
              rw [p2] at g
              rw [g]
              simp only [if_true]
              rw [if_pos (by omega), G4.out.2, p2]
              exact congrArg some (Prod.ext (by show _ = _; omega) rfl)
            · cases b4
          · have hb' : (bad4 || !ok2) = true := by
              cases bad4 <;> cases ok2 <;> simp_all
            rw [hb'] at h6
            refine esR_none ?_ (by omega) (by omega) K5' h6
            rw [E.out, escU, H4.out.1]
            cases ok with
            | false => rfl
            | true =>
              simp only [if_true]
              rw [if_neg HX.out, if_neg (by omega)]
              show (match t.drop 4 with | a :: b :: q => _ | _ => _) = none
              rcases HW.out with ⟨_, b4, r, p1, p2⟩ | ⟨b4, _, b5⟩
              · have p3 := H4.out.2.1.symm.trans p1
                rw [p3]
                simp only [List.cons_append, List.nil_append, and_self, if_true]
                have g := G4.out.1
                rw [p2] at g
                rw [g]
                have : ok2 = false := by
                  subst b4
                  simpa using hb'
                subst this
                rfl
              · rcases b5 with b5 | b5
                · cases b5
                · rw [H4.out.2.1] at b5
                  split
                  · rename_i a b q hq
                    rw [if_neg]
                    rintro ⟨rfl, rfl⟩
                    exact b5 q hq
                  · rfl
        have FI := hide fini
        clear fini hc
        go_wp2
        go_ret
        exact FI.out
  have n117 := u8n e117
  simp only [UInt8.reduceToNat, Int.cast_ofNat_Int] at n117
  have D2 := hide e117
  clear e117
  go_wp2
  go_ret
  refine esR_none ?_ (by omega) (by omega) (Kp.setCell (p := ⟨rb, 2, none⟩) (FIN.out _) (fun _ => rfl) _) ((h1.drewN n).at2 (k1 + 1) true (by omega) (fun e => by cases e))
  obtain ⟨d0, d1, d2, d3, d4, d5, d6, d7⟩ := D.out
  simp [esc, d0, d1, d2, d3, d4, d5, d6, d7, D2.out]
end Go.Proofs.YtocligpfmfmihaaGreatDoor

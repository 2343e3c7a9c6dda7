import Derived.Test.YtocligpfmfmihaaGreatDoorRd2
namespace Go.Proofs.YtocligpfmfmihaaGreatDoor
open Go Go.RowKit

theorem u8n {c d : UInt8} (h : c ≠ d) : ((c.toNat : Int) == (d.toNat : Int)) = false := by
  rw [u8b]; simpa using h
theorem rest_end {s : ByteArray} {k : Nat} (hl : rest s k = []) (hle : k ≤ s.size) : k = s.size := by
  rcases Nat.lt_or_ge k s.size with h | h
  · rw [rest_cons h] at hl; cases hl
  · omega

theorem escape_c (W : World) (rb : Nat) (s : ByteArray) (k d : Nat) (w : World) (hr : St W w rb s k d) :
    Calls Tryz.prog 208 #[.pointer (some ⟨rb, 0, none⟩)] w fun e w' =>
      Res W rb s d w (esc (rest s k)) (fun _ x v => v = .int .i32 (x : Int)) e w' := by
  have hsz := hr.sz
  generalize hl : rest s k = l
  rcases l with _ | ⟨c, t⟩
  · have hk := rest_end hl hr.le
    clear hl
    go_enter Tryz.func208, Tryz.ntmps208
    go_wp2_with fail
    refine (pop_none W rb s k d _ hr hk).mono ?_
    rintro e w1 ⟨h1, h2⟩
    obtain ⟨fb, k1, g, cb, rfl, h3⟩ := h2
    exact ⟨rfl, res_none rfl ⟨h1, fb, k1, g, cb, rfl, h3⟩⟩
  obtain ⟨g1, _, g3, g4⟩ := nxt_cons hl
  have g5 := g4 g1
  have H := hide (And.intro g3 g5)
  clear hl g3 g4 g5
  by_cases h0 : c = 34
  · subst h0
    go_enter Tryz.func208, Tryz.ntmps208
    go_wp2_with fail
    refine (pop_some W rb s k d _ hr g1).mono ?_
    rintro e w1 ⟨rfl, h1, h2⟩
    rw [H.out.2]
    go_wp2
    go_ret
    exact res_some (x := 34) (r := t) (by simp [esc]) h2 rfl h1 H.out.1
  by_cases h1 : c = 92
  · subst h1
    go_enter Tryz.func208, Tryz.ntmps208
    go_wp2_with fail
    refine (pop_some W rb s k d _ hr g1).mono ?_
    rintro e w1 ⟨rfl, h1, h2⟩
    rw [H.out.2]
    go_wp2
    go_ret
    exact res_some (x := 92) (r := t) (by simp [esc]) h2 rfl h1 H.out.1
  by_cases h2 : c = 47
  · subst h2
    go_enter Tryz.func208, Tryz.ntmps208
    go_wp2_with fail
    refine (pop_some W rb s k d _ hr g1).mono ?_
    rintro e w1 ⟨rfl, h1, h2⟩
    rw [H.out.2]
    go_wp2
    go_ret
    exact res_some (x := 47) (r := t) (by simp [esc]) h2 rfl h1 H.out.1
  by_cases h3 : c = 98
  · subst h3
    go_enter Tryz.func208, Tryz.ntmps208
    go_wp2_with fail
    refine (pop_some W rb s k d _ hr g1).mono ?_
    rintro e w1 ⟨rfl, h1, h2⟩
    rw [H.out.2]
    go_wp2
    go_ret
    exact res_some (x := 8) (r := t) (by simp [esc]) h2 rfl h1 H.out.1
  by_cases h4 : c = 102
  · subst h4
    go_enter Tryz.func208, Tryz.ntmps208
    go_wp2_with fail
    refine (pop_some W rb s k d _ hr g1).mono ?_
    rintro e w1 ⟨rfl, h1, h2⟩
    rw [H.out.2]
    go_wp2
    go_ret
    exact res_some (x := 12) (r := t) (by simp [esc]) h2 rfl h1 H.out.1
  by_cases h5 : c = 110
  · subst h5
    go_enter Tryz.func208, Tryz.ntmps208
    go_wp2_with fail
    refine (pop_some W rb s k d _ hr g1).mono ?_
    rintro e w1 ⟨rfl, h1, h2⟩
    rw [H.out.2]
    go_wp2
    go_ret
    exact res_some (x := 10) (r := t) (by simp [esc]) h2 rfl h1 H.out.1
  by_cases h6 : c = 114
  · subst h6
    go_enter Tryz.func208, Tryz.ntmps208
    go_wp2_with fail
    refine (pop_some W rb s k d _ hr g1).mono ?_
    rintro e w1 ⟨rfl, h1, h2⟩
    rw [H.out.2]
    go_wp2
    go_ret
    exact res_some (x := 13) (r := t) (by simp [esc]) h2 rfl h1 H.out.1
  by_cases h7 : c = 116
  · subst h7
    go_enter Tryz.func208, Tryz.ntmps208
    go_wp2_with fail
    refine (pop_some W rb s k d _ hr g1).mono ?_
    rintro e w1 ⟨rfl, h1, h2⟩
    rw [H.out.2]
    go_wp2
    go_ret
    exact res_some (x := 9) (r := t) (by simp [esc]) h2 rfl h1 H.out.1
  have n0 := u8n h0
  have n1 := u8n h1
  have n2 := u8n h2
  have n3 := u8n h3
  have n4 := u8n h4
  have n5 := u8n h5
  have n6 := u8n h6
  have n7 := u8n h7
  have D := hide (And.intro h0 (And.intro h1 (And.intro h2 (And.intro h3 (And.intro h4 (And.intro h5 (And.intro h6 h7)))))))
  clear h0 h1 h2 h3 h4 h5 h6 h7
  simp only [UInt8.reduceToNat, Int.cast_ofNat_Int] at n0 n1 n2 n3 n4 n5 n6 n7
  by_cases h8 : c = 117
  · subst h8
    clear n0 n1 n2 n3 n4 n5 n6 n7
    go_enter Tryz.func208, Tryz.ntmps208
    go_wp2_with fail
    refine (pop_some W rb s k d _ hr g1).mono ?_
    rintro e w1 ⟨rfl, h1, h2⟩
    rw [H.out.2]
    go_wp2_with fail
    refine (unicode_c W rb s (k + 1) d _ h1).mono ?_
    rintro e w2 ⟨v1, v2⟩
    rw [H.out.1] at v2
    have ee : esc (117 :: t) = escU t := by simp [esc]
    cases hy : escU t with
    | none =>
      rw [hy] at v2 ee
      obtain ⟨fb, k3, g, cb, rfl, q⟩ := v2
      exact ⟨rfl, res_none ee ⟨h2.trans v1, fb, k3, g, cb, rfl, Nat.le_trans h2.size q.1, q.2⟩⟩
    | some p =>
      obtain ⟨y, z⟩ := p
      rw [hy] at v2 ee
      obtain ⟨_, k3, rfl, rfl, u1, u2⟩ := v2
      have E := hide (And.intro ee u2)
      clear hy u2 ee
      go_wp2
      go_ret
      exact res_some E.out.1 (h2.trans v1) rfl u1 E.out.2
  have n8 := u8n h8
  simp only [UInt8.reduceToNat] at n8
  have D8 := hide h8
  clear h8
  go_enter Tryz.func208, Tryz.ntmps208
  go_wp2_with fail
  refine (pop_some W rb s k d _ hr g1).mono ?_
  rintro e w1 ⟨rfl, h1, h2⟩
  rw [H.out.2]
  obtain ⟨cb, hg, he⟩ := h1.err 25 (by decide) (by decide)
  go_wp2_with (go_at_call 111; refine (fault_c rb s (k + 1) d _ h1.rdr _ _).mono ?_; rintro e w' ⟨rfl, rfl⟩)
  refine ⟨rfl, res_none ?_ (thrown_new h2 he)⟩
  obtain ⟨d0, d1, d2, d3, d4, d5, d6, d7⟩ := D.out
  simp [esc, d0, d1, d2, d3, d4, d5, d6, d7, D8.out]
end Go.Proofs.YtocligpfmfmihaaGreatDoor

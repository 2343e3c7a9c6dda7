import Derived.Test.YtocligpfmfmihaaGreatDoorSgn4
import Derived.Test.YtocligpfmfmihaaGreatDoorOrd
namespace Go.Proofs.YtocligpfmfmihaaGreatDoor
open Go Go.RowKit

theorem canon_empty : canonF [32, 123, 32, 125, 32] = ([123, 125], 0) := by
  rw [canon_ok known_empty (by decide)]
  simp [cJ_obj, joinC]
theorem msg_obj {l : List (Bs × J)} (h : WF 6 (.obj l)) (hl : (cJ (.obj l)).length ≤ 600) : messageF (cJ (.obj l)) = (bareF l, 0) := by
  unfold messageF objectF valueF
  rw [if_neg (by omega), parse_cJ (.obj l) h]
  rfl
theorem msg_no {j : J} (h : WF 6 j) (hl : (cJ j).length ≤ 600) (hj : isO j = false) : messageF (cJ j) = ([], 3) := by
  unfold messageF objectF valueF
  rw [if_neg (by omega), parse_cJ j h]
  cases j with
  | obj l => cases hj
  | null => rfl
  | bool _ => rfl
  | num _ => rfl
  | str _ => rfl
  | arr _ => rfl
theorem blank_c {j : J} (h : WF 6 j) : (cJ j).length ≤ 598 → canonF (32 :: (cJ j ++ [10])) = (cJ j, 0) := fun hl => canon_ok (canon_blank j h) (by simp; omega)
theorem digits_c (n : Nat) : ∃ c t, decN n = c :: t ∧ c ≠ 123 := by
  induction n using Nat.strongRecOn with
  | ind n ih =>
    rw [decN]
    split
    · refine ⟨_, _, rfl, ?_⟩
      rename_i h
      have : n = 0 ∨ n = 1 ∨ n = 2 ∨ n = 3 ∨ n = 4 ∨ n = 5 ∨ n = 6 ∨ n = 7 ∨ n = 8 ∨ n = 9 := by omega
      rcases this with rfl | rfl | rfl | rfl | rfl | rfl | rfl | rfl | rfl | rfl <;> decide
    · rename_i h
      obtain ⟨c, t, e, hc⟩ := ih (n / 10) (by omega)
      exact ⟨c, t ++ [_], by rw [e]; rfl, hc⟩
theorem head_no {j : J} (hj : isO j = false) : ∃ c t, cJ j = c :: t ∧ c ≠ 123 := by
  cases j with
  | obj l => cases hj
  | null => exact ⟨_, _, by rw [cJ], by decide⟩
  | bool b =>
    cases b
    · exact ⟨102, [97, 108, 115, 101], by rw [cJ]; rfl, by decide⟩
    · exact ⟨116, [114, 117, 101], by rw [cJ]; rfl, by decide⟩
  | num n =>
    rw [cJ, cNum]
    split
    · exact ⟨_, _, rfl, by decide⟩
    · exact digits_c _
  | str s => exact ⟨_, _, by rw [cJ, cStr], by decide⟩
  | arr l => exact ⟨_, _, by rw [cJ], by decide⟩
theorem sgn_cases {l : List (Bs × J)} (h : WF 6 (.obj l)) (hl : (cJ (.obj l)).length ≤ 600) (sv id sig : Bs) : (signedF (cJ (.obj l)) sv id sig = ([], 2)) ∨ (signedF (cJ (.obj l)) sv id sig = (cJ (.obj (signL l sv id sig)), 0) ∧ WF 6 (.obj (signL l sv id sig))) := by
  have ho : objectF (cJ (.obj l)) = .ok l := by
    unfold objectF valueF
    rw [if_neg (by omega), parse_cJ (.obj l) h]
  unfold signedF signedE
  rw [ho]
  cases hv : (Lib.validD sv && Lib.validD id && Lib.validD sig)
  · left; rfl
  · right
    simp only [Bool.and_eq_true] at hv
    exact ⟨rfl, WF_signL l sv id sig h hv.1.1 hv.1.2 hv.2⟩

set_option maxRecDepth 20000 in
set_option maxHeartbeats 1000000 in
theorem fixed_bad (W : World) (hN : NG W) (a sv sig : ByteArray) (ha : canonF a.data.toList = ([], 1) ∨ canonF a.data.toList = ([], 2)) :
    Calls Tryz.prog 11 #[.string a, .string sv, .string sig] W fun e w' => e = .returned (.bool true) ∧ Kp (fun _ => False) W w' := by
  have hk := canon_empty
  go_enter Tryz.func11, Tryz.ntmps11
  go_wp2_with fail
  refine (canon_c W hN ⟨#[32, 123, 32, 125, 32]⟩ W (Below.refl _ _)).mono ?_
  rintro e w1 ⟨rfl, k1⟩
  have b1 := below_kp (Below.refl _ W) k1
  simp only [hk]
  clear hk
  go_wp2_with fail
  refine (canon_c W hN a w1 b1).mono ?_
  rintro e w2 ⟨rfl, k2⟩
  have HK := hide (k1.trans k2)
  clear k1 k2 b1
  rcases ha with ha | ha
  · rw [ha]
    clear ha
    go_wp2_with fail
    go_ret
    exact ⟨rfl, HK.out⟩
  · rw [ha]
    clear ha
    go_wp2_with fail
    go_ret
    exact ⟨rfl, HK.out⟩

set_option maxRecDepth 20000 in
set_option maxHeartbeats 1000000 in
theorem fixed_good (W : World) (hN : NG W) (a sv sig : ByteArray) (j : J) (ha : canonF a.data.toList = (cJ j, 0)) (hwf : WF 6 j) (hl : (cJ j).length ≤ 600) (h1 : sv.size ≤ 2000000) (h3 : sig.size ≤ 2000000) :
    Calls Tryz.prog 11 #[.string a, .string sv, .string sig] W fun e w' => e = .returned (.bool true) ∧ Kp (fun _ => False) W w' := by
  have hk := canon_empty
  have hc := hide (canon_ok (parse_cJ j hwf) hl)
  have hbl := hide (blank_c hwf)
  have hne : (cJ j).isEmpty = false := by have := cJ_ne j; cases h : cJ j <;> simp_all
  have hsz : ByteArray.size { data := (cJ j).toArray } = (cJ j).length := by show (cJ j).toArray.size = _; simp
  have hba : (({ data := #[32] } ++ { data := (cJ j).toArray } ++ { data := #[10] } : ByteArray)).data.toList = 32 :: (cJ j ++ [10]) := by simp
  have HBA := hide hba
  clear hba
  go_enter Tryz.func11, Tryz.ntmps11
  go_wp2_with fail
  refine (canon_c W hN ⟨#[32, 123, 32, 125, 32]⟩ W (Below.refl _ _)).mono ?_
  rintro e w1 ⟨rfl, k1⟩
  have b1 := below_kp (Below.refl _ W) k1
  simp only [hk]
  clear hk
  go_wp2_with fail
  refine (canon_c W hN a w1 b1).mono ?_
  rintro e w2 ⟨rfl, k2⟩
  have b2 := below_kp b1 k2
  rw [ha]
  clear ha
  go_wp2_with fail
  refine (canon_c W hN _ w2 b2).mono ?_
  rintro e w3 ⟨rfl, k3⟩
  have b3 := below_kp b2 k3
  rw [show (ByteArray.mk (cJ j).toArray).data.toList = cJ j by simp, hc.out]
  have HK3 := hide (k1.trans (k2.trans k3))
  clear k1 k2 k3 b1 b2
  go_wp2_with fail
  refine (canon_c W hN _ w3 b3).mono ?_
  rintro e w4 ⟨rfl, k4⟩
  have b4 := below_kp b3 k4
  have HK4 := hide (HK3.out.trans k4)
  clear k4 b3
  rw [HBA.out]
  by_cases h598 : (cJ j).length ≤ 598
  · rw [hbl.out h598]
    have hd : decide (((cJ j).length : Int) ≤ 598) = true := by simp; omega
    go_wp2_with fail
    refine (message_c W hN _ w4 b4).mono ?_
    rintro e w5 ⟨rfl, k5⟩
    have b5 := below_kp b4 k5
    have HK5 := hide (HK4.out.trans k5)
    clear k5 b4
    rw [show (ByteArray.mk (cJ j).toArray).data.toList = cJ j by simp]
    cases hj : isO j with
    | false =>
      rw [msg_no hwf hl hj]
      obtain ⟨c, t, e, hcc⟩ := head_no hj
      have hcn : ((c.toNat : Int) != 123) = true := by
        simp only [bne_iff_ne, ne_eq]
        intro h
        apply hcc
        apply UInt8.toNat_inj.1
        have : c.toNat = 123 := by omega
        rw [this]
        rfl
      have hix : ∀ w, (Instr.index 9 (.string ⟨(cJ j).toArray⟩) (.int .i64 0)).run Tryz.prog w = .ok (.int .u8 c.toNat) w := by
        intro w
        rw [e]
        rfl
      clear e hcc
      go_wp2_with fail
      go_ret
      exact ⟨rfl, HK5.out⟩
    | true =>
      cases j with
      | obj l =>
        rw [msg_obj hwf hl]
        go_wp2_with fail
        refine (signed_c W hN _ sv ⟨#[105, 100]⟩ sig h1 (by decide) h3 w5 b5).mono ?_
        rintro e w6 ⟨rfl, k6⟩
        have b6 := below_kp b5 k6
        have HK6 := hide (HK5.out.trans k6)
        clear k6 b5
        rw [show (ByteArray.mk (cJ (.obj l)).toArray).data.toList = cJ (.obj l) by simp]
        rcases sgn_cases hwf hl sv.data.toList [105, 100] sig.data.toList with hs | ⟨hs, hw'⟩
        · rw [show (ByteArray.mk #[105, 100]).data.toList = [105, 100] by rfl, hs]
          clear hs
          go_wp2_with fail
          go_ret
          exact ⟨rfl, HK6.out⟩
        · rw [show (ByteArray.mk #[105, 100]).data.toList = [105, 100] by rfl, hs]
          clear hs
          have hb := hide (bare_sign l sv.data.toList [105, 100] sig.data.toList)
          have hw6 := hide hw'
          clear hw'
          generalize signL l sv.data.toList [105, 100] sig.data.toList = l2 at *
          have hsz2 : ByteArray.size { data := (cJ (.obj l2)).toArray } = (cJ (.obj l2)).length := by show (cJ (.obj l2)).toArray.size = _; simp
          by_cases h600 : 600 < (cJ (.obj l2)).length
          · have hd2 : decide ((600 : Int) < ((cJ (.obj l2)).length : Int)) = true := by simp; omega
            go_wp2_with fail
            go_ret
            exact ⟨rfl, HK6.out⟩
          · have hd2 : decide ((600 : Int) < ((cJ (.obj l2)).length : Int)) = false := by simp; omega
            go_wp2_with fail
            refine (message_c W hN _ w6 b6).mono ?_
            rintro e w7 ⟨rfl, k7⟩
            have HK7 := hide (HK6.out.trans k7)
            clear k7
            rw [show (ByteArray.mk (cJ (.obj l2)).toArray).data.toList = cJ (.obj l2) by simp, msg_obj hw6.out (by omega), hb.out]
            go_wp2_with fail
            go_ret
            refine ⟨?_, HK7.out⟩
            first | rfl | simp
      | null => cases hj
      | bool _ => cases hj
      | num _ => cases hj
      | str _ => cases hj
      | arr _ => cases hj
  · generalize canonF (32 :: (cJ j ++ [10])) = r4
    have hd : decide (((cJ j).length : Int) ≤ 598) = false := by simp; omega
    go_wp2_with fail
    refine (message_c W hN _ w4 b4).mono ?_
    rintro e w5 ⟨rfl, k5⟩
    have b5 := below_kp b4 k5
    have HK5 := hide (HK4.out.trans k5)
    clear k5 b4
    rw [show (ByteArray.mk (cJ j).toArray).data.toList = cJ j by simp]
    cases hj : isO j with
    | false =>
      rw [msg_no hwf hl hj]
      obtain ⟨c, t, e, hcc⟩ := head_no hj
      have hcn : ((c.toNat : Int) != 123) = true := by
        simp only [bne_iff_ne, ne_eq]
        intro h
        apply hcc
        apply UInt8.toNat_inj.1
        have : c.toNat = 123 := by omega
        rw [this]
        rfl
      have hix : ∀ w, (Instr.index 9 (.string ⟨(cJ j).toArray⟩) (.int .i64 0)).run Tryz.prog w = .ok (.int .u8 c.toNat) w := by
        intro w
        rw [e]
        rfl
      clear e hcc
      go_wp2_with fail
      go_ret
      exact ⟨rfl, HK5.out⟩
    | true =>
      cases j with
      | obj l =>
        rw [msg_obj hwf hl]
        go_wp2_with fail
        refine (signed_c W hN _ sv ⟨#[105, 100]⟩ sig h1 (by decide) h3 w5 b5).mono ?_
        rintro e w6 ⟨rfl, k6⟩
        have b6 := below_kp b5 k6
        have HK6 := hide (HK5.out.trans k6)
        clear k6 b5
        rw [show (ByteArray.mk (cJ (.obj l)).toArray).data.toList = cJ (.obj l) by simp]
        rcases sgn_cases hwf hl sv.data.toList [105, 100] sig.data.toList with hs | ⟨hs, hw'⟩
        · rw [show (ByteArray.mk #[105, 100]).data.toList = [105, 100] by rfl, hs]
          clear hs
          go_wp2_with fail
          go_ret
          exact ⟨rfl, HK6.out⟩
        · rw [show (ByteArray.mk #[105, 100]).data.toList = [105, 100] by rfl, hs]
          clear hs
          have hb := hide (bare_sign l sv.data.toList [105, 100] sig.data.toList)
          have hw6 := hide hw'
          clear hw'
          generalize signL l sv.data.toList [105, 100] sig.data.toList = l2 at *
          have hsz2 : ByteArray.size { data := (cJ (.obj l2)).toArray } = (cJ (.obj l2)).length := by show (cJ (.obj l2)).toArray.size = _; simp
          by_cases h600 : 600 < (cJ (.obj l2)).length
          · have hd2 : decide ((600 : Int) < ((cJ (.obj l2)).length : Int)) = true := by simp; omega
            go_wp2_with fail
            go_ret
            exact ⟨rfl, HK6.out⟩
          · have hd2 : decide ((600 : Int) < ((cJ (.obj l2)).length : Int)) = false := by simp; omega
            go_wp2_with fail
            refine (message_c W hN _ w6 b6).mono ?_
            rintro e w7 ⟨rfl, k7⟩
            have HK7 := hide (HK6.out.trans k7)
            clear k7
            rw [show (ByteArray.mk (cJ (.obj l2)).toArray).data.toList = cJ (.obj l2) by simp, msg_obj hw6.out (by omega), hb.out]
            go_wp2_with fail
            go_ret
            refine ⟨?_, HK7.out⟩
            first | rfl | simp
      | null => cases hj
      | bool _ => cases hj
      | num _ => cases hj
      | str _ => cases hj
      | arr _ => cases hj

/-- notarykeep.Fixed, where server and sig are not too great. -/
theorem fixed_c (W : World) (hN : NG W) (a sv sig : ByteArray) (h1 : sv.size ≤ 2000000) (h3 : sig.size ≤ 2000000) :
    Calls Tryz.prog 11 #[.string a, .string sv, .string sig] W fun e w' => e = .returned (.bool true) ∧ Kp (fun _ => False) W w' := by
  rcases canon_cases a.data.toList with ⟨j, hp, hl, hc⟩ | h | h
  · have hok := parse_ok hp
    exact fixed_good W hN a sv sig j hc hok.1 (by omega) h1 h3
  · exact fixed_bad W hN a sv sig (Or.inl h)
  · exact fixed_bad W hN a sv sig (Or.inr h)
end Go.Proofs.YtocligpfmfmihaaGreatDoor

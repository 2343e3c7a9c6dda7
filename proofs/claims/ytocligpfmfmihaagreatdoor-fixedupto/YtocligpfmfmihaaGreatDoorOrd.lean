import Derived.Test.YtocligpfmfmihaaGreatDoorCn2
import Derived.Test.YtocligpfmfmihaaGreatDoorKeep
namespace Go.Proofs.YtocligpfmfmihaaGreatDoor
open Go Go.RowKit

theorem canon_cases (s : Bs) : (∃ j, parse s = some j ∧ s.length ≤ 600 ∧ canonF s = (cJ j, 0)) ∨ canonF s = ([], 1) ∨ canonF s = ([], 2) := by
  unfold canonF valueF
  by_cases h : 600 < s.length
  · right; left
    rw [if_pos h]
    rfl
  · rw [if_neg h]
    cases hp : parse s with
    | none => right; right; rfl
    | some j => left; exact ⟨j, rfl, by omega, rfl⟩
theorem canon_ok {s : Bs} {j : J} (h : parse s = some j) (hl : s.length ≤ 600) : canonF s = (cJ j, 0) := by
  unfold canonF valueF
  rw [if_neg (by omega), h]
  rfl
theorem canon_bad {s : Bs} (h : parse s = none) (hl : s.length ≤ 600) : canonF s = ([], 2) := by
  unfold canonF valueF
  rw [if_neg (by omega), h]
  rfl
theorem c12 : cJ (.num 1) = [49] ∧ cJ (.num 2) = [50] := by
  constructor <;> (rw [cJ, cNum, if_neg (by decide), decN, if_pos (by decide)]; rfl)
theorem canon_known : canonF [123, 34, 98, 34, 58, 49, 44, 34, 97, 34, 58, 50, 125] = ([123, 34, 97, 34, 58, 50, 44, 34, 98, 34, 58, 49, 125], 0) := by
  rw [canon_ok known_two (by decide)]
  simp [cJ_obj, cMem, joinC, c12, cStr, cB]
theorem canon_kK (x y : J) : cJ (.obj [([75], y), ([107], x)]) = 123 :: 34 :: 75 :: 34 :: 58 :: (cJ y ++ 44 :: 34 :: 107 :: 34 :: 58 :: (cJ x ++ [125])) := by
  simp [cJ_obj, cMem, joinC, cStr, cB]

/-- What is asked of the two answers where one is an error. -/
theorem ans_empty (s : Bs) : (canonF s).1 = [] ↔ (canonF s).2 ≠ 0 := by
  rcases canon_cases s with ⟨j, _, _, h⟩ | h | h <;> rw [h]
  · simp [cJ_ne j]
  · simp
  · simp
theorem str_inj (a b : List UInt8) : ((⟨a.toArray⟩ : ByteArray) = ⟨b.toArray⟩) ↔ a = b := by
  constructor
  · intro h
    injection h with h
    simpa using h
  · rintro rfl; rfl

set_option maxRecDepth 20000 in
set_option maxHeartbeats 1000000 in
theorem ordered_bad (W : World) (hN : NG W) (a b : ByteArray) (ha : (canonF a.data.toList).2 ≠ 0) :
    Calls Tryz.prog 12 #[.string a, .string b] W fun e w' => e = .returned (.bool true) ∧ Kp (fun _ => False) W w' := by
  have ea := (ans_empty a.data.toList).2 ha
  have eb := ans_empty b.data.toList
  have hk := canon_known
  go_enter Tryz.func12, Tryz.ntmps12
  go_wp2_with fail
  refine (canon_c W hN ⟨#[123, 34, 98, 34, 58, 49, 44, 34, 97, 34, 58, 50, 125]⟩ W (Below.refl _ _)).mono ?_
  rintro e w1 ⟨rfl, k1⟩
  have b1 := below_kp (Below.refl _ W) k1
  simp only [hk]
  clear hk
  go_wp2_with fail
  refine (canon_c W hN a w1 b1).mono ?_
  rintro e w2 ⟨rfl, k2⟩
  have b2 := below_kp b1 k2
  rw [ea]
  generalize (canonF a.data.toList).2 = na at *
  go_wp2_with fail
  refine (canon_c W hN b w2 b2).mono ?_
  rintro e w3 ⟨rfl, k3⟩
  have HK := hide (k1.trans (k2.trans k3))
  clear k1 k2 k3 b1 b2
  generalize (canonF b.data.toList).1 = cb at *
  generalize (canonF b.data.toList).2 = nb at *
  go_wp2_with fail
  go_ret
  refine ⟨?_, HK.out⟩
  have hb : ((nb : Int) != 0) = cb.isEmpty := by
    cases cb with
    | nil =>
      have := eb.1 rfl
      simp [bne_iff_ne]
      omega
    | cons x l =>
      have : ¬ nb ≠ 0 := fun h => by cases eb.2 h
      simp
      omega
  have hn : ((na : Int) != 0) = true := by simp [bne_iff_ne]; omega
  rw [hn, hb]
  simp
set_option maxRecDepth 20000 in
set_option maxHeartbeats 1000000 in
theorem ordered_bad2 (W : World) (hN : NG W) (a b : ByteArray) (ja : J) (ha : canonF a.data.toList = (cJ ja, 0)) (hb : (canonF b.data.toList).2 ≠ 0 ∨ ∃ jb, canonF b.data.toList = (cJ jb, 0) ∧ 500 < a.size + b.size ∧ b.size ≤ 600) (hab : a.size ≤ 600) :
    Calls Tryz.prog 12 #[.string a, .string b] W fun e w' => e = .returned (.bool true) ∧ Kp (fun _ => False) W w' := by
  have ea : (cJ ja).isEmpty = false := by have := cJ_ne ja; cases h : cJ ja <;> simp_all
  have hk := canon_known
  go_enter Tryz.func12, Tryz.ntmps12
  go_wp2_with fail
  refine (canon_c W hN ⟨#[123, 34, 98, 34, 58, 49, 44, 34, 97, 34, 58, 50, 125]⟩ W (Below.refl _ _)).mono ?_
  rintro e w1 ⟨rfl, k1⟩
  have b1 := below_kp (Below.refl _ W) k1
  simp only [hk]
  clear hk
  go_wp2_with fail
  refine (canon_c W hN a w1 b1).mono ?_
  rintro e w2 ⟨rfl, k2⟩
  have b2 := below_kp b1 k2
  rw [ha]
  clear ha
  generalize cJ ja = ca at *
  go_wp2_with fail
  refine (canon_c W hN b w2 b2).mono ?_
  rintro e w3 ⟨rfl, k3⟩
  have HK := hide (k1.trans (k2.trans k3))
  clear k1 k2 k3 b1 b2
  rcases hb with hb | ⟨jb, hb, hl, hl2⟩
  · have eb := (ans_empty b.data.toList).2 hb
    rw [eb]
    generalize (canonF b.data.toList).2 = nb at *
    go_wp2_with fail
    go_ret
    refine ⟨?_, HK.out⟩
    have hn : ((nb : Int) != 0) = true := by simp [bne_iff_ne]; omega
    rw [hn]
    rfl
  · have eb : (cJ jb).isEmpty = false := by have := cJ_ne jb; cases h : cJ jb <;> simp_all
    rw [hb]
    clear hb
    generalize cJ jb = cb at *
    have hw : wrap64 ((a.size : Int) + (b.size : Int)) = (a.size : Int) + (b.size : Int) := by
      unfold wrap64
      omega
    have hd : decide ((500 : Int) < (a.size : Int) + (b.size : Int)) = true := by simp; omega
    go_wp2_with fail
    go_ret
    exact ⟨rfl, HK.out⟩

def bA (s : Bs) : ByteArray := ⟨s.toArray⟩
set_option maxRecDepth 20000 in
set_option maxHeartbeats 1000000 in
theorem ordered_good (W : World) (hN : NG W) (a b : ByteArray) (ja jb : J) (ha : parse a.data.toList = some ja) (hb : parse b.data.toList = some jb) (hl : a.size + b.size ≤ 500) :
    Calls Tryz.prog 12 #[.string a, .string b] W fun e w' => e = .returned (.bool true) ∧ Kp (fun _ => False) W w' := by
  have hla := dlen a
  have hlb := dlen b
  have ca := canon_ok ha (by omega)
  have cb := canon_ok hb (by omega)
  have hp := ordered_pure a.data.toList b.data.toList ja jb ha hb
  have la := (parse_ok ha).2
  have lb := (parse_ok hb).2
  have hk := canon_known
  have hw : wrap64 ((a.size : Int) + (b.size : Int)) = (a.size : Int) + (b.size : Int) := by
    unfold wrap64
    omega
  have hd : decide ((500 : Int) < (a.size : Int) + (b.size : Int)) = false := by simp; omega
  have l1 : (two1 a.data.toList b.data.toList).length ≤ 600 := by simp [two1]; simp at hla hlb; omega
  have l2 : (two2 (cJ ja) (cJ jb)).length ≤ 600 := by simp [two2]; simp at la lb hla hlb; omega
  have hq : ∃ r n, canonF (two1 a.data.toList b.data.toList) = (r, n) ∧ canonF (two2 (cJ ja) (cJ jb)) = (r, n) ∧ ((n = 0 ∧ r = 123 :: 34 :: 75 :: 34 :: 58 :: (cJ jb ++ 44 :: 34 :: 107 :: 34 :: 58 :: (cJ ja ++ [125]))) ∨ n = 2) := by
    rcases hp with ⟨p1, p2⟩ | ⟨p1, p2⟩
    · exact ⟨_, _, canon_ok p1 l1, canon_ok p2 l2, Or.inl ⟨rfl, canon_kK ja jb⟩⟩
    · exact ⟨_, _, canon_bad p1 l1, canon_bad p2 l2, Or.inr rfl⟩
  obtain ⟨r, n, hc1, hc2, hrn⟩ := hq
  have la' : (cJ ja).length ≤ 500 := by omega
  have lb' : (cJ jb).length ≤ 500 := by omega
  have sa' : ByteArray.size { data := (cJ ja).toArray } ≤ 500 := by show (cJ ja).toArray.size ≤ 500; simpa using la'
  have sb' : ByteArray.size { data := (cJ jb).toArray } ≤ 500 := by show (cJ jb).toArray.size ≤ 500; simpa using lb'
  clear hp l1 l2 la lb hla hlb
  have ba1 : (({ data := #[123, 34, 107, 34, 58] } ++ a ++ { data := #[44, 34, 75, 34, 58] } ++ b ++ { data := #[125] } : ByteArray)).data.toList = two1 a.data.toList b.data.toList := by simp [two1]
  have ba2 : (({ data := #[123, 34, 75, 34, 58] } ++ { data := (cJ jb).toArray } ++ { data := #[32, 44, 32, 34, 92, 117, 48, 48, 54, 98, 34, 58] } ++ { data := (cJ ja).toArray } ++ { data := #[125] } : ByteArray)).data.toList = two2 (cJ ja) (cJ jb) := by simp [two2]
  have ba3 : (({ data := #[123, 34, 75, 34, 58] } ++ { data := (cJ jb).toArray } ++ { data := #[44, 34, 107, 34, 58] } ++ { data := (cJ ja).toArray } ++ { data := #[125] } : ByteArray)).data.toList = 123 :: 34 :: 75 :: 34 :: 58 :: (cJ jb ++ 44 :: 34 :: 107 :: 34 :: 58 :: (cJ ja ++ [125])) := by simp
  clear ha hb
  go_enter Tryz.func12, Tryz.ntmps12
  go_wp2_with fail
  refine (canon_c W hN ⟨#[123, 34, 98, 34, 58, 49, 44, 34, 97, 34, 58, 50, 125]⟩ W (Below.refl _ _)).mono ?_
  rintro e w1 ⟨rfl, k1⟩
  have b1 := below_kp (Below.refl _ W) k1
  simp only [hk]
  clear hk
  go_wp2_with fail
  refine (canon_c W hN a w1 b1).mono ?_
  rintro e w2 ⟨rfl, k2⟩
  have b2 := below_kp b1 k2
  rw [ca]
  clear ca
  go_wp2_with fail
  refine (canon_c W hN b w2 b2).mono ?_
  rintro e w3 ⟨rfl, k3⟩
  have b3 := below_kp b2 k3
  rw [cb]
  clear cb
  have HK := hide (k1.trans (k2.trans k3))
  clear k1 k2 k3 b1 b2
  go_wp2_with fail
  refine (canon_c W hN _ w3 b3).mono ?_
  rintro e w4 ⟨rfl, k4⟩
  have b4 := below_kp b3 k4
  rw [ba1, hc1]
  go_wp2_with fail
  refine (canon_c W hN _ w4 b4).mono ?_
  rintro e w5 ⟨rfl, k5⟩
  rw [ba2, hc2]
  have HK2 := hide (HK.out.trans (k4.trans k5))
  clear k4 k5 b3 b4 hc1 hc2
  rcases hrn with ⟨rfl, hrr⟩ | rfl
  · have hrr' := hide hrr
    clear hrr
    go_wp2_with fail
    go_ret
    refine ⟨?_, HK2.out⟩
    rw [ByteArray.toList_eq, ba3, ← hrr'.out]
    simp
  · go_wp2_with fail
    go_ret
    exact ⟨rfl, HK2.out⟩

/-- notarykeep.Ordered. -/
theorem ordered_c (W : World) (hN : NG W) (a b : ByteArray) :
    Calls Tryz.prog 12 #[.string a, .string b] W fun e w' => e = .returned (.bool true) ∧ Kp (fun _ => False) W w' := by
  have hla := dlen a
  have hlb := dlen b
  by_cases ha : (canonF a.data.toList).2 = 0
  · rcases canon_cases a.data.toList with ⟨ja, pa, la, ca⟩ | h | h
    · by_cases hb : (canonF b.data.toList).2 = 0
      · rcases canon_cases b.data.toList with ⟨jb, pb, lb, cb⟩ | h | h
        · by_cases hl : a.size + b.size ≤ 500
          · exact ordered_good W hN a b ja jb pa pb hl
          · exact ordered_bad2 W hN a b ja ca (Or.inr ⟨jb, cb, by omega, by omega⟩) (by omega)
        · rw [h] at hb; cases hb
        · rw [h] at hb; cases hb
      · exact ordered_bad2 W hN a b ja ca (Or.inl hb) (by omega)
    · rw [h] at ha; cases ha
    · rw [h] at ha; cases ha
  · exact ordered_bad W hN a b ha
end Go.Proofs.YtocligpfmfmihaaGreatDoor

import Derived.Test.YtocligpfmfmihaaGreatDoorRef4G
import Derived.Test.YtocligpfmfmihaaGreatDoorWrt2G
namespace Go.Proofs.YtocligpfmfmihaaGreatDoor
open Go Go.RowKit Go.Maps
variable {W w w' : World} {rb k : Nat} {s : ByteArray} {bad : Bool}

theorem own_slice {w : World} {B : Nat} {e : TypeId} {v : Value} {n : Nat} {xs : List Value} (h : w.ownsRow B e 1 v n xs) : ∃ a c, v = .slice a n c := by
  obtain ⟨_, ⟨rfl, rfl⟩ | ⟨g, cap, cur, rfl, _⟩⟩ := h
  · exact ⟨_, _, rfl⟩
  · exact ⟨_, _, rfl⟩
theorem own_cell {w : World} {B : Nat} {e : TypeId} {g n c : Nat} {xs : List Value} (h : w.ownsRow B e 1 (.slice (some ⟨g, 0, none⟩) n c) n xs) (i : Nat) (u : Value) (hu : xs[i]? = some u) : w.cell? ⟨g, i, none⟩ = some u := by
  have := h.cells (g := g) rfl i u hu
  rw [Addr.add_lit] at this
  simpa using this
theorem str_eq (a b : Bs) : ((⟨a.toArray⟩ : ByteArray).toList == (⟨b.toArray⟩ : ByteArray).toList) = decide (a = b) := by
  rw [ByteArray.toList_eq, ByteArray.toList_eq, Bool.eq_iff_iff]
  simp
theorem lookK_drop {α : Type} (key : Bs) (m : List (Bs × α)) (n : Nat) (p : Bs × α) (h : m[n]? = some p) : lookK key (m.drop n) = if p.1 = key then some p.2 else lookK key (m.drop (n + 1)) := by
  obtain ⟨hlt, he⟩ := List.getElem?_eq_some_iff.1 h
  rw [List.drop_eq_getElem_cons hlt, he]
  obtain ⟨a, x⟩ := p
  rfl

set_option maxRecDepth 20000 in
set_option maxHeartbeats 1000000 in
theorem get_c {vb B C : Nat} {K L : Value} {n0 : Int} {t0 : Bs} (m : List (Bs × Nat)) (h : w.heap[vb]? = some (vCells 123 n0 t0 K L)) (hK : w.ownsRow B 9 1 K m.length (m.map fun p => .string ⟨p.1.toArray⟩))
    (hL : w.ownsRow C 66 1 L m.length (m.map fun p => ptr p.2)) (hm : m.length ≤ 700) (key : Bs) :
    Calls Tryz.prog 45 #[.pointer (some ⟨vb, 0, none⟩), .string ⟨key.toArray⟩] w fun e w' => e = .returned (.pointer ((lookK key m).map fun b => ⟨b, 0, none⟩)) ∧ w' = w := by
  obtain ⟨v0, v1, v2, v3, v4, z0, z1, z2, z3, z4, hvb⟩ := vfacts h
  cases m with
  | nil =>
    obtain ⟨a, c, rfl⟩ := own_slice hK
    go_enter Tryz.func45, Tryz.ntmps45
    go_wp2_with fail
    go_loopg [5] 1 (fun g a wr => a = .int .i64 0 ∧ wr = w ∧ g = 1)
    case atStart => exact ⟨rfl, rfl, rfl⟩
    case round =>
      obtain ⟨rfl, rfl, rfl⟩ := hrel
      go_wp2
      go_ret
      exact ⟨rfl, rfl⟩
  | cons p0 m0 =>
    obtain ⟨g, cap, rfl⟩ := own_shape (n := m0.length) (by simpa using hK)
    obtain ⟨g2, cap2, rfl⟩ := own_shape (n := m0.length) (by simpa using hL)
    generalize hmm : p0 :: m0 = m at *
    have hln : m0.length + 1 = m.length := by rw [← hmm]; rfl
    rw [hln] at v3 v4 hK hL
    clear hmm hln
    have CK := hide (own_cell hK)
    have CL := hide (own_cell hL)
    clear hK hL h
    go_enter Tryz.func45, Tryz.ntmps45
    go_wp2_with fail
    go_loopg [5] (m.length) (fun gg a wr => ∃ n : Nat, gg = m.length - n ∧ n ≤ m.length ∧ a = .int .i64 (n : Int) ∧ wr = w ∧ lookK key (m.drop n) = lookK key m)
    case atStart => exact ⟨0, rfl, by omega, rfl, rfl, rfl⟩
    case round =>
      obtain ⟨n, hg, hn, rfl, rfl, hlk⟩ := hrel
      have H := hide (And.intro hg hlk)
      clear hg hlk
      by_cases hlt : n < m.length
      · obtain ⟨p, hp⟩ : ∃ p, m[n]? = some p := ⟨m[n], List.getElem?_eq_getElem hlt⟩
        have ck := CK.out n (.string ⟨p.1.toArray⟩) (by rw [List.getElem?_map, hp]; rfl)
        have cl := CL.out n (ptr p.2) (by rw [List.getElem?_map, hp]; rfl)
        have hdr := lookK_drop key m n p hp
        have hlt' : (n : Int) < (m.length : Int) := by omega
        have HP := hide hdr
        clear hp hdr
        by_cases he : p.1 = key
        · have se' : (p.1 == key) = true := by simpa using he
          go_wp2
          go_ret
          refine ⟨?_, rfl⟩
          rw [← H.out.2, HP.out, if_pos he]
          rfl
        · have se' : (p.1 == key) = false := by simpa using he
          go_wp2
          go_roundg (m.length - (n + 1))
          case measure => rw [H.out.1]; omega
          case rel => exact ⟨n + 1, rfl, by omega, int_i64 (by omega), rfl, by rw [← H.out.2, HP.out, if_neg he]⟩
      · have hlt' : ¬ (n : Int) < (m.length : Int) := by omega
        go_wp2
        go_ret
        refine ⟨?_, rfl⟩
        rw [← H.out.2, List.drop_of_length_le (by omega)]
        rfl
end Go.Proofs.YtocligpfmfmihaaGreatDoor
namespace Go.Proofs.YtocligpfmfmihaaGreatDoor
open Go Go.RowKit Go.Maps

theorem ext_hex (k : Nat) (h : k < 16) : (⟨#[48, 49, 50, 51, 52, 53, 54, 55, 56, 57, 97, 98, 99, 100, 101, 102]⟩ : ByteArray).extract k (k + 1) = ⟨#[hexD k]⟩ := by
  match k, h with
  | 0, _ => rfl
  | 1, _ => rfl
  | 2, _ => rfl
  | 3, _ => rfl
  | 4, _ => rfl
  | 5, _ => rfl
  | 6, _ => rfl
  | 7, _ => rfl
  | 8, _ => rfl
  | 9, _ => rfl
  | 10, _ => rfl
  | 11, _ => rfl
  | 12, _ => rfl
  | 13, _ => rfl
  | 14, _ => rfl
  | 15, _ => rfl
  | n + 16, h => exact absurd h (by omega)
theorem cat_str2 (o : Bs) (b : ByteArray) : (⟨o.toArray⟩ : ByteArray) ++ b = ⟨(o ++ b.data.toList).toArray⟩ := by
  apply ByteArray.ext
  simp
theorem mk_size2 (o : Bs) : (⟨o.toArray⟩ : ByteArray).size = o.length := by
  show o.toArray.size = o.length
  simp
theorem ext_one {s : ByteArray} {k : Nat} (h : k < s.size) : s.extract k (k + 1) = ⟨#[s[k]]⟩ := by
  apply ByteArray.ext
  apply Array.toList_inj.1
  rw [ext_rest, rest_cons h]
  rfl

set_option maxRecDepth 20000 in
set_option maxHeartbeats 2000000 in
theorem rquoted_c (w : World) (s : ByteArray) (hs : s.size ≤ 1000000000) :
    Calls Tryz.prog 71 #[.string s] w fun e w' => e = .returned (.string ⟨(cStr s.data.toList).toArray⟩) ∧ ∃ n, w.drewN n = w' := by
  go_enter Tryz.func71, Tryz.ntmps71
  go_wp2_with fail
  go_loopg [4, 5] s.size (fun g a b wr => ∃ (n : Nat) (O : Bs), g = s.size - n ∧ n ≤ s.size ∧ b = .int .i64 (n : Int) ∧ a = .string ⟨O.toArray⟩ ∧ (∃ m, w.drewN m = wr) ∧ O.length ≤ 6 * n + 1 ∧ O ++ (rest s n).flatMap cB = 34 :: s.data.toList.flatMap cB)
  case atStart => exact ⟨0, [34], rfl, by omega, rfl, rfl, ⟨0, rfl⟩, by simp, by simp [rest]⟩
  case round =>
    obtain ⟨n, O, hg, hn, rfl, rfl, hw, hO, hE⟩ := hrel
    have H := hide (And.intro hg (And.intro hw hE))
    have hos := mk_size2 O
    clear hg hw hE
    by_cases hlt : n < s.size
    · have hlt' : (n : Int) < (s.size : Int) := by omega
      have hstep : ∀ (X : Bs), cB s[n] = X → (O ++ X).length ≤ 6 * (n + 1) + 1 ∧ (O ++ X) ++ (rest s (n + 1)).flatMap cB = 34 :: s.data.toList.flatMap cB := by
        rintro X rfl
        have := cB_len s[n]
        refine ⟨by rw [List.length_append]; omega, ?_⟩
        rw [← H.out.2.2, rest_cons hlt]
        simp
      have X1 := ext_one hlt
      generalize hcc : s[n] = c at *
      have ST := hide (And.intro hstep hcc)
      clear hstep
      have hcb := c.toNat_lt
      by_cases e34 : c = 34
      · subst e34
        go_wp2
        go_roundg (s.size - (n + 1))
        case measure => rw [H.out.1]; omega
        case rel =>
          obtain ⟨s1, s2⟩ := ST.out.1 [92, 34] rfl
          exact ⟨n + 1, O ++ [92, 34], rfl, by omega, int_i64 (by omega), by rw [cat_str2], H.out.2.1, s1, s2⟩
      by_cases e92 : c = 92
      · subst e92
        go_wp2
        go_roundg (s.size - (n + 1))
        case measure => rw [H.out.1]; omega
        case rel =>
          obtain ⟨s1, s2⟩ := ST.out.1 [92, 92] rfl
          exact ⟨n + 1, O ++ [92, 92], rfl, by omega, int_i64 (by omega), by rw [cat_str2], H.out.2.1, s1, s2⟩
      by_cases e8 : c = 8
      · subst e8
        go_wp2
        go_roundg (s.size - (n + 1))
        case measure => rw [H.out.1]; omega
        case rel =>
          obtain ⟨s1, s2⟩ := ST.out.1 [92, 98] rfl
          exact ⟨n + 1, O ++ [92, 98], rfl, by omega, int_i64 (by omega), by rw [cat_str2], H.out.2.1, s1, s2⟩
      by_cases e12 : c = 12
      · subst e12
        go_wp2
        go_roundg (s.size - (n + 1))
        case measure => rw [H.out.1]; omega
        case rel =>
          obtain ⟨s1, s2⟩ := ST.out.1 [92, 102] rfl
          exact ⟨n + 1, O ++ [92, 102], rfl, by omega, int_i64 (by omega), by rw [cat_str2], H.out.2.1, s1, s2⟩
      by_cases e10 : c = 10
      · subst e10
        go_wp2
        go_roundg (s.size - (n + 1))
        case measure => rw [H.out.1]; omega
        case rel =>
          obtain ⟨s1, s2⟩ := ST.out.1 [92, 110] rfl
          exact ⟨n + 1, O ++ [92, 110], rfl, by omega, int_i64 (by omega), by rw [cat_str2], H.out.2.1, s1, s2⟩
      by_cases e13 : c = 13
      · subst e13
        go_wp2
        go_roundg (s.size - (n + 1))
        case measure => rw [H.out.1]; omega
        case rel =>
          obtain ⟨s1, s2⟩ := ST.out.1 [92, 114] rfl
          exact ⟨n + 1, O ++ [92, 114], rfl, by omega, int_i64 (by omega), by rw [cat_str2], H.out.2.1, s1, s2⟩
      by_cases e9 : c = 9
      · subst e9
        go_wp2
        go_roundg (s.size - (n + 1))
        case measure => rw [H.out.1]; omega
        case rel =>
          obtain ⟨s1, s2⟩ := ST.out.1 [92, 116] rfl
          exact ⟨n + 1, O ++ [92, 116], rfl, by omega, int_i64 (by omega), by rw [cat_str2], H.out.2.1, s1, s2⟩
      have n34 := u8n e34
      have n92 := u8n e92
      have n8 := u8n e8
      have n12 := u8n e12
      have n10 := u8n e10
      have n13 := u8n e13
      have n9 := u8n e9
      simp only [UInt8.reduceToNat, Int.cast_ofNat_Int] at n34 n92 n8 n12 n10 n13 n9
      by_cases h32 : (c.toNat : Int) < 32
      · have hcB := cB_ctl (c := c) (by omega) e8 e12 e10 e13 e9
        have ST2 := hide (ST.out.1 _ hcB)
        clear hcB e34 e92 e8 e12 e10 e13 e9 ST X1
        have hh1 := ext_hex (c.toNat / 16) (by omega)
        have hh2 := ext_hex (c.toNat % 16) (by omega)
        go_wp2
        go_quiet (fail)
        go_wp2
        go_roundg (s.size - (n + 1))
        case measure => rw [H.out.1]; omega
        case rel =>
          refine ⟨n + 1, O ++ [92, 117, 48, 48, hexD (c.toNat / 16), hexD (c.toNat % 16)], rfl, by omega, int_i64 (by omega), ?_, ?_, ST2.out.1, ST2.out.2⟩
          · rw [cat_str2, cat_str2, cat_str2]; simp
          · obtain ⟨m, rfl⟩ := H.out.2.1
            exact ⟨_, (World.drewN_drewN _ _ _).symm⟩
      · have hcB : cB c = [c] := by
          have n32 : ¬ c < 32 := by
            rw [UInt8.lt_iff_toNat_lt]
            show ¬ c.toNat < 32
            omega
          simp [cB, e34, e92, e8, e12, e10, e13, e9, n32]
        have ST2 := hide (ST.out.1 _ hcB)
        clear hcB e34 e92 e8 e12 e10 e13 e9 ST
        go_wp2
        go_roundg (s.size - (n + 1))
        case measure => rw [H.out.1]; omega
        case rel =>
          exact ⟨n + 1, O ++ [c], rfl, by omega, int_i64 (by omega), by rw [cat_str2], H.out.2.1, ST2.out.1, ST2.out.2⟩
    · have hlt' : ¬ (n : Int) < (s.size : Int) := by omega
      go_wp2
      go_ret
      refine ⟨?_, H.out.2.1⟩
      rw [cat_str2]
      have := H.out.2.2
      rw [rest_nil (by omega)] at this
      simp at this
      rw [this]
      simp [cStr]
end Go.Proofs.YtocligpfmfmihaaGreatDoor
namespace Go.Proofs.YtocligpfmfmihaaGreatDoor
open Go Go.RowKit Go.Maps

theorem one_str (c : UInt8) (o : Bs) : (⟨#[c]⟩ : ByteArray) ++ ⟨o.toArray⟩ = ⟨(c :: o).toArray⟩ := by
  apply ByteArray.ext
  simp
theorem conv_one (w : World) (y : Int) (c : UInt8) (h : y = (c.toNat : Int)) : (convert 124 9 (.slice (some ⟨w.heap.size, 0, none⟩) 1 1)).run Tryz.prog (w.alloc (.cells #[.int .u8 y] 5)) = .ok (.string ⟨#[c]⟩) (w.alloc (.cells #[.int .u8 y] 5)) := by
  subst h
  have hr : (w.alloc (.cells #[.int .u8 (c.toNat : Int)] 5)).ownsRow 0 5 1 (.slice (some ⟨w.heap.size, 0, none⟩) 1 1) 1 (Lib.byteCells [c]) :=
    ⟨rfl, .inr ⟨w.heap.size, 1, _, rfl, Nat.zero_le _, heap_alloc_new w _, Nat.le_refl _, by decide, rfl, rfl⟩⟩
  exact own_string hr

set_option maxRecDepth 20000 in
set_option maxHeartbeats 2000000 in
theorem rdigits_n (w : World) (n : Nat) (hn : n ≤ 9007199254740991) :
    Calls Tryz.prog 70 #[.int .i64 (n : Int)] w fun e w' => e = .returned (.string ⟨(decN n).toArray⟩) ∧ Kp (fun _ => False) w w' := by
  have h0 : ¬ (n : Int) < 0 := by omega
  go_enter Tryz.func70, Tryz.ntmps70
  go_wp2_with fail
  go_loopg [0, 4] n (fun g a b wr => ∃ (k : Nat) (o : Bs), g = k ∧ k ≤ n ∧ a = .int .i64 (k : Int) ∧ b = .string ⟨o.toArray⟩ ∧ Kp (fun _ => False) w wr ∧ o.length + k ≤ 9007199254740991 ∧ decN k ++ o = decN n)
  case atStart => exact ⟨n, [], rfl, Nat.le_refl _, rfl, rfl, Kp.refl _ _, by simpa using hn, by simp⟩
  case round =>
    obtain ⟨k, o, hg, hk, rfl, rfl, hw, ho, hE⟩ := hrel
    have hos := mk_size2 o
    have H := hide (And.intro hg hE)
    clear hg hE
    by_cases h9 : 9 < k
    · have h9' : (9 : Int) < (k : Int) := by omega
      obtain ⟨c, hc⟩ : ∃ c, c = UInt8.ofNat (48 + k % 10) := ⟨_, rfl⟩
      have hcv := fun w1 : World => conv_one w1 (48 + (k : Int) % 10) c (by rw [hc, toNat_of _ (by omega)]; omega)
      have HC := hide hc
      clear hc
      go_wp2
      go_roundg (k / 10)
      case measure => rw [H.out.1]; omega
      case rel =>
        refine ⟨k / 10, c :: o, rfl, by omega, int_i64 (by omega), by rw [one_str], hw.alloc _, by simp only [List.length_cons]; omega, ?_⟩
        rw [← H.out.2]
        conv => rhs; rw [decN]
        rw [if_neg (by omega), HC.out]
        simp
    · have h9' : ¬ (9 : Int) < (k : Int) := by omega
      obtain ⟨c, hc⟩ : ∃ c, c = UInt8.ofNat (48 + k) := ⟨_, rfl⟩
      have hcv := fun w1 : World => conv_one w1 (48 + (k : Int)) c (by rw [hc, toNat_of _ (by omega)]; omega)
      have HC := hide hc
      clear hc
      go_wp2
      go_ret
      refine ⟨?_, hw.alloc _⟩
      rw [one_str, ← H.out.2]
      conv => rhs; rw [decN]
      rw [if_pos (by omega), HC.out]
      rfl
theorem decN_len (n : Nat) : ∀ k, n < 10 ^ (k + 1) → (decN n).length ≤ k + 1 := by
  intro k
  induction k generalizing n with
  | zero =>
    intro h
    rw [decN, if_pos (by omega)]
    simp
  | succ k ih =>
    intro h
    rw [decN]
    split
    · simp
    · have := ih (n / 10) (by rw [Nat.pow_succ] at h; omega)
      simp only [List.length_append, List.length_cons, List.length_nil]
      omega
set_option maxRecDepth 20000 in
theorem rdigits_c (w : World) (n : Int) (hn : n.natAbs ≤ 9007199254740991) :
    Calls Tryz.prog 70 #[.int .i64 n] w fun e w' => e = .returned (.string ⟨(cNum n).toArray⟩) ∧ Kp (fun _ => False) w w' := by
  by_cases h : n < 0
  · have hm : -n = ((n.natAbs : Nat) : Int) := by omega
    have hl := decN_len n.natAbs 20 (by omega)
    have HC : Hid (cNum n = 45 :: decN n.natAbs) := by unfold cNum; rw [if_pos h]; exact hide rfl
    have hr := rdigits_n w n.natAbs hn
    rw [← hm] at hr
    have HR := hide hr
    have hos := mk_size2 (decN n.natAbs)
    clear hr hm
    go_enter Tryz.func70, Tryz.ntmps70
    go_wp2_with fail
    refine HR.out.mono ?_
    rintro e w1 ⟨rfl, K1⟩
    go_wp2
    go_ret
    refine ⟨?_, K1⟩
    rw [HC.out, one_str]
    rfl
  · have hm : n = ((n.natAbs : Nat) : Int) := by omega
    have hr := rdigits_n w n.natAbs hn
    rw [← hm] at hr
    have HC : cNum n = decN n.natAbs := by unfold cNum; rw [if_neg h]
    rw [HC]
    exact hr
end Go.Proofs.YtocligpfmfmihaaGreatDoor
namespace Go.Proofs.YtocligpfmfmihaaGreatDoor
open Go Go.RowKit Go.Maps

/-! the places of the keys, in order -/
def insIx (ks : List Bs) (i : Nat) (l : List Nat) : List Nat := l.takeWhile (fun j => decide (ks.getD j [] < ks.getD i [])) ++ i :: l.dropWhile (fun j => decide (ks.getD j [] < ks.getD i []))
def ordIx (ks : List Bs) : Nat → List Nat
  | 0 => []
  | n + 1 => insIx ks n (ordIx ks n)
theorem tw_take {α : Type} (p : α → Bool) (l : List α) : l.take (l.takeWhile p).length = l.takeWhile p := by
  induction l with
  | nil => rfl
  | cons a l ih =>
    by_cases h : p a = true
    · simp [h, ih]
    · simp [h]
theorem tw_drop {α : Type} (p : α → Bool) (l : List α) : l.drop (l.takeWhile p).length = l.dropWhile p := by
  induction l with
  | nil => rfl
  | cons a l ih =>
    by_cases h : p a = true
    · simp [h, ih]
    · simp [h]
theorem insIx_len (ks : List Bs) (i : Nat) (l : List Nat) : (insIx ks i l).length = l.length + 1 := by
  have := congrArg List.length (List.takeWhile_append_dropWhile (p := fun j => decide (ks.getD j [] < ks.getD i [])) (l := l))
  rw [List.length_append] at this
  simp only [insIx, List.length_append, List.length_cons]
  omega
theorem ordIx_len (ks : List Bs) (n : Nat) : (ordIx ks n).length = n := by
  induction n with
  | zero => rfl
  | succ n ih => rw [ordIx, insIx_len, ih]
theorem ordIx_lt (ks : List Bs) (n : Nat) : ∀ j ∈ ordIx ks n, j < n := by
  induction n with
  | zero => intro j hj; cases hj
  | succ n ih =>
    intro j hj
    rw [ordIx, insIx] at hj
    rcases List.mem_append.1 hj with h | h
    · have := ih j (List.takeWhile_subset _ h)
      omega
    · rcases List.mem_cons.1 h with rfl | h
      · omega
      · have := ih j (List.dropWhile_subset _ h)
        omega
theorem insK_split {α : Type} (k : Bs) (v : α) : ∀ (l : List (Bs × α)), Srt l → lookK k l = none → insK k v l = l.takeWhile (fun p => decide (p.1 < k)) ++ (k, v) :: l.dropWhile (fun p => decide (p.1 < k))
  | [], _, _ => rfl
  | (a, x) :: l, hs, hn => by
    obtain ⟨h1, h2⟩ := List.pairwise_cons.1 hs
    have hne : a ≠ k := by
      intro e
      simp [lookK, e] at hn
    have hn' : lookK k l = none := by simpa [lookK, hne] using hn
    unfold insK
    by_cases hlt : k < a
    · rw [if_pos hlt]
      have : ¬ a < k := fun h => lt_irr _ (lt_tr h hlt)
      simp [this]
    · rw [if_neg hlt, if_neg hne]
      have : a < k := by
        rcases lt_tot a k with h | h | h
        · exact h
        · exact absurd h hne
        · exact absurd h hlt
      simp only [List.takeWhile_cons, List.dropWhile_cons, this, decide_true, if_true, List.cons_append]
      rw [insK_split k v l h2 hn']
theorem ordIx_ofL {α : Type} (x : List (Bs × α)) (hx : Nod x) : ∀ n, n ≤ x.length → (ordIx (x.map (·.1)) n).map (fun j => x[j]?) = (ofL (x.take n)).map some := by
  intro n
  induction n with
  | zero => intro _; rfl
  | succ n ih =>
    intro hn
    have ih := ih (by omega)
    have hlt : n < x.length := by omega
    have htk : x.take (n + 1) = x.take n ++ [x[n]] := by rw [List.take_succ_eq_append_getElem hlt]
    have hnod : Nod (x.take (n + 1)) := by
      unfold Nod at *
      rw [List.map_take]
      exact (List.take_sublist _ _).nodup hx
    rw [htk] at hnod ⊢
    obtain ⟨hn1, hn2⟩ := (nod_snoc (x.take n) x[n].1 x[n].2).1 hnod
    have hlk : lookK x[n].1 (ofL (x.take n)) = none := by rw [lookK_ofL _ _ hn1]; exact hn2
    rw [show x.take n ++ [x[n]] = x.take n ++ [(x[n].1, x[n].2)] from rfl, ofL_snoc, insK_split _ _ _ (srt_ofL _) hlk, ordIx, insIx]
    generalize hL : ofL (x.take n) = L at *
    generalize hI : ordIx (x.map (·.1)) n = I at *
    have hgn : (x.map (·.1)).getD n [] = x[n].1 := by
      rw [List.getD, List.getElem?_map, List.getElem?_eq_getElem hlt]; rfl
    rw [hgn]
    have key : ∀ (I : List Nat) (L : List (Bs × α)), I.map (fun j => x[j]?) = L.map some → (I.takeWhile (fun j => decide ((x.map (·.1)).getD j [] < x[n].1))).map (fun j => x[j]?) = (L.takeWhile (fun p => decide (p.1 < x[n].1))).map some ∧ (I.dropWhile (fun j => decide ((x.map (·.1)).getD j [] < x[n].1))).map (fun j => x[j]?) = (L.dropWhile (fun p => decide (p.1 < x[n].1))).map some := by
      intro I
      induction I with
      | nil =>
        intro L h
        cases L with
        | nil => exact ⟨rfl, rfl⟩
        | cons a L => simp at h
      | cons i I ihI =>
        intro L h
        cases L with
        | nil => simp at h
        | cons a L =>
          simp only [List.map_cons, List.cons.injEq] at h
          obtain ⟨h1, h2⟩ := h
          have hgi : (x.map (·.1)).getD i [] = a.1 := by
            rw [List.getD, List.getElem?_map, h1]; rfl
          obtain ⟨q1, q2⟩ := ihI L h2
          simp only [List.takeWhile_cons, List.dropWhile_cons, hgi]
          by_cases hp : a.1 < x[n].1
          · simp only [hp, decide_true, if_true, List.map_cons, h1, q1, q2, and_self]
          · simp only [hp, decide_false, Bool.false_eq_true, if_false, List.map_cons, List.map_nil, h1, h2, and_self]
    obtain ⟨q1, q2⟩ := key I L ih
    rw [List.map_append, List.map_cons, List.map_append, List.map_cons, q1, q2, List.getElem?_eq_getElem hlt]
end Go.Proofs.YtocligpfmfmihaaGreatDoor

import Derived.Test.YtocligpfmfmihaaGreatDoorChn5G
namespace Go.Proofs.YtocligpfmfmihaaGreatDoor
open Go Go.RowKit Go.Maps Go.WideMaps

theorem cStr_step (l : List UInt8) (c : UInt8) : (l ++ [c]).flatMap cB = l.flatMap cB ++ cB c := by simp
theorem take_snoc' (s : ByteArray) (k : Nat) (h : k < s.size) : s.data.toList.take (k + 1) = s.data.toList.take k ++ [s[k]] := by
  rw [List.take_succ_eq_append_getElem (by simpa using h)]; rfl
theorem cB_len (c : UInt8) : (cB c).length ≤ 6 := by
  unfold cB
  repeat' split
  all_goals simp
theorem flat_ge (l : List UInt8) : l.length ≤ (l.flatMap cB).length := by
  induction l with
  | nil => simp
  | cons c l ih =>
    have : 1 ≤ (cB c).length := by
      unfold cB
      repeat' split
      all_goals simp
    rw [List.flatMap_cons, List.length_append, List.length_cons]
    omega
theorem flat_take (l : List UInt8) (k : Nat) : ((l.take k).flatMap cB).length ≤ (l.flatMap cB).length := by
  conv => rhs; rw [← List.take_append_drop k l, List.flatMap_append, List.length_append]
  omega
theorem bytesW_wr {B : Nat} {a w : World} {s : ByteArray} (h : Wr B a w) (hB : B ≤ w.heap.size) : Wr B a (Lib.bytesWorld w 5 s) := by
  refine h.trans ⟨⟨?_, ?_, ?_, ?_, fun k hk => Lib.bytesWorld_at_old w _ s k (by omega)⟩, fun i o h1 _ _ => by rw [Lib.bytesWorld_at_old w _ s i (lt_heap h1)]; exact h1⟩
  · unfold Lib.bytesWorld World.freeze; rw [if_neg (by decide)]; rfl
  · unfold Lib.bytesWorld World.freeze; rw [if_neg (by decide)]; rfl
  · unfold Lib.bytesWorld World.freeze; rw [if_neg (by decide)]; rfl
  · rw [Lib.bytesWorld_size]; omega
theorem row_ne {B bb : Nat} {w w1 : World} {v : Value} {o : List UInt8} {s : ByteArray} (hr : Row B w v o) (h : w.heap[bb]? = (Lib.bytesWorld w1 5 s).heap[w1.heap.size]?) : v.ownBlock ≠ some bb := by
  intro e
  obtain ⟨_, ⟨rfl, _⟩ | ⟨g, cap, cur, rfl, _, hh, _⟩⟩ := hr
  · cases e
  · injection e with e
    subst e
    rw [h, Lib.bytesWorld_at_new] at hh
    injection hh with hh
    injection hh with _ _ hh
    injection hh with h1 h2
    omega

set_option maxRecDepth 20000 in
set_option maxHeartbeats 1000000 in
theorem appendString_c (B : Nat) (w : World) (v : Value) (o : List UInt8) (s : ByteArray) (hr : Row B w v o) (hB : B ≤ w.heap.size) (ho : o.length + (cStr s.data.toList).length ≤ 139000000000000) :
    Calls Tryz.prog 120 #[v, .string s] w fun e w' => WrR B w (o ++ cStr s.data.toList) e w' := by
  obtain ⟨i0, hi, hz0, hz1, hz2⟩ := info_parts info8
  have hss : s.size ≤ 139000000000000 := by
    have h1 := flat_ge s.data.toList
    have h2 : s.data.toList.length = s.size := by rw [Array.length_toList]; rfl
    rw [cStr, List.length_cons, List.length_append] at ho
    omega
  have hcv := fun w1 : World => Lib.run_convert_string_bytes (P := Tryz.prog) w1 9 124 5 s Tryz.underlying9 Tryz.underlying124 Tryz.underlying5
  go_enter Tryz.func120, Tryz.ntmps120
  go_wp2_with (at_builtin; refine wpList_append_own _ rfl (.tmp 7) (.tmp 8) 124 rfl B 5 i0 (.int .u8 0) 1 1 Tryz.underlying124 hi hz0 hz1 hz2 rfl (by decide) _ _ _ rfl (World.ownsRow.alloc hr _) ⟨w.heap.size, 0, none⟩ 1 1 (Lib.byteCells [34]) rfl rfl (by exact cells_new w _ _) (bytes_one _) (by unfold maxLen; omega) (by omega) (by simp; omega) ?_; intro v1 w1 y1 y2 _)
  obtain ⟨z1, z2⟩ := app_bytes (l := [34]) (Wr.refl B w) hB hr y1 y2
  have hB1 : B ≤ w1.heap.size := Nat.le_trans hB z2.below.size
  clear y1 y2
  go_wp2_with fail
  go_loopg [0, 13] s.size (fun g a i wr => ∃ k : Nat, g = s.size - k ∧ k ≤ s.size ∧ i = .int .i64 (k : Int) ∧ Row B wr a (o ++ 34 :: (s.data.toList.take k).flatMap cB) ∧ Wr B w wr ∧ wr.heap[w1.heap.size]? = (Lib.bytesWorld w1 5 s).heap[w1.heap.size]?)
  case atStart =>
    refine ⟨0, rfl, by omega, rfl, ?_, bytesW_wr z2 hB1, rfl⟩
    simp only [List.take_zero, List.flatMap_nil]
    exact z1.old (fun k hk => Lib.bytesWorld_at_old w1 _ s k (z1.lt k hk).2)
  case round =>
    obtain ⟨k, hg, hk, rfl, hrow, hwr, hbb⟩ := hrel
    have hlen : (o ++ 34 :: (s.data.toList.take k).flatMap cB).length + 1 ≤ o.length + (cStr s.data.toList).length := by
      have h1 := flat_take s.data.toList k
      rw [List.length_append, List.length_cons, cStr, List.length_cons, List.length_append, List.length_singleton]
      omega
    generalize ho1 : o ++ 34 :: (s.data.toList.take k).flatMap cB = o1 at *
    have A := hide (And.intro hg (And.intro ho1 hbb))
    have hBr : B ≤ wr.heap.size := Nat.le_trans hB hwr.below.size
    have hlt1 : w1.heap.size < wr.heap.size := by
      have := hbb
      rw [Lib.bytesWorld_at_new] at this
      exact lt_heap this
    clear hg ho1 z1 z2
    by_cases hlt : k < s.size
    · have hcell : wr.cell? ⟨w1.heap.size, k, none⟩ = some (.int .u8 (s[k].toNat : Int)) := by
        have h1 : wr.cell? ⟨w1.heap.size, k, none⟩ = (Lib.bytesWorld w1 5 s).cell? ⟨w1.heap.size, k, none⟩ := World.cell?_of_block (a := ⟨w1.heap.size, k, none⟩) hbb
        rw [h1, Lib.bytesWorld_cell w1 _ s k hlt]
        simp [List.getD, hlt]
        rfl
      clear hbb
      have hstep : o1 ++ cB s[k] = o ++ 34 :: (s.data.toList.take (k + 1)).flatMap cB := by
        rw [take_snoc' s k hlt, cStr_step, ← A.out.2.1]; simp
      generalize s[k] = c at *
      have ST := hide hstep
      have hc256 : c.toNat < 256 := c.toNat_lt
      have hlt' : decide ((k : Int) < (s.size : Int)) = true := by simp; omega
      have own' : ∀ w2, Kp (fun k => u0.ownBlock = some k) wr w2 → w2.heap[w1.heap.size]? = (Lib.bytesWorld w1 5 s).heap[w1.heap.size]? := fun w2 hk2 =>
        (hk2.block _ hlt1 (row_ne hrow A.out.2.2)).trans A.out.2.2
      have OW := hide own'
      clear hstep own'
      by_cases hq : c = 34 ∨ c = 92
      · have hcb : cB c = [92, c] := by unfold cB; rw [if_pos hq]
        have CB := hide hcb
        clear hcb
        have finQ : ∀ v2 w2, w2.ownsRow B 5 1 v2 (o1.length + 2) (Lib.byteCells o1 ++ Lib.byteCells [92, c]) → (wr.alloc (.cells #[.int .u8 92, .int .u8 c.toNat] 5)).grownBy w2 u0.ownBlock → Row B w2 v2 (o ++ 34 :: (s.data.toList.take (k + 1)).flatMap cB) ∧ Wr B w w2 ∧ w2.heap[w1.heap.size]? = (Lib.bytesWorld w1 5 s).heap[w1.heap.size]? := by
          intro v2 w2 y1 y2
          obtain ⟨z1, z2⟩ := app_bytes (l := [92, c]) hwr hBr hrow y1 y2
          refine ⟨?_, z2, OW.out w2 (((Kp.refl _ _).alloc _).grown y2 (fun k hk _ => hk))⟩
          rw [← ST.out, CB.out]; exact z1
        have FQ := hide finQ
        clear finQ
        by_cases h34 : c = 34
        · have t34 : ((c.toNat : Int) == 34) = true := by subst h34; rfl
          clear h34 hq
          go_wp2_with (at_builtin; refine wpList_append_own _ rfl (.tmp 28) (.tmp 30) 124 rfl B 5 i0 (.int .u8 0) 1 1 Tryz.underlying124 hi hz0 hz1 hz2 rfl (by decide) _ _ _ rfl (World.ownsRow.alloc hrow _) ⟨wr.heap.size, 0, none⟩ 2 2 (Lib.byteCells [92, c]) rfl rfl (by exact cells_new wr _ _) (bytes_one _) (by unfold maxLen; omega) (by omega) (by simp; omega) ?_; intro v2 w2 y1 y2 _)
          have FF := hide (FQ.out v2 w2 y1 y2)
          clear y1 y2
          go_wp2
          go_roundg (s.size - (k + 1))
          case measure => rw [A.out.1]; omega
          case rel => exact ⟨k + 1, rfl, by omega, int_i64 (by omega), FF.out.1, FF.out.2.1, FF.out.2.2⟩
        · have n34 : ((c.toNat : Int) == 34) = false := u8n h34
          have t92 : ((c.toNat : Int) == 92) = true := by rcases hq with h | h; exact absurd h h34; subst h; rfl
          clear h34 hq
          go_wp2_with (at_builtin; refine wpList_append_own _ rfl (.tmp 28) (.tmp 30) 124 rfl B 5 i0 (.int .u8 0) 1 1 Tryz.underlying124 hi hz0 hz1 hz2 rfl (by decide) _ _ _ rfl (World.ownsRow.alloc hrow _) ⟨wr.heap.size, 0, none⟩ 2 2 (Lib.byteCells [92, c]) rfl rfl (by exact cells_new wr _ _) (bytes_one _) (by unfold maxLen; omega) (by omega) (by simp; omega) ?_; intro v2 w2 y1 y2 _)
          have FF := hide (FQ.out v2 w2 y1 y2)
          clear y1 y2
          go_wp2
          go_roundg (s.size - (k + 1))
          case measure => rw [A.out.1]; omega
          case rel => exact ⟨k + 1, rfl, by omega, int_i64 (by omega), FF.out.1, FF.out.2.1, FF.out.2.2⟩
      · have n34 : ((c.toNat : Int) == 34) = false := u8n (fun h => hq (Or.inl h))
        have n92 : ((c.toNat : Int) == 92) = false := u8n (fun h => hq (Or.inr h))
        have NQ := hide hq
        clear hq
        by_cases h32 : (c.toNat : Int) < 32
        · go_wp2_with fail
          refine (appendControl_c B wr u0 o1 c (by omega) hrow hBr (by omega)).mono ?_
          rintro e w2 ⟨⟨v2, rfl, y1, y2⟩, y3⟩
          have FF := hide (And.intro (show Row B w2 v2 (o ++ 34 :: (s.data.toList.take (k + 1)).flatMap cB) by rw [← ST.out]; exact y1) (And.intro (hwr.trans y2) (OW.out w2 y3)))
          clear y1 y2 y3
          go_wp2
          go_roundg (s.size - (k + 1))
          case measure => rw [A.out.1]; omega
          case rel => exact ⟨k + 1, rfl, by omega, int_i64 (by omega), FF.out.1, FF.out.2.1, FF.out.2.2⟩
        · have h32' : 32 ≤ (c.toNat : Int) := by omega
          have hcb : cB c = [c] := by
            have hn : ∀ d : UInt8, d.toNat < 32 → c ≠ d := by rintro d hd rfl; omega
            unfold cB
            rw [if_neg NQ.out, if_neg (hn 8 (by decide)), if_neg (hn 12 (by decide)), if_neg (hn 10 (by decide)), if_neg (hn 13 (by decide)), if_neg (hn 9 (by decide)), if_neg (by rw [UInt8.lt_iff_toNat_lt]; show ¬ c.toNat < 32; omega)]
          have CB := hide hcb
          clear hcb h32
          go_wp2_with (at_builtin; refine wpList_append_own _ rfl (.tmp 17) (.tmp 19) 124 rfl B 5 i0 (.int .u8 0) 1 1 Tryz.underlying124 hi hz0 hz1 hz2 rfl (by decide) _ _ _ rfl (World.ownsRow.alloc hrow _) ⟨wr.heap.size, 0, none⟩ 1 1 (Lib.byteCells [c]) rfl rfl (by exact cells_new wr _ _) (bytes_one _) (by unfold maxLen; omega) (by omega) (by simp; omega) ?_; intro v2 w2 y1 y2 _)
          have FF := hide (And.intro (show Row B w2 v2 (o ++ 34 :: (s.data.toList.take (k + 1)).flatMap cB) by rw [← ST.out, CB.out]; exact (app_bytes (l := [c]) hwr hBr hrow y1 y2).1) (And.intro (app_bytes (l := [c]) hwr hBr hrow y1 y2).2 (OW.out w2 (((Kp.refl _ _).alloc _).grown y2 (fun k hk _ => hk)))))
          clear y1 y2
          go_wp2
          go_roundg (s.size - (k + 1))
          case measure => rw [A.out.1]; omega
          case rel => exact ⟨k + 1, rfl, by omega, int_i64 (by omega), FF.out.1, FF.out.2.1, FF.out.2.2⟩
    · have hlt' : decide ((k : Int) < (s.size : Int)) = false := by simp; omega
      clear hbb
      go_wp2_with (at_builtin; refine wpList_append_own _ rfl (.tmp 39) (.tmp 40) 124 rfl B 5 i0 (.int .u8 0) 1 1 Tryz.underlying124 hi hz0 hz1 hz2 rfl (by decide) _ _ _ rfl (World.ownsRow.alloc hrow _) ⟨wr.heap.size, 0, none⟩ 1 1 (Lib.byteCells [34]) rfl rfl (by exact cells_new wr _ _) (bytes_one _) (by unfold maxLen; omega) (by omega) (by simp; omega) ?_; intro v2 w2 y1 y2 _)
      have FF := hide (app_bytes (l := [34]) hwr hBr hrow y1 y2)
      clear y1 y2
      go_wp2
      go_ret
      refine ⟨_, rfl, ?_, FF.out.2⟩
      have e1 : s.data.toList.take k = s.data.toList := List.take_of_length_le (by simp; omega)
      have e2 := A.out.2.1
      rw [e1] at e2
      have e3 : o ++ cStr s.data.toList = o1 ++ [34] := by rw [← e2]; simp [cStr]
      rw [e3]
      exact FF.out.1
end Go.Proofs.YtocligpfmfmihaaGreatDoor
namespace Go.Proofs.YtocligpfmfmihaaGreatDoor
open Go Go.RowKit Go.Maps Go.WideMaps

mutual
/-- How many values there are inside. -/
def cnt : J → Nat
  | .null => 0
  | .bool _ => 0
  | .num _ => 0
  | .str _ => 0
  | .arr l => cnts l
  | .obj l => cntm l
def cnts : List J → Nat
  | [] => 0
  | x :: l => 1 + cnt x + cnts l
def cntm : List (Bs × J) → Nat
  | [] => 0
  | (_, x) :: l => 1 + cnt x + cntm l
end
theorem cnts_ge : ∀ (l : List J), l.length ≤ cnts l ∧ ∀ x ∈ l, l.length + cnt x ≤ cnts l
  | [] => by simp [cnts]
  | y :: l => by
    obtain ⟨h1, h2⟩ := cnts_ge l
    rw [cnts]
    refine ⟨by rw [List.length_cons]; omega, fun x hx => ?_⟩
    rw [List.length_cons]
    rcases List.mem_cons.1 hx with rfl | hx
    · omega
    · have := h2 x hx; omega
theorem cntm_ge : ∀ (l : List (Bs × J)), l.length ≤ cntm l ∧ ∀ p ∈ l, l.length + cnt p.2 ≤ cntm l
  | [] => by simp [cntm]
  | (k, y) :: l => by
    obtain ⟨h1, h2⟩ := cntm_ge l
    rw [cntm]
    refine ⟨by rw [List.length_cons]; omega, fun x hx => ?_⟩
    rw [List.length_cons]
    rcases List.mem_cons.1 hx with rfl | hx
    · show _ + cnt y ≤ _; omega
    · have := h2 x hx; omega
theorem joinC_take (l : List Bs) (M : Nat) (h : ∀ x ∈ l, x.length ≤ M) : (joinC l).length ≤ l.length * (M + 1) := by
  induction l with
  | nil => simp [joinC]
  | cons x l ih =>
    cases l with
    | nil => simp only [joinC, List.length_cons, List.length_nil]; have := h x (by simp); omega
    | cons y l =>
      have h1 := ih (fun z hz => h z (by simp [List.mem_cons.1 hz]))
      have h2 := h x (by simp)
      rw [joinC, List.length_append, List.length_cons, List.length_cons (a := x)]
      have : (y :: l).length * (M + 1) + (M + 1) = ((y :: l).length + 1) * (M + 1) := by rw [Nat.add_mul]; omega
      omega

/-- What appendValue does. -/
def AppC (W : World) (j : J) : Prop := ∀ (B : Nat) (w : World) (v : Value) (o : List UInt8) (F : Nat → Prop) (vv : Value) (M : Nat), Below W.heap.size W w → W.heap.size ≤ B → Row B w v o → B ≤ w.heap.size → Rep w F j vv → (cJ j).length ≤ M →
  o.length + (cnt j + 1) * (M + 2) ≤ 139000000000000 → Calls Tryz.prog 68 #[v, vv] w fun e w' => WrR B w (o ++ cJ j) e w'

theorem Reps.get {w : World} {F : Nat → Prop} : ∀ (l : List J) (vs : List Value) (k : Nat) (hk : k < l.length), Reps w F l vs → ∃ v, vs[k]? = some v ∧ Rep w F l[k] v
  | x :: l, vs, 0, _, h => by
    rw [Reps] at h
    obtain ⟨v, r, rfl, h1, _⟩ := h
    exact ⟨v, rfl, h1⟩
  | x :: l, vs, k + 1, hk, h => by
    rw [Reps] at h
    obtain ⟨v, r, rfl, _, h2⟩ := h
    obtain ⟨u, h3, h4⟩ := Reps.get l r k (by simpa using hk) h2
    exact ⟨u, h3, h4⟩
theorem Reps.len {w : World} {F : Nat → Prop} : ∀ (l : List J) (vs : List Value), Reps w F l vs → vs.length = l.length
  | [], vs, h => by rw [Reps] at h; subst h; rfl
  | x :: l, vs, h => by
    rw [Reps] at h
    obtain ⟨v, r, rfl, _, h2⟩ := h
    simp [Reps.len l r h2]

set_option maxRecDepth 20000 in
set_option maxHeartbeats 1000000 in
theorem appendArray_c (W : World) (l : List J) (hl : ∀ x ∈ l, AppC W x) (B : Nat) (w : World) (v : Value) (o : List UInt8) (F : Nat → Prop) (sv : Value) (vs : List Value) (M : Nat) (hW : Below W.heap.size W w) (hWB : W.heap.size ≤ B) (hr : Row B w v o) (hB : B ≤ w.heap.size)
    (hsv : w.ownsRow 0 59 1 sv l.length vs) (hvs : Reps w F l vs) (hM : ∀ x ∈ l, (cJ x).length ≤ M) (hlim : o.length + (cnts l + 1) * (M + 2) ≤ 139000000000000) :
    Calls Tryz.prog 121 #[v, sv] w fun e w' => WrR B w (o ++ cJ (.arr l)) e w' := by
  obtain ⟨i0, hi, hz0, hz1, hz2⟩ := info_parts info8
  have hcl := cnts_ge l
  have hmul : l.length * (M + 2) ≤ (cnts l) * (M + 2) := Nat.mul_le_mul_right _ hcl.1
  have hmul2 : (cnts l + 1) * (M + 2) = cnts l * (M + 2) + (M + 2) := by rw [Nat.add_mul]; omega
  obtain ⟨sa, cap, rfl⟩ : ∃ sa cap, sv = .slice sa l.length cap := by
    obtain ⟨_, ⟨rfl, h⟩ | ⟨g, cap, cur, rfl, _⟩⟩ := hsv
    · exact ⟨none, 0, by rw [h]⟩
    · exact ⟨_, _, rfl⟩
  have HL := hide hl
  clear hl
  go_enter Tryz.func121, Tryz.ntmps121
  go_wp2_with (at_builtin; refine wpList_append_own _ rfl (.tmp 7) (.tmp 8) 124 rfl B 5 i0 (.int .u8 0) 1 1 Tryz.underlying124 hi hz0 hz1 hz2 rfl (by decide) _ _ _ rfl (World.ownsRow.alloc hr _) ⟨w.heap.size, 0, none⟩ 1 1 (Lib.byteCells [91]) rfl rfl (by exact cells_new w _ _) (bytes_one _) (by unfold maxLen; omega) (by omega) (by simp; omega) ?_; intro v1 w1 y1 y2 _)
  obtain ⟨z1, z2⟩ := app_bytes (l := [91]) (Wr.refl B w) hB hr y1 y2
  clear y1 y2
  go_wp2_with fail
  go_loopg [0, 12] l.length (fun g a i wr => ∃ k : Nat, g = l.length - k ∧ k ≤ l.length ∧ i = .int .i64 (k : Int) ∧ Row B wr a (o ++ 91 :: joinC ((l.take k).map cJ)) ∧ Wr B w wr)
  case atStart => exact ⟨0, rfl, by omega, rfl, by simpa [joinC] using z1, z2⟩
  case round =>
    obtain ⟨k, hg, hk, rfl, hrow, hwr⟩ := hrel
    have hlen : (o ++ 91 :: joinC ((l.take k).map cJ)).length ≤ o.length + 1 + k * (M + 1) := by
      have h1 := joinC_take ((l.take k).map cJ) M (by
        intro x hx
        obtain ⟨y, hy, rfl⟩ := List.mem_map.1 hx
        exact hM y (List.mem_of_mem_take hy))
      have h2 : ((l.take k).map cJ).length ≤ k := by rw [List.length_map]; exact List.length_take_le _ _
      have h3 := Nat.mul_le_mul_right (M + 1) h2
      rw [List.length_append, List.length_cons]
      omega
    have hkm : k * (M + 1) + k = k * (M + 2) := by rw [Nat.mul_add, Nat.mul_add]; omega
    have hkm2 : k * (M + 2) ≤ l.length * (M + 2) := Nat.mul_le_mul_right _ hk
    generalize ho1 : o ++ 91 :: joinC ((l.take k).map cJ) = o1 at *
    have A := hide (And.intro hg ho1)
    have hBr : B ≤ wr.heap.size := Nat.le_trans hB hwr.below.size
    clear hg ho1 z1 z2
    by_cases hlt : k < l.length
    · obtain ⟨vx, hvx1, hvx2⟩ := Reps.get l vs k hlt hvs
      have hcell : ∃ g, sa = some ⟨g, 0, none⟩ ∧ wr.cell? ⟨g, k, none⟩ = some vx ∧ l.length ≤ cap := by
        obtain ⟨_, ⟨h1, h2⟩ | ⟨g, cap', cur, h1, _, hh, r1, r2, r3, r4⟩⟩ := hsv
        · omega
        · injection h1 with h1 h2 h3
          refine ⟨g, h1, ?_, by omega⟩
          have e1 := hwr.oth g _ hh (by simp) (by intro c fz; simp)
          have e2 : cur[k]? = some vx := by
            have : (cur.toList.take (l.length * 1))[k]? = some vx := by rw [r4]; exact hvx1
            rw [List.getElem?_take_of_lt (by omega)] at this
            simpa using this
          simp [World.cell?, e1, e2]
      obtain ⟨g, rfl, hcell, hcap⟩ := hcell
      obtain ⟨tt, u, rfl⟩ := Rep.iface hvx2
      have hstep : joinC ((l.take (k + 1)).map cJ) = if k = 0 then cJ l[k] else joinC ((l.take k).map cJ) ++ 44 :: cJ l[k] := by
        rw [List.take_succ_eq_append_getElem hlt, List.map_append, List.map_cons, List.map_nil, joinC_snoc]
        by_cases h0 : k = 0
        · subst h0; simp
        · have : (l.take k).map cJ ≠ [] := by
            intro e
            have := congrArg List.length e
            rw [List.length_map, List.length_take, List.length_nil] at this
            omega
          rw [if_neg this, if_neg h0]
      have hx := hcl.2 l[k] (List.getElem_mem hlt)
      have hx2 : (l.length + cnt l[k]) * (M + 2) ≤ cnts l * (M + 2) := Nat.mul_le_mul_right _ hx
      have hx3 : (l.length + cnt l[k]) * (M + 2) = l.length * (M + 2) + cnt l[k] * (M + 2) := Nat.add_mul _ _ _
      have hx4 : (cnt l[k] + 1) * (M + 2) = cnt l[k] * (M + 2) + (M + 2) := by rw [Nat.add_mul]; omega
      have hx5 : (k + 1) * (M + 2) ≤ l.length * (M + 2) := Nat.mul_le_mul_right _ hlt
      have hx6 : (k + 1) * (M + 2) = k * (M + 2) + (M + 2) := by rw [Nat.add_mul]; omega
      have hc1 := HL.out l[k] (List.getElem_mem hlt)
      have hc2 := hM l[k] (List.getElem_mem hlt)
      generalize hlk : l[k] = x at *
      have X := hide (And.intro hstep (And.intro hvx2 hc1))
      clear hstep hvx2 hc1 hlk hx hvx1
      by_cases h0 : k = 0
      · have e0 : o ++ 91 :: joinC ((l.take (k + 1)).map cJ) = o1 ++ cJ x := by
          rw [X.out.1, if_pos h0, ← A.out.2, h0]
          simp [joinC]
        have E0 := hide e0
        clear e0
        subst h0
        go_wp2_with fail
        refine (X.out.2.2 B wr u0 o1 F (.iface tt u) M (hW.trans (hwr.below.mono hWB)) hWB hrow hBr (Rep.oth hwr.oth x X.out.2.1) hc2 (by omega)).mono ?_
        rintro e w3 ⟨v3, rfl, q1, q2⟩
        go_wp2
        go_roundg (l.length - (0 + 1))
        case measure => rw [A.out.1]; omega
        case rel => exact ⟨0 + 1, rfl, by omega, int_i64 (by omega), by rw [E0.out]; exact q1, hwr.trans q2⟩
      · have e0 : o ++ 91 :: joinC ((l.take (k + 1)).map cJ) = o1 ++ [44] ++ cJ x := by
          rw [X.out.1, if_neg h0, ← A.out.2]
          simp
        have E0 := hide e0
        have hpos : 0 < k := by omega
        clear e0 h0
        go_wp2_with (at_builtin; refine wpList_append_own _ rfl (.tmp 19) (.tmp 20) 124 rfl B 5 i0 (.int .u8 0) 1 1 Tryz.underlying124 hi hz0 hz1 hz2 rfl (by decide) _ _ _ rfl (World.ownsRow.alloc hrow _) ⟨wr.heap.size, 0, none⟩ 1 1 (Lib.byteCells [44]) rfl rfl (by exact cells_new wr _ _) (bytes_one _) (by unfold maxLen; omega) (by omega) (by simp; omega) ?_; intro v2 w2 y1 y2 _)
        obtain ⟨z1, z2⟩ := app_bytes (l := [44]) hwr hBr hrow y1 y2
        clear y1 y2
        have hB2 : B ≤ w2.heap.size := Nat.le_trans hB z2.below.size
        have hl2 : (o1 ++ [44]).length = o1.length + 1 := by simp
        go_wp2_with fail
        refine (X.out.2.2 B w2 v2 (o1 ++ [44]) F (.iface tt u) M (hW.trans (z2.below.mono hWB)) hWB z1 hB2 (Rep.oth z2.oth x X.out.2.1) hc2 (by omega)).mono ?_
        rintro e w3 ⟨v3, rfl, q1, q2⟩
        go_wp2
        go_roundg (l.length - (k + 1))
        case measure => rw [A.out.1]; omega
        case rel => exact ⟨k + 1, rfl, by omega, int_i64 (by omega), by rw [E0.out]; exact q1, z2.trans q2⟩
    · have hnlt : l.length ≤ k := by omega
      clear hsv
      go_wp2_with (at_builtin; refine wpList_append_own _ rfl (.tmp 26) (.tmp 27) 124 rfl B 5 i0 (.int .u8 0) 1 1 Tryz.underlying124 hi hz0 hz1 hz2 rfl (by decide) _ _ _ rfl (World.ownsRow.alloc hrow _) ⟨wr.heap.size, 0, none⟩ 1 1 (Lib.byteCells [93]) rfl rfl (by exact cells_new wr _ _) (bytes_one _) (by unfold maxLen; omega) (by omega) (by simp; omega) ?_; intro v2 w2 y1 y2 _)
      obtain ⟨z1, z2⟩ := app_bytes (l := [93]) hwr hBr hrow y1 y2
      have Z := hide (And.intro z1 z2)
      clear y1 y2 z1 z2
      go_wp2
      go_ret
      refine ⟨_, rfl, ?_, Z.out.2⟩
      have e1 : l.take k = l := List.take_of_length_le hnlt
      have e2 := A.out.2
      rw [e1] at e2
      have e3 : o ++ cJ (.arr l) = o1 ++ [93] := by rw [cJ_arr, ← e2]; simp
      rw [e3]
      exact Z.out.1
end Go.Proofs.YtocligpfmfmihaaGreatDoor

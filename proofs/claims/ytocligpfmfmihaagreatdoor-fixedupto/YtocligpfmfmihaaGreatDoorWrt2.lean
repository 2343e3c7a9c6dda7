import Derived.Test.YtocligpfmfmihaaGreatDoorWrt
namespace Go.Proofs.YtocligpfmfmihaaGreatDoor
open Go Go.RowKit Go.Maps Go.WideMaps

theorem cStr_step (l : List UInt8) (c : UInt8) : (l ++ [c]).flatMap cB = l.flatMap cB ++ cB c := by simp
theorem take_snoc' (s : ByteArray) (k : Nat) (h : k < s.size) : s.data.toList.take (k + 1) = s.data.toList.take k ++ [s[k]] := by
  rw [List.take_succ_eq_append_getElem (by simpa using h)]; rfl
theorem cB_len (c : UInt8) : (cB c).length ≤ 6 := by
  unfold cB
  repeat' split
  all_goals simp
theorem flat_ge (l : List UInt8) : l.length ≤ (l.flatMap cB).length := by
  induction l with
  | nil => simp
  | cons c l ih =>
    have : 1 ≤ (cB c).length := by
      unfold cB
      repeat' split
      all_goals simp
    rw [List.flatMap_cons, List.length_append, List.length_cons]
    omega
theorem flat_take (l : List UInt8) (k : Nat) : ((l.take k).flatMap cB).length ≤ (l.flatMap cB).length := by
  conv => rhs; rw [← List.take_append_drop k l, List.flatMap_append, List.length_append]
  omega
theorem bytesW_wr {B : Nat} {a w : World} {s : ByteArray} (h : Wr B a w) (hB : B ≤ w.heap.size) : Wr B a (Lib.bytesWorld w 5 s) := by
  refine h.trans ⟨⟨?_, ?_, ?_, ?_, fun k hk => Lib.bytesWorld_at_old w _ s k (by omega)⟩, fun i o h1 _ _ => by rw [Lib.bytesWorld_at_old w _ s i (lt_heap h1)]; exact h1⟩
  · unfold Lib.bytesWorld World.freeze; rw [if_neg (by decide)]; rfl
  · unfold Lib.bytesWorld World.freeze; rw [if_neg (by decide)]; rfl
  · unfold Lib.bytesWorld World.freeze; rw [if_neg (by decide)]; rfl
  · rw [Lib.bytesWorld_size]; omega
theorem row_ne {B bb : Nat} {w w1 : World} {v : Value} {o : List UInt8} {s : ByteArray} (hr : Row B w v o) (h : w.heap[bb]? = (Lib.bytesWorld w1 5 s).heap[w1.heap.size]?) : v.ownBlock ≠ some bb := by
  intro e
  obtain ⟨_, ⟨rfl, _⟩ | ⟨g, cap, cur, rfl, _, hh, _⟩⟩ := hr
  · cases e
  · injection e with e
    subst e
    rw [h, Lib.bytesWorld_at_new] at hh
    injection hh with hh
    injection hh with _ _ hh
    injection hh with h1 h2
    omega

set_option maxRecDepth 20000 in
set_option maxHeartbeats 1000000 in
theorem appendString_c (B : Nat) (w : World) (v : Value) (o : List UInt8) (s : ByteArray) (hr : Row B w v o) (hB : B ≤ w.heap.size) (ho : o.length + (cStr s.data.toList).length ≤ 139000000000000) :
    Calls Tryz.prog 120 #[v, .string s] w fun e w' => WrR B w (o ++ cStr s.data.toList) e w' := by
  obtain ⟨i0, hi, hz0, hz1, hz2⟩ := info_parts info8
  have hss : s.size ≤ 139000000000000 := by
    have h1 := flat_ge s.data.toList
    have h2 : s.data.toList.length = s.size := by rw [Array.length_toList]; rfl
    rw [cStr, List.length_cons, List.length_append] at ho
    omega
  have hcv := fun w1 : World => Lib.run_convert_string_bytes (P := Tryz.prog) w1 9 124 5 s Tryz.underlying9 Tryz.underlying124 Tryz.underlying5
  go_enter Tryz.func120, Tryz.ntmps120
  go_wp2_with (at_builtin; refine wpList_append_own _ rfl (.tmp 7) (.tmp 8) 124 rfl B 5 i0 (.int .u8 0) 1 1 Tryz.underlying124 hi hz0 hz1 hz2 rfl (by decide) _ _ _ rfl (World.ownsRow.alloc hr _) ⟨w.heap.size, 0, none⟩ 1 1 (Lib.byteCells [34]) rfl rfl (by exact cells_new w _ _) (bytes_one _) (by unfold maxLen; omega) (by omega) (by simp; omega) ?_; intro v1 w1 y1 y2 _)
  obtain ⟨z1, z2⟩ := app_bytes (l := [34]) (Wr.refl B w) hB hr y1 y2
  have hB1 : B ≤ w1.heap.size := Nat.le_trans hB z2.below.size
  clear y1 y2
  go_wp2_with fail
  go_loopg [0, 13] s.size (fun g a i wr => ∃ k : Nat, g = s.size - k ∧ k ≤ s.size ∧ i = .int .i64 (k : Int) ∧ Row B wr a (o ++ 34 :: (s.data.toList.take k).flatMap cB) ∧ Wr B w wr ∧ wr.heap[w1.heap.size]? = (Lib.bytesWorld w1 5 s).heap[w1.heap.size]?)
  case atStart =>
    refine ⟨0, rfl, by omega, rfl, ?_, bytesW_wr z2 hB1, rfl⟩
    simp only [List.take_zero, List.flatMap_nil]
    exact z1.old (fun k hk => Lib.bytesWorld_at_old w1 _ s k (z1.lt k hk).2)
  case round =>
    obtain ⟨k, hg, hk, rfl, hrow, hwr, hbb⟩ := hrel
    have hlen : (o ++ 34 :: (s.data.toList.take k).flatMap cB).length + 1 ≤ o.length + (cStr s.data.toList).length := by
      have h1 := flat_take s.data.toList k
      rw [List.length_append, List.length_cons, cStr, List.length_cons, List.length_append, List.length_singleton]
      omega
    generalize ho1 : o ++ 34 :: (s.data.toList.take k).flatMap cB = o1 at *
    have A := hide (And.intro hg (And.intro ho1 hbb))
    have hBr : B ≤ wr.heap.size := Nat.le_trans hB hwr.below.size
    have hlt1 : w1.heap.size < wr.heap.size := by
      have := hbb
      rw [Lib.bytesWorld_at_new] at this
      exact lt_heap this
    clear hg ho1 z1 z2
    by_cases hlt : k < s.size
    · have hcell : wr.cell? ⟨w1.heap.size, k, none⟩ = some (.int .u8 (s[k].toNat : Int)) := by
        have h1 : wr.cell? ⟨w1.heap.size, k, none⟩ = (Lib.bytesWorld w1 5 s).cell? ⟨w1.heap.size, k, none⟩ := World.cell?_of_block (a := ⟨w1.heap.size, k, none⟩) hbb
        rw [h1, Lib.bytesWorld_cell w1 _ s k hlt]
        simp [List.getD, hlt]
        rfl
      clear hbb
      have hstep : o1 ++ cB s[k] = o ++ 34 :: (s.data.toList.take (k + 1)).flatMap cB := by
        rw [take_snoc' s k hlt, cStr_step, ← A.out.2.1]; simp
      generalize s[k] = c at *
      have ST := hide hstep
      have hc256 : c.toNat < 256 := c.toNat_lt
      have hlt' : decide ((k : Int) < (s.size : Int)) = true := by simp; omega
      have own' : ∀ w2, Kp (fun k => u0.ownBlock = some k) wr w2 → w2.heap[w1.heap.size]? = (Lib.bytesWorld w1 5 s).heap[w1.heap.size]? := fun w2 hk2 =>
        (hk2.block _ hlt1 (row_ne hrow A.out.2.2)).trans A.out.2.2
      have OW := hide own'
      clear hstep own'
      by_cases hq : c = 34 ∨ c = 92
      · have hcb : cB c = [92, c] := by unfold cB; rw [if_pos hq]
        have CB := hide hcb
        clear hcb
        have finQ : ∀ v2 w2, w2.ownsRow B 5 1 v2 (o1.length + 2) (Lib.byteCells o1 ++ Lib.byteCells [92, c]) → (wr.alloc (.cells #[.int .u8 92, .int .u8 c.toNat] 5)).grownBy w2 u0.ownBlock → Row B w2 v2 (o ++ 34 :: (s.data.toList.take (k + 1)).flatMap cB) ∧ Wr B w w2 ∧ w2.heap[w1.heap.size]? = (Lib.bytesWorld w1 5 s).heap[w1.heap.size]? := by
          intro v2 w2 y1 y2
          obtain ⟨z1, z2⟩ := app_bytes (l := [92, c]) hwr hBr hrow y1 y2
          refine ⟨?_, z2, OW.out w2 (((Kp.refl _ _).alloc _).grown y2 (fun k hk _ => hk))⟩
          rw [← ST.out, CB.out]; exact z1
        have FQ := hide finQ
        clear finQ
        by_cases h34 : c = 34
        · have t34 : ((c.toNat : Int) == 34) = true := by subst h34; rfl
          clear h34 hq
          go_wp2_with (at_builtin; refine wpList_append_own _ rfl (.tmp 28) (.tmp 30) 124 rfl B 5 i0 (.int .u8 0) 1 1 Tryz.underlying124 hi hz0 hz1 hz2 rfl (by decide) _ _ _ rfl (World.ownsRow.alloc hrow _) ⟨wr.heap.size, 0, none⟩ 2 2 (Lib.byteCells [92, c]) rfl rfl (by exact cells_new wr _ _) (bytes_one _) (by unfold maxLen; omega) (by omega) (by simp; omega) ?_; intro v2 w2 y1 y2 _)
          have FF := hide (FQ.out v2 w2 y1 y2)
          clear y1 y2
          go_wp2
          go_roundg (s.size - (k + 1))
          case measure => rw [A.out.1]; omega
          case rel => exact ⟨k + 1, rfl, by omega, int_i64 (by omega), FF.out.1, FF.out.2.1, FF.out.2.2⟩
        · have n34 : ((c.toNat : Int) == 34) = false := u8n h34
          have t92 : ((c.toNat : Int) == 92) = true := by rcases hq with h | h; exact absurd h h34; subst h; rfl
          clear h34 hq
          go_wp2_with (at_builtin; refine wpList_append_own _ rfl (.tmp 28) (.tmp 30) 124 rfl B 5 i0 (.int .u8 0) 1 1 Tryz.underlying124 hi hz0 hz1 hz2 rfl (by decide) _ _ _ rfl (World.ownsRow.alloc hrow _) ⟨wr.heap.size, 0, none⟩ 2 2 (Lib.byteCells [92, c]) rfl rfl (by exact cells_new wr _ _) (bytes_one _) (by unfold maxLen; omega) (by omega) (by simp; omega) ?_; intro v2 w2 y1 y2 _)
          have FF := hide (FQ.out v2 w2 y1 y2)
          clear y1 y2
          go_wp2
          go_roundg (s.size - (k + 1))
          case measure => rw [A.out.1]; omega
          case rel => exact ⟨k + 1, rfl, by omega, int_i64 (by omega), FF.out.1, FF.out.2.1, FF.out.2.2⟩
      · have n34 : ((c.toNat : Int) == 34) = false := u8n (fun h => hq (Or.inl h))
        have n92 : ((c.toNat : Int) == 92) = false := u8n (fun h => hq (Or.inr h))
        have NQ := hide hq
        clear hq
        by_cases h32 : (c.toNat : Int) < 32
        · go_wp2_with fail
          refine (appendControl_c B wr u0 o1 c (by omega) hrow hBr (by omega)).mono ?_
          rintro e w2 ⟨⟨v2, rfl, y1, y2⟩, y3⟩
          have FF := hide (And.intro (show Row B w2 v2 (o ++ 34 :: (s.data.toList.take (k + 1)).flatMap cB) by rw [← ST.out]; exact y1) (And.intro (hwr.trans y2) (OW.out w2 y3)))
          clear y1 y2 y3
          go_wp2
          go_roundg (s.size - (k + 1))
          case measure => rw [A.out.1]; omega
          case rel => exact ⟨k + 1, rfl, by omega, int_i64 (by omega), FF.out.1, FF.out.2.1, FF.out.2.2⟩
        · have h32' : 32 ≤ (c.toNat : Int) := by omega
          have hcb : cB c = [c] := by
            have hn : ∀ d : UInt8, d.toNat < 32 → c ≠ d := by rintro d hd rfl; omega
            unfold cB
            rw [if_neg NQ.out, if_neg (hn 8 (by decide)), if_neg (hn 12 (by decide)), if_neg (hn 10 (by decide)), if_neg (hn 13 (by decide)), if_neg (hn 9 (by decide)), if_neg (by rw [UInt8.lt_iff_toNat_lt]; show ¬ c.toNat < 32; omega)]
          have CB := hide hcb
          clear hcb h32
          go_wp2_with (at_builtin; refine wpList_append_own _ rfl (.tmp 17) (.tmp 19) 124 rfl B 5 i0 (.int .u8 0) 1 1 Tryz.underlying124 hi hz0 hz1 hz2 rfl (by decide) _ _ _ rfl (World.ownsRow.alloc hrow _) ⟨wr.heap.size, 0, none⟩ 1 1 (Lib.byteCells [c]) rfl rfl (by exact cells_new wr _ _) (bytes_one _) (by unfold maxLen; omega) (by omega) (by simp; omega) ?_; intro v2 w2 y1 y2 _)
          have FF := hide (And.intro (show Row B w2 v2 (o ++ 34 :: (s.data.toList.take (k + 1)).flatMap cB) by rw [← ST.out, CB.out]; exact (app_bytes (l := [c]) hwr hBr hrow y1 y2).1) (And.intro (app_bytes (l := [c]) hwr hBr hrow y1 y2).2 (OW.out w2 (((Kp.refl _ _).alloc _).grown y2 (fun k hk _ => hk)))))
          clear y1 y2
          go_wp2
          go_roundg (s.size - (k + 1))
          case measure => rw [A.out.1]; omega
          case rel => exact ⟨k + 1, rfl, by omega, int_i64 (by omega), FF.out.1, FF.out.2.1, FF.out.2.2⟩
    · have hlt' : decide ((k : Int) < (s.size : Int)) = false := by simp; omega
      clear hbb
      go_wp2_with (at_builtin; refine wpList_append_own _ rfl (.tmp 39) (.tmp 40) 124 rfl B 5 i0 (.int .u8 0) 1 1 Tryz.underlying124 hi hz0 hz1 hz2 rfl (by decide) _ _ _ rfl (World.ownsRow.alloc hrow _) ⟨wr.heap.size, 0, none⟩ 1 1 (Lib.byteCells [34]) rfl rfl (by exact cells_new wr _ _) (bytes_one _) (by unfold maxLen; omega) (by omega) (by simp; omega) ?_; intro v2 w2 y1 y2 _)
      have FF := hide (app_bytes (l := [34]) hwr hBr hrow y1 y2)
      clear y1 y2
      go_wp2
      go_ret
      refine ⟨_, rfl, ?_, FF.out.2⟩
      have e1 : s.data.toList.take k = s.data.toList := List.take_of_length_le (by simp; omega)
      have e2 := A.out.2.1
      rw [e1] at e2
      have e3 : o ++ cStr s.data.toList = o1 ++ [34] := by rw [← e2]; simp [cStr]
      rw [e3]
      exact FF.out.1
end Go.Proofs.YtocligpfmfmihaaGreatDoor

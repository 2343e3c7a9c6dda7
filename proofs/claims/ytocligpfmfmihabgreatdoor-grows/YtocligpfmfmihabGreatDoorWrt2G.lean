import Derived.Test.YtocligpfmfmihabGreatDoorRefG
namespace Go.Proofs.YtocligpfmfmihabGreatDoor
open Go Go.RowKit Go.Maps Go.WideMaps

theorem cStr_step (l : List UInt8) (c : UInt8) : (l ++ [c]).flatMap cB = l.flatMap cB ++ cB c := by simp
theorem take_snoc' (s : ByteArray) (k : Nat) (h : k < s.size) : s.data.toList.take (k + 1) = s.data.toList.take k ++ [s[k]] := by
  rw [List.take_succ_eq_append_getElem (by simpa using h)]; rfl
theorem flat_ge (l : List UInt8) : l.length ≤ (l.flatMap cB).length := by
  induction l with
  | nil => simp
  | cons c l ih =>
    have : 1 ≤ (cB c).length := by
      unfold cB
      repeat' split
      all_goals simp
    rw [List.flatMap_cons, List.length_append, List.length_cons]
    omega
theorem flat_take (l : List UInt8) (k : Nat) : ((l.take k).flatMap cB).length ≤ (l.flatMap cB).length := by
  conv => rhs; rw [← List.take_append_drop k l, List.flatMap_append, List.length_append]
  omega
theorem bytesW_wr {B : Nat} {a w : World} {s : ByteArray} (h : Wr B a w) (hB : B ≤ w.heap.size) : Wr B a (Lib.bytesWorld w 5 s) := by
  refine h.trans ⟨⟨?_, ?_, ?_, ?_, fun k hk => Lib.bytesWorld_at_old w _ s k (by omega)⟩, fun i o h1 _ _ => by rw [Lib.bytesWorld_at_old w _ s i (lt_heap h1)]; exact h1⟩
  · unfold Lib.bytesWorld World.freeze; rw [if_neg (by decide)]; rfl
  · unfold Lib.bytesWorld World.freeze; rw [if_neg (by decide)]; rfl
  · unfold Lib.bytesWorld World.freeze; rw [if_neg (by decide)]; rfl
  · rw [Lib.bytesWorld_size]; omega
theorem row_ne {B bb : Nat} {w w1 : World} {v : Value} {o : List UInt8} {s : ByteArray} (hr : Row B w v o) (h : w.heap[bb]? = (Lib.bytesWorld w1 5 s).heap[w1.heap.size]?) : v.ownBlock ≠ some bb := by
  intro e
  obtain ⟨_, ⟨rfl, _⟩ | ⟨g, cap, cur, rfl, _, hh, _⟩⟩ := hr
  · cases e
  · injection e with e
    subst e
    rw [h, Lib.bytesWorld_at_new] at hh
    injection hh with hh
    injection hh with _ _ hh
    injection hh with h1 h2
    omega

set_option maxRecDepth 20000 in
set_option maxHeartbeats 1000000 in
theorem appendString_c (B : Nat) (w : World) (v : Value) (o : List UInt8) (s : ByteArray) (hr : Row B w v o) (hB : B ≤ w.heap.size) (ho : o.length + (cStr s.data.toList).length ≤ 139000000000000) :
    Calls Tryz.prog 85 #[v, .string s] w fun e w' => WrR B w (o ++ cStr s.data.toList) e w' := by
  obtain ⟨i0, hi, hz0, hz1, hz2⟩ := info_parts info8
  have hss : s.size ≤ 139000000000000 := by
    have h1 := flat_ge s.data.toList
    have h2 : s.data.toList.length = s.size := by rw [Array.length_toList]; rfl
    rw [cStr, List.length_cons, List.length_append] at ho
    omega
  have hcv := fun w1 : World => Lib.run_convert_string_bytes (P := Tryz.prog) w1 9 95 5 s Tryz.underlying9 Tryz.underlying95 Tryz.underlying5
  go_enter Tryz.func85, Tryz.ntmps85
  go_wp2_with (at_builtin; refine wpList_append_own _ rfl (.tmp 7) (.tmp 8) 95 rfl B 5 i0 (.int .u8 0) 1 1 Tryz.underlying95 hi hz0 hz1 hz2 rfl (by decide) _ _ _ rfl (World.ownsRow.alloc hr _) ⟨w.heap.size, 0, none⟩ 1 1 (Lib.byteCells [34]) rfl rfl (by exact cells_new w _ _) (bytes_one _) (by unfold maxLen; omega) (by omega) (by simp; omega) ?_; intro v1 w1 y1 y2 _)
  obtain ⟨z1, z2⟩ := app_bytes (l := [34]) (Wr.refl B w) hB hr y1 y2
  have hB1 : B ≤ w1.heap.size := Nat.le_trans hB z2.below.size
  clear y1 y2
  go_wp2_with fail
  go_loopg [0, 13] s.size (fun g a i wr => ∃ k : Nat, g = s.size - k ∧ k ≤ s.size ∧ i = .int .i64 (k : Int) ∧ Row B wr a (o ++ 34 :: (s.data.toList.take k).flatMap cB) ∧ Wr B w wr ∧ wr.heap[w1.heap.size]? = (Lib.bytesWorld w1 5 s).heap[w1.heap.size]?)
  case atStart =>
    refine ⟨0, rfl, by omega, rfl, ?_, bytesW_wr z2 hB1, rfl⟩
    simp only [List.take_zero, List.flatMap_nil]
    exact z1.old (fun k hk => Lib.bytesWorld_at_old w1 _ s k (z1.lt k hk).2)
  case round =>
    obtain ⟨k, hg, hk, rfl, hrow, hwr, hbb⟩ := hrel
    have hlen : (o ++ 34 :: (s.data.toList.take k).flatMap cB).length + 1 ≤ o.length + (cStr s.data.toList).length := by
      have h1 := flat_take s.data.toList k
      rw [List.length_append, List.length_cons, cStr, List.length_cons, List.length_append, List.length_singleton]
      omega
    generalize ho1 : o ++ 34 :: (s.data.toList.take k).flatMap cB = o1 at *
    have A := hide (And.intro hg (And.intro ho1 hbb))
    have hBr : B ≤ wr.heap.size := Nat.le_trans hB hwr.below.size
    have hlt1 : w1.heap.size < wr.heap.size := by
      have := hbb
      rw [Lib.bytesWorld_at_new] at this
      exact lt_heap this
    clear hg ho1 z1 z2
    by_cases hlt : k < s.size
    · have hcell : wr.cell? ⟨w1.heap.size, k, none⟩ = some (.int .u8 (s[k].toNat : Int)) := by
        have h1 : wr.cell? ⟨w1.heap.size, k, none⟩ = (Lib.bytesWorld w1 5 s).cell? ⟨w1.heap.size, k, none⟩ := World.cell?_of_block (a := ⟨w1.heap.size, k, none⟩) hbb
        rw [h1, Lib.bytesWorld_cell w1 _ s k hlt]
        simp [List.getD, hlt]
        rfl
      clear hbb
      have hstep : o1 ++ cB s[k] = o ++ 34 :: (s.data.toList.take (k + 1)).flatMap cB := by
        rw [take_snoc' s k hlt, cStr_step, ← A.out.2.1]; simp
      generalize s[k] = c at *
      have ST := hide hstep
      have hc256 : c.toNat < 256 := c.toNat_lt
      have hlt' : decide ((k : Int) < (s.size : Int)) = true := by simp; omega
      have own' : ∀ w2, Kp (fun k => u0.ownBlock = some k) wr w2 → w2.heap[w1.heap.size]? = (Lib.bytesWorld w1 5 s).heap[w1.heap.size]? := fun w2 hk2 =>
        (hk2.block _ hlt1 (row_ne hrow A.out.2.2)).trans A.out.2.2
      have OW := hide own'
      clear hstep own'
      by_cases hq : c = 34 ∨ c = 92
      · have hcb : cB c = [92, c] := by unfold cB; rw [if_pos hq]
        have CB := hide hcb
        clear hcb
        have finQ : ∀ v2 w2, w2.ownsRow B 5 1 v2 (o1.length + 2) (Lib.byteCells o1 ++ Lib.byteCells [92, c]) → (wr.alloc (.cells #[.int .u8 92, .int .u8 c.toNat] 5)).grownBy w2 u0.ownBlock → Row B w2 v2 (o ++ 34 :: (s.data.toList.take (k + 1)).flatMap cB) ∧ Wr B w w2 ∧ w2.heap[w1.heap.size]? = (Lib.bytesWorld w1 5 s).heap[w1.heap.size]? := by
          intro v2 w2 y1 y2
          obtain ⟨z1, z2⟩ := app_bytes (l := [92, c]) hwr hBr hrow y1 y2
          refine ⟨?_, z2, OW.out w2 (((Kp.refl _ _).alloc _).grown y2 (fun k hk _ => hk))⟩
          rw [← ST.out, CB.out]; exact z1
        have FQ := hide finQ
        clear finQ
        by_cases h34 : c = 34
        · have t34 : ((c.toNat : Int) == 34) = true := by subst h34; rfl
          clear h34 hq
          go_wp2_with (at_builtin; refine wpList_append_own _ rfl (.tmp 28) (.tmp 30) 95 rfl B 5 i0 (.int .u8 0) 1 1 Tryz.underlying95 hi hz0 hz1 hz2 rfl (by decide) _ _ _ rfl (World.ownsRow.alloc hrow _) ⟨wr.heap.size, 0, none⟩ 2 2 (Lib.byteCells [92, c]) rfl rfl (by exact cells_new wr _ _) (bytes_one _) (by unfold maxLen; omega) (by omega) (by simp; omega) ?_; intro v2 w2 y1 y2 _)
          have FF := hide (FQ.out v2 w2 y1 y2)
          clear y1 y2
          go_wp2
          go_roundg (s.size - (k + 1))
          case measure => rw [A.out.1]; omega
          case rel => exact ⟨k + 1, rfl, by omega, int_i64 (by omega), FF.out.1, FF.out.2.1, FF.out.2.2⟩
        · have n34 : ((c.toNat : Int) == 34) = false := u8n h34
          have t92 : ((c.toNat : Int) == 92) = true := by rcases hq with h | h; exact absurd h h34; subst h; rfl
          clear h34 hq
          go_wp2_with (at_builtin; refine wpList_append_own _ rfl (.tmp 28) (.tmp 30) 95 rfl B 5 i0 (.int .u8 0) 1 1 Tryz.underlying95 hi hz0 hz1 hz2 rfl (by decide) _ _ _ rfl (World.ownsRow.alloc hrow _) ⟨wr.heap.size, 0, none⟩ 2 2 (Lib.byteCells [92, c]) rfl rfl (by exact cells_new wr _ _) (bytes_one _) (by unfold maxLen; omega) (by omega) (by simp; omega) ?_; intro v2 w2 y1 y2 _)
          have FF := hide (FQ.out v2 w2 y1 y2)
          clear y1 y2
          go_wp2
          go_roundg (s.size - (k + 1))
          case measure => rw [A.out.1]; omega
          case rel => exact ⟨k + 1, rfl, by omega, int_i64 (by omega), FF.out.1, FF.out.2.1, FF.out.2.2⟩
      · have n34 : ((c.toNat : Int) == 34) = false := u8n (fun h => hq (Or.inl h))
        have n92 : ((c.toNat : Int) == 92) = false := u8n (fun h => hq (Or.inr h))
        have NQ := hide hq
        clear hq
        by_cases h32 : (c.toNat : Int) < 32
        · go_wp2_with fail
          refine (appendControl_c B wr u0 o1 c (by omega) hrow hBr (by omega)).mono ?_
          rintro e w2 ⟨⟨v2, rfl, y1, y2⟩, y3⟩
          have FF := hide (And.intro (show Row B w2 v2 (o ++ 34 :: (s.data.toList.take (k + 1)).flatMap cB) by rw [← ST.out]; exact y1) (And.intro (hwr.trans y2) (OW.out w2 y3)))
          clear y1 y2 y3
          go_wp2
          go_roundg (s.size - (k + 1))
          case measure => rw [A.out.1]; omega
          case rel => exact ⟨k + 1, rfl, by omega, int_i64 (by omega), FF.out.1, FF.out.2.1, FF.out.2.2⟩
        · have h32' : 32 ≤ (c.toNat : Int) := by omega
          have hcb : cB c = [c] := by
            have hn : ∀ d : UInt8, d.toNat < 32 → c ≠ d := by rintro d hd rfl; omega
            unfold cB
            rw [if_neg NQ.out, if_neg (hn 8 (by decide)), if_neg (hn 12 (by decide)), if_neg (hn 10 (by decide)), if_neg (hn 13 (by decide)), if_neg (hn 9 (by decide)), if_neg (by rw [UInt8.lt_iff_toNat_lt]; show ¬ c.toNat < 32; omega)]
          have CB := hide hcb
          clear hcb h32
          go_wp2_with (at_builtin; refine wpList_append_own _ rfl (.tmp 17) (.tmp 19) 95 rfl B 5 i0 (.int .u8 0) 1 1 Tryz.underlying95 hi hz0 hz1 hz2 rfl (by decide) _ _ _ rfl (World.ownsRow.alloc hrow _) ⟨wr.heap.size, 0, none⟩ 1 1 (Lib.byteCells [c]) rfl rfl (by exact cells_new wr _ _) (bytes_one _) (by unfold maxLen; omega) (by omega) (by simp; omega) ?_; intro v2 w2 y1 y2 _)
          have FF := hide (And.intro (show Row B w2 v2 (o ++ 34 :: (s.data.toList.take (k + 1)).flatMap cB) by rw [← ST.out, CB.out]; exact (app_bytes (l := [c]) hwr hBr hrow y1 y2).1) (And.intro (app_bytes (l := [c]) hwr hBr hrow y1 y2).2 (OW.out w2 (((Kp.refl _ _).alloc _).grown y2 (fun k hk _ => hk)))))
          clear y1 y2
          go_wp2
          go_roundg (s.size - (k + 1))
          case measure => rw [A.out.1]; omega
          case rel => exact ⟨k + 1, rfl, by omega, int_i64 (by omega), FF.out.1, FF.out.2.1, FF.out.2.2⟩
    · have hlt' : decide ((k : Int) < (s.size : Int)) = false := by simp; omega
      clear hbb
      go_wp2_with (at_builtin; refine wpList_append_own _ rfl (.tmp 39) (.tmp 40) 95 rfl B 5 i0 (.int .u8 0) 1 1 Tryz.underlying95 hi hz0 hz1 hz2 rfl (by decide) _ _ _ rfl (World.ownsRow.alloc hrow _) ⟨wr.heap.size, 0, none⟩ 1 1 (Lib.byteCells [34]) rfl rfl (by exact cells_new wr _ _) (bytes_one _) (by unfold maxLen; omega) (by omega) (by simp; omega) ?_; intro v2 w2 y1 y2 _)
      have FF := hide (app_bytes (l := [34]) hwr hBr hrow y1 y2)
      clear y1 y2
      go_wp2
      go_ret
      refine ⟨_, rfl, ?_, FF.out.2⟩
      have e1 : s.data.toList.take k = s.data.toList := List.take_of_length_le (by simp; omega)
      have e2 := A.out.2.1
      rw [e1] at e2
      have e3 : o ++ cStr s.data.toList = o1 ++ [34] := by rw [← e2]; simp [cStr]
      rw [e3]
      exact FF.out.1
end Go.Proofs.YtocligpfmfmihabGreatDoor
namespace Go.Proofs.YtocligpfmfmihabGreatDoor
open Go Go.RowKit Go.Maps

theorem mk_size2 (o : Bs) : (⟨o.toArray⟩ : ByteArray).size = o.length := by
  show o.toArray.size = o.length
  simp
end Go.Proofs.YtocligpfmfmihabGreatDoor
namespace Go.Proofs.YtocligpfmfmihabGreatDoor
open Go Go.RowKit Go.Maps

theorem one_str (c : UInt8) (o : Bs) : (⟨#[c]⟩ : ByteArray) ++ ⟨o.toArray⟩ = ⟨(c :: o).toArray⟩ := by
  apply ByteArray.ext
  simp
theorem conv_one (w : World) (y : Int) (c : UInt8) (h : y = (c.toNat : Int)) : (convert 95 9 (.slice (some ⟨w.heap.size, 0, none⟩) 1 1)).run Tryz.prog (w.alloc (.cells #[.int .u8 y] 5)) = .ok (.string ⟨#[c]⟩) (w.alloc (.cells #[.int .u8 y] 5)) := by
  subst h
  have hr : (w.alloc (.cells #[.int .u8 (c.toNat : Int)] 5)).ownsRow 0 5 1 (.slice (some ⟨w.heap.size, 0, none⟩) 1 1) 1 (Lib.byteCells [c]) :=
    ⟨rfl, .inr ⟨w.heap.size, 1, _, rfl, Nat.zero_le _, heap_alloc_new w _, Nat.le_refl _, by decide, rfl, rfl⟩⟩
  exact own_string hr

end Go.Proofs.YtocligpfmfmihabGreatDoor
namespace Go.Proofs.YtocligpfmfmihabGreatDoor
open Go Go.RowKit Go.Maps

/-! the places of the keys, in order -/
def insIx (ks : List Bs) (i : Nat) (l : List Nat) : List Nat := l.takeWhile (fun j => decide (ks.getD j [] < ks.getD i [])) ++ i :: l.dropWhile (fun j => decide (ks.getD j [] < ks.getD i []))
def ordIx (ks : List Bs) : Nat → List Nat
  | 0 => []
  | n + 1 => insIx ks n (ordIx ks n)
theorem insIx_len (ks : List Bs) (i : Nat) (l : List Nat) : (insIx ks i l).length = l.length + 1 := by
  have := congrArg List.length (List.takeWhile_append_dropWhile (p := fun j => decide (ks.getD j [] < ks.getD i [])) (l := l))
  rw [List.length_append] at this
  simp only [insIx, List.length_append, List.length_cons]
  omega
theorem ordIx_len (ks : List Bs) (n : Nat) : (ordIx ks n).length = n := by
  induction n with
  | zero => rfl
  | succ n ih => rw [ordIx, insIx_len, ih]
theorem insK_split {α : Type} (k : Bs) (v : α) : ∀ (l : List (Bs × α)), Srt l → lookK k l = none → insK k v l = l.takeWhile (fun p => decide (p.1 < k)) ++ (k, v) :: l.dropWhile (fun p => decide (p.1 < k))
  | [], _, _ => rfl
  | (a, x) :: l, hs, hn => by
    obtain ⟨h1, h2⟩ := List.pairwise_cons.1 hs
    have hne : a ≠ k := by
      intro e
      simp [lookK, e] at hn
    have hn' : lookK k l = none := by simpa [lookK, hne] using hn
    unfold insK
    by_cases hlt : k < a
    · rw [if_pos hlt]
      have : ¬ a < k := fun h => lt_irr _ (lt_tr h hlt)
      simp [this]
    · rw [if_neg hlt, if_neg hne]
      have : a < k := by
        rcases lt_tot a k with h | h | h
        · exact h
        · exact absurd h hne
        · exact absurd h hlt
      simp only [List.takeWhile_cons, List.dropWhile_cons, this, decide_true, if_true, List.cons_append]
      rw [insK_split k v l h2 hn']
theorem ordIx_ofL {α : Type} (x : List (Bs × α)) (hx : Nod x) : ∀ n, n ≤ x.length → (ordIx (x.map (·.1)) n).map (fun j => x[j]?) = (ofL (x.take n)).map some := by
  intro n
  induction n with
  | zero => intro _; rfl
  | succ n ih =>
    intro hn
    have ih := ih (by omega)
    have hlt : n < x.length := by omega
    have htk : x.take (n + 1) = x.take n ++ [x[n]] := by rw [List.take_succ_eq_append_getElem hlt]
    have hnod : Nod (x.take (n + 1)) := by
      unfold Nod at *
      rw [List.map_take]
      exact (List.take_sublist _ _).nodup hx
    rw [htk] at hnod ⊢
    obtain ⟨hn1, hn2⟩ := (nod_snoc (x.take n) x[n].1 x[n].2).1 hnod
    have hlk : lookK x[n].1 (ofL (x.take n)) = none := by rw [lookK_ofL _ _ hn1]; exact hn2
    rw [show x.take n ++ [x[n]] = x.take n ++ [(x[n].1, x[n].2)] from rfl, ofL_snoc, insK_split _ _ _ (srt_ofL _) hlk, ordIx, insIx]
    generalize hL : ofL (x.take n) = L at *
    generalize hI : ordIx (x.map (·.1)) n = I at *
    have hgn : (x.map (·.1)).getD n [] = x[n].1 := by
      rw [List.getD, List.getElem?_map, List.getElem?_eq_getElem hlt]; rfl
    rw [hgn]
    have key : ∀ (I : List Nat) (L : List (Bs × α)), I.map (fun j => x[j]?) = L.map some → (I.takeWhile (fun j => decide ((x.map (·.1)).getD j [] < x[n].1))).map (fun j => x[j]?) = (L.takeWhile (fun p => decide (p.1 < x[n].1))).map some ∧ (I.dropWhile (fun j => decide ((x.map (·.1)).getD j [] < x[n].1))).map (fun j => x[j]?) = (L.dropWhile (fun p => decide (p.1 < x[n].1))).map some := by
      intro I
      induction I with
      | nil =>
        intro L h
        cases L with
        | nil => exact ⟨rfl, rfl⟩
        | cons a L => simp at h
      | cons i I ihI =>
        intro L h
        cases L with
        | nil => simp at h
        | cons a L =>
          simp only [List.map_cons, List.cons.injEq] at h
          obtain ⟨h1, h2⟩ := h
          have hgi : (x.map (·.1)).getD i [] = a.1 := by
            rw [List.getD, List.getElem?_map, h1]; rfl
          obtain ⟨q1, q2⟩ := ihI L h2
          simp only [List.takeWhile_cons, List.dropWhile_cons, hgi]
          by_cases hp : a.1 < x[n].1
          · simp only [hp, decide_true, if_true, List.map_cons, h1, q1, q2, and_self]
          · simp only [hp, decide_false, Bool.false_eq_true, if_false, List.map_cons, List.map_nil, h1, h2, and_self]
    obtain ⟨q1, q2⟩ := key I L ih
    rw [List.map_append, List.map_cons, List.map_append, List.map_cons, q1, q2, List.getElem?_eq_getElem hlt]
end Go.Proofs.YtocligpfmfmihabGreatDoor
namespace Go.Proofs.YtocligpfmfmihabGreatDoor
open Go Go.RowKit Go.Maps

theorem wpList_append_any {P : Program} (w : World) {ops : Array Oper} {rest : List Oper} {o : Oper} {a : Act} {Q : Exit → Act → World → Prop} (hgd : o.guard = none) (s x : Operand) (t : TypeId)
    (ho : o.op = .call { callee := .builtin .append, args := #[s, x], argTypes := #[t, t] })
    (base : Nat) (e : TypeId) (i : TypeInfo) (z : Value) (size bytes : Nat) (ht : P.underlying t = some (.slice e)) (hi : P.info? e = some i) (hz : i.zero = some z)
    (hsize : i.size = size) (hby : i.bytes = bytes) (hzs : z.cells.size = size) (hsz : 0 < size)
    (v : Value) (n : Nat) (xs : List Value) (hs : a.eval s = v) (hown : w.ownsRow base e size v n xs)
    (ao : Option Addr) (m c : Nat) (news : List Value) (hx : a.eval x = .slice ao m c) (hl : news.length = m * size) (hnone : ao = none → m = 0 ∧ c = 0) (hnews : ∀ ad, ao = some ad → ∀ j u, news[j]? = some u → w.cell? (ad.add j) = some u) (h1 : ∀ u ∈ news, u.oneCell' = true)
    (h63 : n + m ≤ maxLen) (hbytes : (n + m) * bytes ≤ 140737488355328) (hbase : base ≤ w.heap.size)
    (h : ∀ v' w', w'.ownsRow base e size v' (n + m) (xs ++ news) → w.grownBy w' v.ownBlock → (v'.ownBlock = v.ownBlock ∨ v'.ownBlock = some w.heap.size) → wpList P ops Q rest (a.put o.dst v') w') :
    wpList P ops Q (o :: rest) a w := by
  cases ao with
  | some ad => exact wpList_append_own_at w hgd s x t ho base e i z size bytes ht hi hz hsize hby hzs hsz v n xs hs hown ad m c news hx hl (hnews ad rfl) h1 h63 hbytes hbase fun v' w' a b _ c => h v' w' a b c
  | none =>
    obtain ⟨rfl, rfl⟩ := hnone rfl
    have hn : news = [] := List.eq_nil_of_length_eq_zero (by simpa using hl)
    subst hn
    refine wpList_plain hgd fun K hK' => ?_
    have hrun := run_append_owned_none (P := P) w base t o.type e i size ht hi v n xs hown
    unfold Oper.wp
    simp [execOp, ho, resolve, invoke, builtin, hs, hx, hrun, Result.andThen]
    exact hK' _ _ (by simpa using h v w (by simpa using hown) (World.grownBy.refl _ _) (Or.inl rfl))
end Go.Proofs.YtocligpfmfmihabGreatDoor
namespace Go.Proofs.YtocligpfmfmihabGreatDoor
open Go Go.RowKit Go.Maps

theorem vkp {w w' : World} {b kind : Nat} {n : Int} {t : Bs} {K L : Value} (h : w.heap[b]? = some (vCells kind n t K L)) (hk : Kp (fun _ => False) w w') : w'.heap[b]? = some (vCells kind n t K L) := (hk.block b (lt_heap h) (by simp)).trans h
theorem joinC_le (l : List Bs) : ∀ n, (joinC (l.take n)).length ≤ (joinC l).length ∧ ∀ x ∈ l, x.length ≤ (joinC l).length := by
  intro n
  constructor
  · induction l generalizing n with
    | nil => simp
    | cons a l ih =>
      cases n with
      | zero => simp [joinC]
      | succ n =>
        cases l with
        | nil => simp [joinC]
        | cons b l =>
          cases n with
          | zero => simp [joinC]
          | succ n =>
            have := ih (n + 1)
            simp only [List.take_succ_cons, joinC, List.length_append, List.length_cons] at this ⊢
            omega
  · induction l with
    | nil => intro x hx; cases hx
    | cons a l ih =>
      intro x hx
      cases l with
      | nil =>
        simp at hx
        subst hx
        simp [joinC]
      | cons b l =>
        rcases List.mem_cons.1 hx with rfl | hx
        · simp [joinC]
        · have := ih x hx
          simp only [joinC, List.length_append, List.length_cons] at this ⊢
          omega

end Go.Proofs.YtocligpfmfmihabGreatDoor
namespace Go.Proofs.YtocligpfmfmihabGreatDoor
open Go Go.RowKit Go.Maps

theorem cStr_geq (t : Bs) : t.length ≤ (cStr t).length := by
  unfold cStr
  have : t.length ≤ (t.flatMap cB).length := by
    induction t with
    | nil => simp
    | cons c t ih =>
      have : 1 ≤ (cB c).length := by
        unfold cB
        repeat' split
        all_goals simp
      simp only [List.flatMap_cons, List.length_append, List.length_cons]
      omega
  simp only [List.length_cons, List.length_append, List.length_nil]
  omega
end Go.Proofs.YtocligpfmfmihabGreatDoor

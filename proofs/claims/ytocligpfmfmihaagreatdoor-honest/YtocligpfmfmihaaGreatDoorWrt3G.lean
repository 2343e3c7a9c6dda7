import Derived.Test.YtocligpfmfmihaaGreatDoorRef9G
import Derived.Lib.ItoaNum
import Derived.Shelf.SlIter.Nil
import Derived.Shelf.SortM.Plain
import Derived.Shelf.SortM.SortNone
import Derived.Test.YtocligpfmfmihaaGreatDoorProg
import Derived.RangeFuncNested
import Derived.RangeFuncBound
import Derived.RangeFuncCalls
import Derived.RangeFuncLeaves
import Derived.RangeFuncFrom
import Derived.Shelf.Abstract
import Derived.Shelf.RegionOpen
import Derived.OwnWalkIn
import Derived.TacticsInMore
import Derived.LoopNIn
import Derived.LoopIn
import Derived.Maps.OwnIn
namespace Go.Proofs.YtocligpfmfmihaaGreatDoor
open Go Go.RowKit Go.Maps Go.WideMaps
mutual
def cnt : J → Nat
 | .null => 0
 | .bool _ => 0
 | .num _ => 0
 | .str _ => 0
 | .arr l => cnts l
 | .obj l => cntm l
def cnts : List J → Nat
 | [] => 0
 | x :: l => 1 + cnt x + cnts l
def cntm : List (Bs × J) → Nat
 | [] => 0
 | (_, x) :: l => 1 + cnt x + cntm l
end
theorem cnts_ge : ∀ (l : List J), l.length ≤ cnts l ∧ ∀ x ∈ l, l.length + cnt x ≤ cnts l
 | [] => by simp [cnts]
 | y :: l => by
  obtain ⟨h1, h2⟩ := cnts_ge l
  rw [cnts]
  refine ⟨by rw [List.length_cons]; omega, fun x hx => ?_⟩
  rw [List.length_cons]
  rcases List.mem_cons.1 hx with rfl | hx
  ·omega
  ·have := h2 x hx; omega
theorem cntm_ge : ∀ (l : List (Bs × J)), l.length ≤ cntm l ∧ ∀ p ∈ l, l.length + cnt p.2 ≤ cntm l
 | [] => by simp [cntm]
 | (k, y) :: l => by
  obtain ⟨h1, h2⟩ := cntm_ge l
  rw [cntm]
  refine ⟨by rw [List.length_cons]; omega, fun x hx => ?_⟩
  rw [List.length_cons]
  rcases List.mem_cons.1 hx with rfl | hx
  ·show _ + cnt y ≤ _; omega
  ·have := h2 x hx; omega
theorem joinC_take (l : List Bs) (M : Nat) (h : ∀ x ∈ l, x.length ≤ M) : (joinC l).length ≤ l.length * (M + 1) := by
 induction l with
 | nil => simp [joinC]
 | cons x l ih =>
  cases l with
  | nil => simp only [joinC, List.length_cons, List.length_nil]; have := h x (by simp); omega
  | cons y l =>
   have h1 := ih (fun z hz => h z (by simp [List.mem_cons.1 hz]))
   have h2 := h x (by simp)
   rw [joinC, List.length_append, List.length_cons, List.length_cons (a := x)]
   have : (y :: l).length * (M + 1) + (M + 1) = ((y :: l).length + 1) * (M + 1) := by rw [Nat.add_mul]; omega
   omega
def AppC (W : World) (j : J) : Prop := ∀ (B : Nat) (w : World) (v : Value) (o : List UInt8) (F : Nat → Prop) (vv : Value) (M : Nat), Below W.heap.size W w → W.heap.size ≤ B → Row B w v o → B ≤ w.heap.size → Rep w F j vv → (cJ j).length ≤ M →
 o.length + (cnt j + 1) * (M + 2) ≤ 139000000000000 → Calls Tryz.prog 68 #[v, vv] w fun e w' => WrR B w (o ++ cJ j) e w'
theorem Reps.get {w : World} {F : Nat → Prop} : ∀ (l : List J) (vs : List Value) (k : Nat) (hk : k < l.length), Reps w F l vs → ∃ v, vs[k]? = some v ∧ Rep w F l[k] v
 | x :: l, vs, 0, _, h => by
  rw [Reps] at h
  obtain ⟨v, r, rfl, h1, _⟩ := h
  exact ⟨v, rfl, h1⟩
 | x :: l, vs, k + 1, hk, h => by
  rw [Reps] at h
  obtain ⟨v, r, rfl, _, h2⟩ := h
  obtain ⟨u, h3, h4⟩ := Reps.get l r k (by simpa using hk) h2
  exact ⟨u, h3, h4⟩
theorem Reps.len {w : World} {F : Nat → Prop} : ∀ (l : List J) (vs : List Value), Reps w F l vs → vs.length = l.length
 | [], vs, h => by rw [Reps] at h; subst h; rfl
 | x :: l, vs, h => by
  rw [Reps] at h
  obtain ⟨v, r, rfl, _, h2⟩ := h
  simp [Reps.len l r h2]
set_option maxRecDepth 20000 in
set_option maxHeartbeats 1000000 in
theorem appendArray_c (W : World) (l : List J) (hl : ∀ x ∈ l, AppC W x) (B : Nat) (w : World) (v : Value) (o : List UInt8) (F : Nat → Prop) (sv : Value) (vs : List Value) (M : Nat) (hW : Below W.heap.size W w) (hWB : W.heap.size ≤ B) (hr : Row B w v o) (hB : B ≤ w.heap.size)
  (hsv : w.ownsRow 0 59 1 sv l.length vs) (hvs : Reps w F l vs) (hM : ∀ x ∈ l, (cJ x).length ≤ M) (hlim : o.length + (cnts l + 1) * (M + 2) ≤ 139000000000000) :
  Calls Tryz.prog 121 #[v, sv] w fun e w' => WrR B w (o ++ cJ (.arr l)) e w' := by
 obtain ⟨i0, hi, hz0, hz1, hz2⟩ := info_parts info8
 have hcl := cnts_ge l
 have hmul : l.length * (M + 2) ≤ (cnts l) * (M + 2) := Nat.mul_le_mul_right _ hcl.1
 have hmul2 : (cnts l + 1) * (M + 2) = cnts l * (M + 2) + (M + 2) := by rw [Nat.add_mul]; omega
 obtain ⟨sa, cap, rfl⟩ : ∃ sa cap, sv = .slice sa l.length cap := by
  obtain ⟨_, ⟨rfl, h⟩ | ⟨g, cap, cur, rfl, _⟩⟩ := hsv
  ·exact ⟨none, 0, by rw [h]⟩
  ·exact ⟨_, _, rfl⟩
 have HL := hide hl
 clear hl
 go_enter Tryz.func121, Tryz.ntmps121
 go_wp2_with (at_builtin; refine wpList_append_own _ rfl (.tmp 7) (.tmp 8) 124 rfl B 5 i0 (.int .u8 0) 1 1 Tryz.underlying124 hi hz0 hz1 hz2 rfl (by decide) _ _ _ rfl (World.ownsRow.alloc hr _) ⟨w.heap.size, 0, none⟩ 1 1 (Lib.byteCells [91]) rfl rfl (by exact cells_new w _ _) (bytes_one _) (by unfold maxLen; omega) (by omega) (by simp; omega) ?_; intro v1 w1 y1 y2 _)
 obtain ⟨z1, z2⟩ := app_bytes (l := [91]) (Wr.refl B w) hB hr y1 y2
 clear y1 y2
 go_wp2_with fail
 go_loopg [0, 12] l.length (fun g a i wr => ∃ k : Nat, g = l.length - k ∧ k ≤ l.length ∧ i = .int .i64 (k : Int) ∧ Row B wr a (o ++ 91 :: joinC ((l.take k).map cJ)) ∧ Wr B w wr)
 case atStart => exact ⟨0, rfl, by omega, rfl, by simpa [joinC] using z1, z2⟩
 case round =>
  obtain ⟨k, hg, hk, rfl, hrow, hwr⟩ := hrel
  have hlen : (o ++ 91 :: joinC ((l.take k).map cJ)).length ≤ o.length + 1 + k * (M + 1) := by
   have h1 := joinC_take ((l.take k).map cJ) M (by
     intro x hx
     obtain ⟨y, hy, rfl⟩ := List.mem_map.1 hx
     exact hM y (List.mem_of_mem_take hy))
   have h2 : ((l.take k).map cJ).length ≤ k := by rw [List.length_map]; exact List.length_take_le _ _
   have h3 := Nat.mul_le_mul_right (M + 1) h2
   rw [List.length_append, List.length_cons]
   omega
  have hkm : k * (M + 1) + k = k * (M + 2) := by rw [Nat.mul_add, Nat.mul_add]; omega
  have hkm2 : k * (M + 2) ≤ l.length * (M + 2) := Nat.mul_le_mul_right _ hk
  generalize ho1 : o ++ 91 :: joinC ((l.take k).map cJ) = o1 at *
  have A := hide (And.intro hg ho1)
  have hBr : B ≤ wr.heap.size := Nat.le_trans hB hwr.below.size
  clear hg ho1 z1 z2
  by_cases hlt : k < l.length
  ·obtain ⟨vx, hvx1, hvx2⟩ := Reps.get l vs k hlt hvs
   have hcell : ∃ g, sa = some ⟨g, 0, none⟩ ∧ wr.cell? ⟨g, k, none⟩ = some vx ∧ l.length ≤ cap := by
    obtain ⟨_, ⟨h1, h2⟩ | ⟨g, cap', cur, h1, _, hh, r1, r2, r3, r4⟩⟩ := hsv
    ·omega
    ·injection h1 with h1 h2 h3
     refine ⟨g, h1, ?_, by omega⟩
     have e1 := hwr.oth g _ hh (by simp) (by intro c fz; simp)
     have e2 : cur[k]? = some vx := by
      have : (cur.toList.take (l.length * 1))[k]? = some vx := by rw [r4]; exact hvx1
      rw [List.getElem?_take_of_lt (by omega)] at this
      simpa using this
     simp [World.cell?, e1, e2]
   obtain ⟨g, rfl, hcell, hcap⟩ := hcell
   obtain ⟨tt, u, rfl⟩ := Rep.iface hvx2
   have hstep : joinC ((l.take (k + 1)).map cJ) = if k = 0 then cJ l[k] else joinC ((l.take k).map cJ) ++ 44 :: cJ l[k] := by
    rw [List.take_succ_eq_append_getElem hlt, List.map_append, List.map_cons, List.map_nil, joinC_snoc]
    by_cases h0 : k = 0
    ·subst h0; simp
    ·have : (l.take k).map cJ ≠ [] := by
      intro e
      have := congrArg List.length e
      rw [List.length_map, List.length_take, List.length_nil] at this
      omega
     rw [if_neg this, if_neg h0]
   have hx := hcl.2 l[k] (List.getElem_mem hlt)
   have hx2 : (l.length + cnt l[k]) * (M + 2) ≤ cnts l * (M + 2) := Nat.mul_le_mul_right _ hx
   have hx3 : (l.length + cnt l[k]) * (M + 2) = l.length * (M + 2) + cnt l[k] * (M + 2) := Nat.add_mul _ _ _
   have hx4 : (cnt l[k] + 1) * (M + 2) = cnt l[k] * (M + 2) + (M + 2) := by rw [Nat.add_mul]; omega
   have hx5 : (k + 1) * (M + 2) ≤ l.length * (M + 2) := Nat.mul_le_mul_right _ hlt
   have hx6 : (k + 1) * (M + 2) = k * (M + 2) + (M + 2) := by rw [Nat.add_mul]; omega
   have hc1 := HL.out l[k] (List.getElem_mem hlt)
   have hc2 := hM l[k] (List.getElem_mem hlt)
   generalize hlk : l[k] = x at *
   have X := hide (And.intro hstep (And.intro hvx2 hc1))
   clear hstep hvx2 hc1 hlk hx hvx1
   by_cases h0 : k = 0
   ·have e0 : o ++ 91 :: joinC ((l.take (k + 1)).map cJ) = o1 ++ cJ x := by
     rw [X.out.1, if_pos h0, ← A.out.2, h0]
     simp [joinC]
    have E0 := hide e0
    clear e0
    subst h0
    go_wp2_with fail
    refine (X.out.2.2 B wr u0 o1 F (.iface tt u) M (hW.trans (hwr.below.mono hWB)) hWB hrow hBr (Rep.oth hwr.oth x X.out.2.1) hc2 (by omega)).mono ?_
    rintro e w3 ⟨v3, rfl, q1, q2⟩
    go_wp2
    go_roundg (l.length - (0 + 1))
    case measure => rw [A.out.1]; omega
    case rel => exact ⟨0 + 1, rfl, by omega, int_i64 (by omega), by rw [E0.out]; exact q1, hwr.trans q2⟩
   ·have e0 : o ++ 91 :: joinC ((l.take (k + 1)).map cJ) = o1 ++ [44] ++ cJ x := by
     rw [X.out.1, if_neg h0, ← A.out.2]
     simp
    have E0 := hide e0
    have hpos : 0 < k := by omega
    clear e0 h0
    go_wp2_with (at_builtin; refine wpList_append_own _ rfl (.tmp 19) (.tmp 20) 124 rfl B 5 i0 (.int .u8 0) 1 1 Tryz.underlying124 hi hz0 hz1 hz2 rfl (by decide) _ _ _ rfl (World.ownsRow.alloc hrow _) ⟨wr.heap.size, 0, none⟩ 1 1 (Lib.byteCells [44]) rfl rfl (by exact cells_new wr _ _) (bytes_one _) (by unfold maxLen; omega) (by omega) (by simp; omega) ?_; intro v2 w2 y1 y2 _)
    obtain ⟨z1, z2⟩ := app_bytes (l := [44]) hwr hBr hrow y1 y2
    clear y1 y2
    have hB2 : B ≤ w2.heap.size := Nat.le_trans hB z2.below.size
    have hl2 : (o1 ++ [44]).length = o1.length + 1 := by simp
    go_wp2_with fail
    refine (X.out.2.2 B w2 v2 (o1 ++ [44]) F (.iface tt u) M (hW.trans (z2.below.mono hWB)) hWB z1 hB2 (Rep.oth z2.oth x X.out.2.1) hc2 (by omega)).mono ?_
    rintro e w3 ⟨v3, rfl, q1, q2⟩
    go_wp2
    go_roundg (l.length - (k + 1))
    case measure => rw [A.out.1]; omega
    case rel => exact ⟨k + 1, rfl, by omega, int_i64 (by omega), by rw [E0.out]; exact q1, z2.trans q2⟩
  ·have hnlt : l.length ≤ k := by omega
   clear hsv
   go_wp2_with (at_builtin; refine wpList_append_own _ rfl (.tmp 26) (.tmp 27) 124 rfl B 5 i0 (.int .u8 0) 1 1 Tryz.underlying124 hi hz0 hz1 hz2 rfl (by decide) _ _ _ rfl (World.ownsRow.alloc hrow _) ⟨wr.heap.size, 0, none⟩ 1 1 (Lib.byteCells [93]) rfl rfl (by exact cells_new wr _ _) (bytes_one _) (by unfold maxLen; omega) (by omega) (by simp; omega) ?_; intro v2 w2 y1 y2 _)
   obtain ⟨z1, z2⟩ := app_bytes (l := [93]) hwr hBr hrow y1 y2
   have Z := hide (And.intro z1 z2)
   clear y1 y2 z1 z2
   go_wp2
   go_ret
   refine ⟨_, rfl, ?_, Z.out.2⟩
   have e1 : l.take k = l := List.take_of_length_le hnlt
   have e2 := A.out.2
   rw [e1] at e2
   have e3 : o ++ cJ (.arr l) = o1 ++ [93] := by rw [cJ_arr, ← e2]; simp
   rw [e3]
   exact Z.out.1
end Go.Proofs.YtocligpfmfmihaaGreatDoor
namespace Go.Proofs.YtocligpfmfmihaaGreatDoor
open Go Go.RowKit Go.Maps Go.WideMaps
theorem ta00 (w : World) : (Instr.typeAssert (.iface 221 (.agg #[])) 59 221 true).run Tryz.prog w = .ok (.tuple #[.agg #[], .bool true]) w := by kernel_rfl
theorem ta10 (b : Bool) (w : World) : (Instr.typeAssert (.iface 222 (.bool b)) 59 221 true).run Tryz.prog w = .ok (.tuple #[.agg #[], .bool false]) w := by kernel_rfl
theorem ta11 (b : Bool) (w : World) : (Instr.typeAssert (.iface 222 (.bool b)) 59 222 true).run Tryz.prog w = .ok (.tuple #[.bool b, .bool true]) w := by kernel_rfl
theorem ta20 (n : Int) (w : World) : (Instr.typeAssert (.iface 224 (.int .i64 n)) 59 221 true).run Tryz.prog w = .ok (.tuple #[.agg #[], .bool false]) w := by kernel_rfl
theorem ta21 (n : Int) (w : World) : (Instr.typeAssert (.iface 224 (.int .i64 n)) 59 222 true).run Tryz.prog w = .ok (.tuple #[.bool false, .bool false]) w := by kernel_rfl
theorem ta22 (n : Int) (w : World) : (Instr.typeAssert (.iface 224 (.int .i64 n)) 59 224 true).run Tryz.prog w = .ok (.tuple #[.int .i64 n, .bool true]) w := by kernel_rfl
theorem ta30 (s : ByteArray) (w : World) : (Instr.typeAssert (.iface 137 (.string s)) 59 221 true).run Tryz.prog w = .ok (.tuple #[.agg #[], .bool false]) w := by kernel_rfl
theorem ta31 (s : ByteArray) (w : World) : (Instr.typeAssert (.iface 137 (.string s)) 59 222 true).run Tryz.prog w = .ok (.tuple #[.bool false, .bool false]) w := by kernel_rfl
theorem ta32 (s : ByteArray) (w : World) : (Instr.typeAssert (.iface 137 (.string s)) 59 224 true).run Tryz.prog w = .ok (.tuple #[.int .i64 0, .bool false]) w := by kernel_rfl
theorem ta33 (s : ByteArray) (w : World) : (Instr.typeAssert (.iface 137 (.string s)) 59 137 true).run Tryz.prog w = .ok (.tuple #[.string s, .bool true]) w := by kernel_rfl
theorem ta40 (sv : Value) (w : World) : (Instr.typeAssert (.iface 228 (sv)) 59 221 true).run Tryz.prog w = .ok (.tuple #[.agg #[], .bool false]) w := by kernel_rfl
theorem ta41 (sv : Value) (w : World) : (Instr.typeAssert (.iface 228 (sv)) 59 222 true).run Tryz.prog w = .ok (.tuple #[.bool false, .bool false]) w := by kernel_rfl
theorem ta42 (sv : Value) (w : World) : (Instr.typeAssert (.iface 228 (sv)) 59 224 true).run Tryz.prog w = .ok (.tuple #[.int .i64 0, .bool false]) w := by kernel_rfl
theorem ta43 (sv : Value) (w : World) : (Instr.typeAssert (.iface 228 (sv)) 59 137 true).run Tryz.prog w = .ok (.tuple #[.string ⟨#[]⟩, .bool false]) w := by kernel_rfl
theorem ta44 (sv : Value) (w : World) : (Instr.typeAssert (.iface 228 (sv)) 59 228 true).run Tryz.prog w = .ok (.tuple #[sv, .bool true]) w := by kernel_rfl
theorem ta50 (mb : Option Nat) (w : World) : (Instr.typeAssert (.iface 71 (.map mb)) 59 221 true).run Tryz.prog w = .ok (.tuple #[.agg #[], .bool false]) w := by kernel_rfl
theorem ta51 (mb : Option Nat) (w : World) : (Instr.typeAssert (.iface 71 (.map mb)) 59 222 true).run Tryz.prog w = .ok (.tuple #[.bool false, .bool false]) w := by kernel_rfl
theorem ta52 (mb : Option Nat) (w : World) : (Instr.typeAssert (.iface 71 (.map mb)) 59 224 true).run Tryz.prog w = .ok (.tuple #[.int .i64 0, .bool false]) w := by kernel_rfl
theorem ta53 (mb : Option Nat) (w : World) : (Instr.typeAssert (.iface 71 (.map mb)) 59 137 true).run Tryz.prog w = .ok (.tuple #[.string ⟨#[]⟩, .bool false]) w := by kernel_rfl
theorem ta54 (mb : Option Nat) (w : World) : (Instr.typeAssert (.iface 71 (.map mb)) 59 228 true).run Tryz.prog w = .ok (.tuple #[.slice none 0 0, .bool false]) w := by kernel_rfl
theorem ta55 (mb : Option Nat) (w : World) : (Instr.typeAssert (.iface 71 (.map mb)) 59 71 true).run Tryz.prog w = .ok (.tuple #[.map mb, .bool true]) w := by kernel_rfl
theorem itoa_c (n : Int) : Lib.itoa n = cNum n := by
 have h : ∀ k u : Nat, u ≤ k → Lib.decDigits u = decN u := by
  intro k
  induction k with
  | zero =>
   intro u hu
   obtain rfl : u = 0 := by omega
   rw [Lib.decDigits, decN]; simp
  | succ k ih =>
   intro u hu
   rw [Lib.decDigits, decN]
   by_cases h10 : u < 10
   ·rw [dif_pos h10, if_pos h10]
   ·rw [dif_neg h10, if_neg h10, ih (u / 10) (by omega)]
 unfold Lib.itoa cNum
 by_cases hn : n < 0
 ·rw [if_pos hn, if_pos hn, h _ _ (Nat.le_refl _)]
 ·rw [if_neg hn, if_neg hn, h _ _ (Nat.le_refl _)]
  congr 1
  omega
def ObjC (W : World) (l : List (Bs × J)) : Prop := ∀ (B : Nat) (w : World) (v : Value) (o : List UInt8) (F : Nat → Prop) (b : Nat) (m : List (Bs × Value)) (M : Nat), Below W.heap.size W w → W.heap.size ≤ B → Row B w v o → B ≤ w.heap.size →
 w.ownsMap Tryz.prog 9 Rv b m.length (dm m) → Repm w F l m → (∀ p ∈ l, (cMem p).length ≤ M) → o.length + (cntm l + 1) * (M + 2) ≤ 139000000000000 →
 Calls Tryz.prog 122 #[v, .map (some b)] w fun e w' => WrR B w (o ++ cJ (.obj l)) e w'
theorem joinC_mem {x : Bs} : ∀ (l : List Bs), x ∈ l → x.length ≤ (joinC l).length
 | [y], h => by
  obtain rfl : x = y := by simpa using h
  exact Nat.le_refl _
 | y :: z :: l, h => by
  rw [joinC, List.length_append, List.length_cons]
  rcases List.mem_cons.1 h with rfl | h
  ·omega
  ·have := joinC_mem (z :: l) h; omega
theorem elem_len {l : List J} {x : J} (h : x ∈ l) : (cJ x).length ≤ (cJ (.arr l)).length := by
 rw [cJ_arr, List.length_cons, List.length_append]
 have := joinC_mem (l.map cJ) (List.mem_map.2 ⟨x, h, rfl⟩)
 omega
theorem mem_len {l : List (Bs × J)} {p : Bs × J} (h : p ∈ l) : (cMem p).length ≤ (cJ (.obj l)).length := by
 rw [cJ_obj, List.length_cons, List.length_append]
 have := joinC_mem (l.map cMem) (List.mem_map.2 ⟨p, h, rfl⟩)
 omega
theorem WFs_mem : ∀ (d : Nat) (l : List J) (x : J), WFs d l → x ∈ l → WF d x
 | d, y :: l, x, h, hx => by
  rw [WFs] at h
  rcases List.mem_cons.1 hx with rfl | hx
  ·exact h.1
  ·exact WFs_mem d l x h.2 hx
theorem WFm_mem' : ∀ (d : Nat) (l : List (Bs × J)) (p : Bs × J), WFm d l → p ∈ l → WF d p.2
 | d, (k, y) :: l, p, h, hx => by
  rw [WFm] at h
  rcases List.mem_cons.1 hx with rfl | hx
  ·exact h.2.1
  ·exact WFm_mem' d l p h.2.2 hx
set_option maxRecDepth 20000 in
theorem app_null (W : World) : AppC W .null := by
 intro B w v o F vv M hW hWB hr hB hrep hM hlim
 rw [Rep] at hrep
 subst hrep
 obtain ⟨i0, hi, hz0, hz1, hz2⟩ := info_parts info8
 have hl : o.length + 4 ≤ 139000000000000 := by
  have : (cJ J.null).length = 4 := rfl
  rw [cnt] at hlim
  omega
 have a0 := ta00
 go_enter Tryz.func68, Tryz.ntmps68
 go_wp2_with (at_builtin; refine Lib.wpList_append_own_string _ rfl _ _ 124 9 rfl B 5 i0 Tryz.underlying124 Tryz.underlying9 hi hz0 hz1 hz2 _ _ _ rfl (World.ownsRow.alloc hr _) ⟨#[110, 117, 108, 108]⟩ rfl (by unfold maxLen; show o.length + 4 ≤ _; omega) (by show o.length + 4 ≤ _; omega) (by simp; omega) ?_; intro v' w1 y1 y2 _)
 obtain ⟨z1, z2⟩ := app_str ((Wr.refl B w).alloc hB _) (by simp; omega) (World.ownsRow.alloc hr _) y1 y2
 have Z := hide (And.intro z1 z2)
 clear z1 z2 y1 y2
 go_wp2
 go_ret
 exact ⟨_, rfl, Z.out.1, Z.out.2⟩
set_option maxRecDepth 20000 in
theorem app_bool (W : World) (b : Bool) : AppC W (.bool b) := by
 intro B w v o F vv M hW hWB hr hB hrep hM hlim
 rw [Rep] at hrep
 subst hrep
 rw [cnt] at hlim
 have a0 := ta10 b
 have a1 := ta11 b
 go_enter Tryz.func68, Tryz.ntmps68
 go_wp2_with fail
 refine (appendBool_c B w v o b hr hB (by omega)).mono ?_
 rintro e w2 ⟨v', rfl, z1, z2⟩
 have Z := hide (And.intro z1 z2)
 clear z1 z2
 go_wp2
 go_ret
 exact ⟨_, rfl, Z.out.1, Z.out.2⟩
set_option maxRecDepth 20000 in
theorem app_num (W : World) (hG : GL W) (n : Int) (hn : n.natAbs ≤ maxNum) : AppC W (.num n) := by
 intro B w v o F vv M hW hWB hr hB hrep hM hlim
 rw [Rep] at hrep
 subst hrep
 have hn' : -9007199254740991 ≤ n ∧ n ≤ 9007199254740991 := by unfold maxNum at hn; omega
 obtain ⟨hn1, hn2⟩ := hn'
 rw [cnt] at hlim
 have htab : Lib.TabBelow Tryz.prog B w "internal/strconv.uint64pow10" .u64 Lib.pow10Tab := fun w' h' => hG.pow w' (hW.trans (h'.mono hWB))
 have a0 := ta20 n
 have a1 := ta21 n
 have a2 := ta22 n
 go_enter Tryz.func68, Tryz.ntmps68
 go_wp2_with fail
 refine (Tryz.strconv_AppendInt_10 B o.length n (by omega) (by omega) v (Lib.byteCells o) w hr hB (by omega) htab).mono ?_
 rintro e w2 ⟨v', rfl, z1, z2, z3⟩
 have Z : Hid (Row B w2 v' (o ++ cJ (.num n)) ∧ Wr B w w2) := by
  refine ⟨?_, z2, z3⟩
  unfold Row
  rw [cJ, ← itoa_c, byteCells_app, List.length_append]
  exact z1
 clear z1 z2 z3
 go_wp2
 go_ret
 exact ⟨_, rfl, Z.out.1, Z.out.2⟩
set_option maxRecDepth 20000 in
theorem app_strv (W : World) (s : Bs) : AppC W (.str s) := by
 intro B w v o F vv M hW hWB hr hB hrep hM hlim
 rw [Rep] at hrep
 subst hrep
 rw [cnt] at hlim
 have a0 := ta30 ⟨s.toArray⟩
 have a1 := ta31 ⟨s.toArray⟩
 have a2 := ta32 ⟨s.toArray⟩
 have a3 := ta33 ⟨s.toArray⟩
 go_enter Tryz.func68, Tryz.ntmps68
 go_wp2_with fail
 refine (appendString_c B w v o ⟨s.toArray⟩ hr hB (by rw [cJ] at hM; show o.length + (cStr s).length ≤ _; omega)).mono ?_
 rintro e w2 ⟨v', rfl, z1, z2⟩
 have Z : Hid (Row B w2 v' (o ++ cJ (.str s)) ∧ Wr B w w2) := And.intro (by rw [cJ]; exact z1) z2
 clear z1 z2
 go_wp2
 go_ret
 exact ⟨_, rfl, Z.out.1, Z.out.2⟩
set_option maxRecDepth 20000 in
theorem app_arr (W : World) (l : List J) (hl : ∀ x ∈ l, AppC W x) : AppC W (.arr l) := by
 intro B w v o F vv M hW hWB hr hB hrep hM hlim
 rw [Rep] at hrep
 obtain ⟨sv, vs, rfl, h1, h2, h3⟩ := hrep
 rw [cnt] at hlim
 have a0 := ta40 sv
 have a1 := ta41 sv
 have a2 := ta42 sv
 have a3 := ta43 sv
 have a4 := ta44 sv
 go_enter Tryz.func68, Tryz.ntmps68
 go_wp2_with fail
 refine (appendArray_c W l hl B w v o F sv vs M hW hWB hr hB h1 h3 (fun x hx => Nat.le_trans (elem_len hx) hM) hlim).mono ?_
 rintro e w2 ⟨v', rfl, z1, z2⟩
 have Z := hide (And.intro z1 z2)
 clear z1 z2
 go_wp2
 go_ret
 exact ⟨_, rfl, Z.out.1, Z.out.2⟩
set_option maxRecDepth 20000 in
theorem app_obj (W : World) (l : List (Bs × J)) (hl : ObjC W l) : AppC W (.obj l) := by
 intro B w v o F vv M hW hWB hr hB hrep hM hlim
 rw [Rep] at hrep
 obtain ⟨mb, m, rfl, h1, h2, h3⟩ := hrep
 rw [cnt] at hlim
 have a0 := ta50 (some mb)
 have a1 := ta51 (some mb)
 have a2 := ta52 (some mb)
 have a3 := ta53 (some mb)
 have a4 := ta54 (some mb)
 have a5 := ta55 (some mb)
 go_enter Tryz.func68, Tryz.ntmps68
 go_wp2_with fail
 refine (hl B w v o F mb m M hW hWB hr hB h2 h3 (fun p hp => Nat.le_trans (mem_len hp) hM) hlim).mono ?_
 rintro e w2 ⟨v', rfl, z1, z2⟩
 have Z := hide (And.intro z1 z2)
 clear z1 z2
 go_wp2
 go_ret
 exact ⟨_, rfl, Z.out.1, Z.out.2⟩
end Go.Proofs.YtocligpfmfmihaaGreatDoor
namespace Go.Proofs
open Go.Shelf
def Tryz.keys215_ren : Go.Shelf.Ren := ⟨fun | 7 => 215 | 10 => 253 | n => n, fun | 23 => 71 | 26 => 9 | 3 => 59 | 28 => 346 | 0 => 0 | 27 => 345 | 33 => 25 | 4 => 4 | n => n, fun | n => n⟩
theorem Tryz.keys215 : Go.Proofs.SlLaysZ.n7 Tryz.prog Tryz.keys215_ren := {
 mixed := by kernel_rfl
 f7 := ⟨Tryz.f215.name, by decide, Tryz.func215.trans (congrArg some (by kernel_rfl))⟩
 f10 := ⟨Tryz.f253.name, by decide, Tryz.func253.trans (congrArg some (by kernel_rfl))⟩
 t0 := Tryz.underlying0
 a0 := Tryz.isAgg0
 z0 := Tryz.sizeOf0
 v0 := Tryz.zeroValue0
 t4 := Tryz.underlying4
 a4 := Tryz.isAgg4
 z4 := Tryz.sizeOf4
 v4 := Tryz.zeroValue4
 t23 := Tryz.underlying71
 a23 := Tryz.isAgg71
 z23 := Tryz.sizeOf71
 v23 := Tryz.zeroValue71
 t26 := Tryz.underlying9
 a26 := Tryz.isAgg9
 z26 := Tryz.sizeOf9
 v26 := Tryz.zeroValue9
 t27 := Tryz.underlying345
 a27 := Tryz.isAgg345
 z27 := Tryz.sizeOf345
 v27 := Tryz.zeroValue345
 t28 := Tryz.underlying346
 a28 := Tryz.isAgg346
 z28 := Tryz.sizeOf346
 v28 := Tryz.zeroValue346
 t33 := Tryz.underlying25
 a33 := Tryz.isAgg25
 z33 := Tryz.sizeOf25
 v33 := Tryz.zeroValue25 }
def Tryz.sorted214_ren : Go.Shelf.Ren := ⟨fun | 6 => 214 | 8 => 251 | 9 => 252 | 11 => 278 | 13 => 220 | 12 => 279 | 23 => 262 | 24 => 263 | 14 => 288 | 15 => 289 | 16 => 290 | 17 => 291 | 18 => 292 | 19 => 293 | 20 => 294 | 21 => 295 | 22 => 296 | 25 => 298 | 26 => 281 | 27 => 282 | 28 => 299 | 29 => 300 | 30 => 301 | 31 => 302 | n => n, fun | 26 => 9 | 28 => 346 | 24 => 36 | 0 => 0 | 3 => 3 | 37 => 143 | 48 => 152 | 50 => 241 | 4 => 4 | 40 => 377 | 39 => 376 | 45 => 381 | 5 => 5 | 9 => 9 | 51 => 397 | 55 => 400 | 57 => 407 | 58 => 408 | 33 => 25 | n => n, fun | n => n⟩
theorem Tryz.sorted214 : Go.Proofs.SlLaysZ.n6 Tryz.prog Tryz.sorted214_ren := {
 mixed := by kernel_rfl
 f6 := ⟨Tryz.f214.name, by decide, Tryz.func214.trans (congrArg some (by kernel_rfl))⟩
 f8 := ⟨Tryz.f251.name, by decide, Tryz.func251.trans (congrArg some (by kernel_rfl))⟩
 f11 := ⟨Tryz.f278.name, by decide, Tryz.func278.trans (congrArg some (by kernel_rfl))⟩
 t0 := Tryz.underlying0
 a0 := Tryz.isAgg0
 z0 := Tryz.sizeOf0
 v0 := Tryz.zeroValue0
 t24 := Tryz.underlying36
 a24 := Tryz.isAgg36
 z24 := Tryz.sizeOf36
 v24 := Tryz.zeroValue36
 t26 := Tryz.underlying9
 a26 := Tryz.isAgg9
 z26 := Tryz.sizeOf9
 v26 := Tryz.zeroValue9
 t28 := Tryz.underlying346
 a28 := Tryz.isAgg346
 z28 := Tryz.sizeOf346
 v28 := Tryz.zeroValue346
 i26 := by kernel_rfl }
def Tryz.sort252_ren : Go.Shelf.Ren := ⟨fun | 6 => 252 | 8 => 220 | 9 => 279 | 19 => 262 | 20 => 263 | 21 => 288 | 22 => 289 | 23 => 290 | 24 => 291 | 25 => 292 | 26 => 293 | 27 => 294 | 28 => 295 | 29 => 296 | 36 => 298 | 31 => 281 | 32 => 282 | 37 => 299 | 38 => 300 | 39 => 301 | 41 => 302 | n => n, fun | 27 => 36 | 29 => 9 | 3 => 3 | 32 => 143 | 26 => 36 | 0 => 0 | 44 => 152 | 46 => 241 | 4 => 4 | 36 => 377 | 35 => 376 | 41 => 381 | 5 => 5 | 9 => 9 | 53 => 397 | 57 => 400 | 63 => 407 | 64 => 408 | n => n, fun | n => n⟩
theorem Tryz.sort252 : Go.Proofs.SlLaysM.n6 Tryz.prog Tryz.sort252_ren := {
 mixed := by kernel_rfl
 f6 := ⟨Tryz.f252.name, by decide, Tryz.func252.trans (congrArg some (by kernel_rfl))⟩
 f8 := Tryz.func220.trans (congrArg some (by kernel_rfl))
 f9 := ⟨Tryz.f279.name, by decide, Tryz.func279.trans (congrArg some (by kernel_rfl))⟩
 f19 := Tryz.func262.trans (congrArg some (by kernel_rfl))
 f20 := Tryz.func263.trans (congrArg some (by kernel_rfl))
 f21 := ⟨Tryz.f288.name, by decide, Tryz.func288.trans (congrArg some (by kernel_rfl))⟩
 f22 := ⟨Tryz.f289.name, by decide, Tryz.func289.trans (congrArg some (by kernel_rfl))⟩
 f23 := ⟨Tryz.f290.name, by decide, Tryz.func290.trans (congrArg some (by kernel_rfl))⟩
 f24 := ⟨Tryz.f291.name, by decide, Tryz.func291.trans (congrArg some (by kernel_rfl))⟩
 f25 := ⟨Tryz.f292.name, by decide, Tryz.func292.trans (congrArg some (by kernel_rfl))⟩
 f26 := ⟨Tryz.f293.name, by decide, Tryz.func293.trans (congrArg some (by kernel_rfl))⟩
 f27 := ⟨Tryz.f294.name, by decide, Tryz.func294.trans (congrArg some (by kernel_rfl))⟩
 f28 := ⟨Tryz.f295.name, by decide, Tryz.func295.trans (congrArg some (by kernel_rfl))⟩
 f29 := ⟨Tryz.f296.name, by decide, Tryz.func296.trans (congrArg some (by kernel_rfl))⟩
 f31 := Tryz.func281.trans (congrArg some (by kernel_rfl))
 f32 := Tryz.func282.trans (congrArg some (by kernel_rfl))
 f36 := ⟨Tryz.f298.name, by decide, Tryz.func298.trans (congrArg some (by kernel_rfl))⟩
 f37 := ⟨Tryz.f299.name, by decide, Tryz.func299.trans (congrArg some (by kernel_rfl))⟩
 f38 := ⟨Tryz.f300.name, by decide, Tryz.func300.trans (congrArg some (by kernel_rfl))⟩
 f39 := ⟨Tryz.f301.name, by decide, Tryz.func301.trans (congrArg some (by kernel_rfl))⟩
 f41 := ⟨Tryz.f302.name, by decide, Tryz.func302.trans (congrArg some (by kernel_rfl))⟩
 t0 := Tryz.underlying0
 a0 := Tryz.isAgg0
 z0 := Tryz.sizeOf0
 v0 := Tryz.zeroValue0
 t3 := Tryz.underlying3
 a3 := Tryz.isAgg3
 z3 := Tryz.sizeOf3
 v3 := Tryz.zeroValue3
 t4 := Tryz.underlying4
 a4 := Tryz.isAgg4
 z4 := Tryz.sizeOf4
 v4 := Tryz.zeroValue4
 t5 := Tryz.underlying5
 a5 := Tryz.isAgg5
 z5 := Tryz.sizeOf5
 v5 := Tryz.zeroValue5
 t9 := Tryz.underlying9
 a9 := Tryz.isAgg9
 z9 := Tryz.sizeOf9
 v9 := Tryz.zeroValue9
 t26 := Tryz.underlying36
 a26 := Tryz.isAgg36
 z26 := Tryz.sizeOf36
 v26 := Tryz.zeroValue36
 t27 := Tryz.underlying36
 a27 := Tryz.isAgg36
 z27 := Tryz.sizeOf36
 v27 := Tryz.zeroValue36
 t29 := Tryz.underlying9
 a29 := Tryz.isAgg9
 z29 := Tryz.sizeOf9
 v29 := Tryz.zeroValue9
 t32 := Tryz.underlying143
 a32 := Tryz.isAgg143
 z32 := Tryz.sizeOf143
 v32 := Tryz.zeroValue143
 t35 := Tryz.underlying376
 a35 := Tryz.isAgg376
 z35 := Tryz.sizeOf376
 v35 := Tryz.zeroValue376
 t36 := Tryz.underlying377
 a36 := Tryz.isAgg377
 z36 := Tryz.sizeOf377
 v36 := Tryz.zeroValue377
 t41 := Tryz.underlying381
 a41 := Tryz.isAgg381
 z41 := Tryz.sizeOf381
 v41 := Tryz.zeroValue381
 t44 := Tryz.underlying152
 a44 := Tryz.isAgg152
 z44 := Tryz.sizeOf152
 v44 := Tryz.zeroValue152
 t46 := Tryz.underlying241
 a46 := Tryz.isAgg241
 z46 := Tryz.sizeOf241
 v46 := Tryz.zeroValue241
 t53 := Tryz.underlying397
 a53 := Tryz.isAgg397
 z53 := Tryz.sizeOf397
 v53 := Tryz.zeroValue397
 t57 := Tryz.underlying400
 a57 := Tryz.isAgg400
 z57 := Tryz.sizeOf400
 v57 := Tryz.zeroValue400
 t63 := Tryz.underlying407
 a63 := Tryz.isAgg407
 z63 := Tryz.sizeOf407
 v63 := Tryz.zeroValue407
 t64 := Tryz.underlying408
 a64 := Tryz.isAgg408
 z64 := Tryz.sizeOf408
 v64 := Tryz.zeroValue408 }
open Go.RowKit Go.Maps Go.Sort
theorem Tryz.sorts214 (m : Nat) : AnyZ.SortsIn Tryz.prog Tryz.sorted214_ren Fence.wide m :=
 ⟨fun blk off cap ss W hH hblk hsz => callsIn_wide.2 (AnyM.slices_Sort_string Tryz.sort252 blk off cap ss W hH hblk hsz),
  fun p cap W => callsIn_wide.2 (AnyM.slices_Sort_string_none Tryz.sort252 p cap W)⟩
theorem Tryz.maps_Keys_215 (mb : Option Nat) (W : World) : CallsIn Fence.wide 5 Tryz.prog 215 #[.map mb] W fun e w' => e = .returned (.func (.func 253) #[] #[.pointer (some ⟨W.heap.size, 0, none⟩)]) ∧ w' = W.alloc (.cells #[.map mb] 71) :=
 AnyZ.keys_in Tryz.keys215 Fence.wide 5 trivial rfl mb W
set_option maxHeartbeats 1000000 in
theorem Tryz.slices_Sorted_keys_214_215 {H : Type} (b nn : Nat) (D0 : DataW H) (R : Value → Option (DataW H × List MemPlace)) (w : World) (hown : w.ownsMap Tryz.prog 9 R b nn D0) (hmax : Maps.size D0 ≤ maxLen) (hbytes : Maps.size D0 * 16 ≤ 140737488355328) :
  CallsIn Fence.wide 5 Tryz.prog 214 #[.func (.func 253) #[] #[.pointer (some ⟨w.heap.size, 0, none⟩)]] (w.alloc (.cells #[.map (some b)] 71)) fun e w' => ∃ (v : Value) (ss : List (List UInt8)), e = .returned v ∧ ss.Perm (strKeys D0) ∧
   w'.ownsRow (w.alloc (.cells #[.map (some b)] 71)).heap.size 9 1 v ss.length ((ss.mergeSort (fun x y => decide (x ≤ y))).map encStr) ∧ (v = .slice none 0 0 ↔ ss = []) ∧ Below (w.alloc (.cells #[.map (some b)] 71)).heap.size (w.alloc (.cells #[.map (some b)] 71)) w' := by
 have hbl := hown.lt
 have hseq : SeqGives Fence.wide 2 Tryz.prog 253 #[.pointer (some ⟨w.heap.size, 0, none⟩)] encStr (fun ss => ss.Perm (strKeys D0)) (Maps.size D0) (w.alloc (.cells #[.map (some b)] 71)) :=
  AnyZ.keys_gives (ρ := Tryz.keys215_ren) { Tryz.keys215 with } Fence.wide _ trivial rfl (by omega) w.heap.size b nn D0 _ (by simp) (by simp) (by
    obtain ⟨es, clock, hb, Ft, hs, hD⟩ := hown
    exact ⟨es, clock, (Below.heap_alloc _ _ b hbl).trans hb, Ft, hs, hD⟩)
 exact AnyZ.sorted_in Tryz.sorted214 Fence.wide 5 trivial trivial trivial trivial rfl (by omega) (Tryz.sorts214 _) (enters_of Tryz.func252 (by kernel_rfl) rfl) 253 #[.pointer (some ⟨w.heap.size, 0, none⟩)] trivial (enters_of Tryz.func253 (by kernel_rfl) rfl) _ _ hmax hbytes _ hseq
end Go.Proofs
namespace Go.Proofs.YtocligpfmfmihaaGreatDoor
open Go Go.RowKit Go.Maps Go.WideMaps Go.Sort Go.Shelf
theorem sorted_keys {m : List (Bs × Value)} {ss : List (List UInt8)} (hm : Srt m) (h : ss.Perm (strKeys (dm m))) : ss.mergeSort (fun x y => decide (x ≤ y)) = m.map (·.1) := by
 have e : strKeys (dm m) = m.map (·.1) := by
  simp [strKeys, dm, strOf, Function.comp]
 rw [e] at h
 refine List.Perm.eq_of_pairwise (le := fun a b : List UInt8 => decide (a ≤ b) = true) ?_ ?_ ?_ ((List.mergeSort_perm _ _).trans h)
 ·intro a b _ _ h1 h2
  exact List.le_antisymm (of_decide_eq_true h1) (of_decide_eq_true h2)
 ·refine List.pairwise_mergeSort ?_ ?_ _
  ·intro a b c h1 h2
   exact decide_eq_true (List.le_trans (of_decide_eq_true h1) (of_decide_eq_true h2))
  ·intro a b
   rcases List.le_total a b with h | h <;> simp [h]
 ·refine List.pairwise_map.2 (hm.imp ?_)
  intro a b hab
  exact decide_eq_true (List.le_of_lt hab)
def KpM (n0 ob fb : Nat) (W W' : World) : Prop := W.heap.size ≤ W'.heap.size ∧ (∀ k c t fz, W.heap[k]? = some (.cells c t fz) → t ≠ 5 → k ≠ ob → k ≠ fb → W'.heap[k]? = W.heap[k]?) ∧ (∀ k es cl, k < n0 → W.heap[k]? = some (.map es cl) → W'.heap[k]? = W.heap[k]?)
theorem KpM.t {n0 ob fb : Nat} {A B C : World} (h : KpM n0 ob fb A B) (k : KpM n0 ob fb B C) : KpM n0 ob fb A C := by
 refine ⟨Nat.le_trans h.1 k.1, ?_, ?_⟩
 ·intro i c t fz h1 h2 h3 h4
  have e := h.2.1 i c t fz h1 h2 h3 h4
  exact (k.2.1 i c t fz (e.trans h1) h2 h3 h4).trans e
 ·intro i es cl h0 h1
  have e := h.2.2 i es cl h0 h1
  exact (k.2.2 i es cl h0 (e.trans h1)).trans e
theorem KpM.b {n0 ob fb : Nat} {w : World} (hn : n0 ≤ w.heap.size) (W : World) (l : Nat) (o o' : Obj) (hl : w.heap.size ≤ l) (h : W.heap[l]? = some o) (hc : o.isCells = false) (_ : o.isWalk = false) : KpM n0 ob fb W (W.putObj l o') := by
 have hg := grownBy_putObj' W l o'
 refine ⟨hg.size, ?_, ?_⟩
 ·intro i c t fz h1 _ _ _
  refine hg.block i (lt_heap h1) ?_
  intro e
  injection e with e
  subst e
  rw [h] at h1
  injection h1 with h1
  subst h1
  cases hc
 ·intro i es cl h0 h1
  exact hg.block i (lt_heap h1) (by intro e; injection e with e; omega)
attribute [local go_sem] Oper.semAt_some
def encM (m : List (Bs × Value)) (i : Fin m.length) : Array Value := #[.string ⟨m[i].1.toArray⟩, m[i].2]
theorem look_nth : ∀ (m : List (Bs × Value)) (_ : Srt m) (k : Nat) (hk : k < m.length), lookK m[k].1 m = some m[k].2
 | (a, x) :: l, hm, 0, _ => by simp [lookK]
 | (a, x) :: l, hm, k + 1, hk => by
  obtain ⟨h1, h2⟩ := List.pairwise_cons.1 hm
  have hk' : k < l.length := by simpa using hk
  have h3 := h1 l[k] (List.getElem_mem hk')
  simp only [List.getElem_cons_succ, lookK]
  rw [if_neg (by intro e; rw [← e] at h3; exact lt_irr _ h3)]
  exact look_nth l h2 k hk'
theorem key_mk2 {o : List UInt8} (h : o.length ≤ 139000000000000) : keyOf Tryz.prog 9 (.string ⟨o.toArray⟩) = some (.string o) := by
 have := keyOf_string_mk (P := Tryz.prog) Tryz.underlying9 (s := ⟨o.toArray⟩) (by unfold maxLen; show o.toArray.size ≤ _; simp; omega)
 simpa using this
theorem slice_shape {w : World} {B : Nat} {e : TypeId} {v : Value} {n : Nat} {xs : List Value} (h : w.ownsRow B e 1 v n xs) : ∃ sa cap g cur, v = .slice sa n cap ∧ (0 < n → sa = some ⟨g, 0, none⟩ ∧ B ≤ g ∧ w.heap[g]? = some (.cells cur e) ∧ n ≤ cap ∧ ∀ k, k < n → cur[k]? = xs[k]?) := by
 obtain ⟨hl, ⟨rfl, rfl⟩ | ⟨g, cap, cur, rfl, h1, h2, h3, _, _, h6⟩⟩ := h
 ·exact ⟨none, 0, 0, #[], rfl, fun h => absurd h (by omega)⟩
 ·refine ⟨_, cap, g, cur, rfl, fun _ => ⟨rfl, h1, h2, h3, ?_⟩⟩
  intro k hk
  rw [← h6, List.getElem?_take_of_lt (by omega)]
  simp
theorem below_grown {A B : World} (h : RowKit.Below A.heap.size A B) : A.grownBy B none := ⟨h.os, h.tape, h.output, h.size, fun k hk _ => h.block k hk⟩
set_option maxRecDepth 20000 in
set_option maxHeartbeats 1000000 in
theorem members1 (n : Nat) (hn : 3 ≤ n) (lr bx b n0 ob fb : Nat) (m : List (Bs × Value)) (hm : Srt m) (hml : m.length ≤ 1000000) (hkl : ∀ p ∈ m, p.1.length ≤ 139000000000000) (hif : ∀ p ∈ m, ∃ t u, p.2 = .iface t u) (J Jx : List (Fin m.length) → World → Prop)
  (W : World) (hJ : AbidesFrom W.heap.size J)
  (hY : ∀ pre x W1, J pre W1 → pre.length < m.length → YieldAt Fence.wide (n - 1) Tryz.prog lr (encM m x) W1 fun e W' =>
    (e = .returned (.bool true) ∧ J (pre ++ [x]) W' ∧ KpM n0 ob fb W1 W') ∨ (e = .returned (.bool false) ∧ Jx (pre ++ [x]) W'))
  (hbx : W.heap[bx]? = some (.cells #[.map (some b)] 71)) (hbo : bx ≠ ob ∧ bx ≠ fb) (hob : ob < W.heap.size ∧ fb < W.heap.size) (hown : W.ownsMap Tryz.prog 9 Rv b m.length (dm m)) (hbn : b < n0) (h0 : J [] W) :
  CallsIn Fence.wide n Tryz.prog 213 #[.func (.yield lr) #[] #[], .pointer (some ⟨bx, 0, none⟩)] W fun e W' => (∃ v, e = .returned v) ∧
   ((∃ xs, xs = List.finRange m.length ∧ J xs W') ∨ (∃ pre, True ∧ Jx pre W')) := by
 obtain ⟨cx, fx⟩ := one_cells hbx
 have hsz : Maps.size (dm m) = m.length := dm_size m
 refine callsIn_of_wp Tryz.func213 rfl trivial ?_ rfl
 simp only [Tryz.ntmps213, List.size_toArray, List.length_cons, List.length_nil, Nat.reduceAdd, Nat.reduceSub, Array.replicate_succ, Array.replicate_zero, List.push_toArray, List.append_toArray, List.nil_append, List.cons_append]
 have h1n : 1 ≤ n := by omega
 have hfK : Fence.wide.fn 215 := trivial
 have hfS : Fence.wide.fn 214 := trivial
 gi_wp2_with (first
   | (gi_at_call 215; refine (callsIn_wide.2 (callsIn_wide.1 (Tryz.maps_Keys_215 _ _))).mono ?_; rintro e w' ⟨rfl, rfl⟩)
   | (gi_at_call 214; refine (callsIn_wide.2 (callsIn_wide.1 (Tryz.slices_Sorted_keys_214_215 b m.length (dm m) Rv W hown (by rw [hsz]; unfold maxLen; omega) (by rw [hsz]; omega)))).mono ?_; rintro e w' ⟨v, ss, rfl, hS, hrow, hnil, hb⟩; obtain ⟨sa, cap, g, cur, rfl, hsa⟩ := slice_shape hrow))
 have hss : ss.length = m.length := by rw [hS.length_eq]; simp [strKeys, dm]
 rw [sorted_keys hm hS] at hsa
 have J2 : J [] w' := hJ [] _ _ none (hJ [] _ _ none h0 (World.grownBy_alloc W _ none) (fun r e => by cases e)) (below_grown hb) (fun r e => by cases e)
 have hbx2 : w'.heap[bx]? = some (.cells #[.map (some b)] 71) := (hb.block bx (by simp; have := lt_heap hbx; omega)).trans ((Below.heap_alloc _ _ _ (lt_heap hbx)).trans hbx)
 have hown2 : w'.ownsMap Tryz.prog 9 Rv b m.length (dm m) := ownsMap_heap hown ((hb.block b (by simp; have := hown.lt; omega)).trans (Below.heap_alloc _ _ _ hown.lt))
 have hgo : 0 < m.length → g ≠ ob ∧ g ≠ fb := by
  intro h
  rw [hss] at hsa
  have := (hsa h).2.1
  simp at this
  omega
 clear hrow hnil hS
 generalize ss.length = L at *
 subst hss
 have HS := hide (And.intro hsa hgo)
 clear hsa hgo hsz cx fx hb
 gi_wp2_with fail
 have hmm : (m.length : Int) ≤ 1000000 := by omega
 gi_loopw [9] (fun i wr => ∃ k : Nat, k ≤ m.length ∧ i = .int .i64 (k : Int) ∧ J ((List.finRange m.length).take k) wr ∧ wr.heap[bx]? = some (.cells #[.map (some b)] 71) ∧ (0 < m.length → wr.heap[g]? = some (.cells cur 9)) ∧ wr.ownsMap Tryz.prog 9 Rv b m.length (dm m)) (fun i _ => m.length - (intOf i).toNat)
 case atStart => exact ⟨0, by omega, rfl, by simpa using J2, hbx2, fun h => (HS.out.1 h).2.2.1, hown2⟩
 case round =>
  obtain ⟨k, hk, rfl, hJr, hbr, hgr, hor⟩ := hrel
  by_cases hlt : k < m.length
  ·obtain ⟨rfl, hg1, hg2, hcap, hcur⟩ := HS.out.1 (by omega)
   have hgr' := hgr (by omega)
   obtain ⟨tt, u, hif'⟩ := hif m[k] (List.getElem_mem hlt)
   have hck : wr.cell? ⟨g, k, none⟩ = some (.string ⟨m[k].1.toArray⟩) := by
    have e1 := hcur k hlt
    simp only [List.getElem?_map, List.getElem?_eq_getElem hlt, Option.map_some] at e1
    simp [World.cell?, hgr', e1]
   have hlook : lookK m[k].1 m = some m[k].2 := look_nth m hm k hlt
   obtain ⟨lv, lps, hlk, hlr⟩ := hor.lookup keyed Tryz.underlying71 (zeroV wr) (R := Rv) (zd := .held .nilIface) (zp := []) rfl (key_mk2 (hkl m[k] (List.getElem_mem hlt)))
   have hlv : lv = .iface tt u := by
    rw [dm_at, hlook] at hlr
    simp only [Rv, Option.some.injEq, Prod.mk.injEq, DataW.held.injEq] at hlr
    rw [hlr.1, hif']
   rw [hlv] at hlk
   obtain ⟨cx, fx⟩ := one_cells hbr
   have htl : ((List.finRange m.length).take k).length < m.length := by simp; omega
   obtain ⟨fn, tmps, assign, body, hy, hR⟩ := hY _ ⟨k, hlt⟩ wr hJr htl
   simp only [encM, Fin.getElem_fin, hif'] at hy
   generalize m[k].1 = key at *
   have hlt' : decide ((k : Int) < (m.length : Int)) = true := by simp; omega
   have HX := hide (And.intro hbr (And.intro hgr' hor))
   clear hlook hlr hlv hif' hbr hgr hgr' hor hcur hg2
   have htk : (List.finRange m.length).take (k + 1) = (List.finRange m.length).take k ++ [⟨k, hlt⟩] := by
    rw [List.take_succ_eq_append_getElem (by simpa using hlt)]
    simp
   have HT := hide htk
   clear htk
   gi_wp2
   refine hR.mono ?_
   rintro e W3 (⟨rfl, hJ3, hk3⟩ | ⟨rfl, hJx3⟩)
   ·have hx1 := hk3.2.1 bx _ _ _ HX.out.1 (by decide) hbo.1 hbo.2
    have hx2 := hk3.2.1 g _ _ _ HX.out.2.1 (by decide) (HS.out.2 (by omega)).1 (HS.out.2 (by omega)).2
    have hx3 : W3.ownsMap Tryz.prog 9 Rv b m.length (dm m) := by
     obtain ⟨es, cl, q1, q2⟩ := HX.out.2.2
     exact ⟨es, cl, (hk3.2.2 b es cl hbn q1).trans q1, q2⟩
    have HZ := hide (And.intro (hx1.trans HX.out.1) (And.intro (hx2.trans HX.out.2.1) hx3))
    clear hx1 hx2 hx3
    gi_wp2
    go_roundw
    case rel => exact ⟨k + 1, by omega, int_i64 (by omega), by rw [HT.out]; exact hJ3, HZ.out.1, fun _ => HZ.out.2.1, HZ.out.2.2⟩
    case measure => simp [intOf]; omega
   ·gi_wp2
    refine bodyPost_ret (results_none rfl _ _ _) rfl ?_
    exact ⟨⟨_, rfl⟩, .inr ⟨_, trivial, hJx3⟩⟩
  ·have hlt' : decide ((k : Int) < (m.length : Int)) = false := by simp; omega
   gi_wp2
   go_end0
   refine ⟨⟨_, rfl⟩, .inl ⟨_, rfl, ?_⟩⟩
   have e1 : (List.finRange m.length).take k = List.finRange m.length := List.take_of_length_le (by simp; omega)
   rw [e1] at hJr
   exact hJr
end Go.Proofs.YtocligpfmfmihaaGreatDoor

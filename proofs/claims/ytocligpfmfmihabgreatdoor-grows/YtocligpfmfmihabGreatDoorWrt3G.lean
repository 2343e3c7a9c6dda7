import Derived.Test.YtocligpfmfmihabGreatDoorWrt2G
import Derived.Lib.ItoaNum
namespace Go.Proofs.YtocligpfmfmihabGreatDoor
open Go Go.RowKit Go.Maps Go.WideMaps

mutual
/-- How many values there are inside. -/
def cnt : J → Nat
  | .null => 0
  | .bool _ => 0
  | .num _ => 0
  | .str _ => 0
  | .arr l => cnts l
  | .obj l => cntm l
def cnts : List J → Nat
  | [] => 0
  | x :: l => 1 + cnt x + cnts l
def cntm : List (Bs × J) → Nat
  | [] => 0
  | (_, x) :: l => 1 + cnt x + cntm l
end
theorem cnts_ge : ∀ (l : List J), l.length ≤ cnts l ∧ ∀ x ∈ l, l.length + cnt x ≤ cnts l
  | [] => by simp [cnts]
  | y :: l => by
    obtain ⟨h1, h2⟩ := cnts_ge l
    rw [cnts]
    refine ⟨by rw [List.length_cons]; omega, fun x hx => ?_⟩
    rw [List.length_cons]
    rcases List.mem_cons.1 hx with rfl | hx
    · omega
    · have := h2 x hx; omega
theorem cntm_ge : ∀ (l : List (Bs × J)), l.length ≤ cntm l ∧ ∀ p ∈ l, l.length + cnt p.2 ≤ cntm l
  | [] => by simp [cntm]
  | (k, y) :: l => by
    obtain ⟨h1, h2⟩ := cntm_ge l
    rw [cntm]
    refine ⟨by rw [List.length_cons]; omega, fun x hx => ?_⟩
    rw [List.length_cons]
    rcases List.mem_cons.1 hx with rfl | hx
    · show _ + cnt y ≤ _; omega
    · have := h2 x hx; omega
theorem joinC_take (l : List Bs) (M : Nat) (h : ∀ x ∈ l, x.length ≤ M) : (joinC l).length ≤ l.length * (M + 1) := by
  induction l with
  | nil => simp [joinC]
  | cons x l ih =>
    cases l with
    | nil => simp only [joinC, List.length_cons, List.length_nil]; have := h x (by simp); omega
    | cons y l =>
      have h1 := ih (fun z hz => h z (by simp [List.mem_cons.1 hz]))
      have h2 := h x (by simp)
      rw [joinC, List.length_append, List.length_cons, List.length_cons (a := x)]
      have : (y :: l).length * (M + 1) + (M + 1) = ((y :: l).length + 1) * (M + 1) := by rw [Nat.add_mul]; omega
      omega

/-- What appendValue does. -/
def AppC (W : World) (j : J) : Prop := ∀ (B : Nat) (w : World) (v : Value) (o : List UInt8) (F : Nat → Prop) (vv : Value) (M : Nat), Below W.heap.size W w → W.heap.size ≤ B → Row B w v o → B ≤ w.heap.size → Rep w F j vv → (cJ j).length ≤ M →
  o.length + (cnt j + 1) * (M + 2) ≤ 139000000000000 → Calls Tryz.prog 55 #[v, vv] w fun e w' => WrR B w (o ++ cJ j) e w'

theorem Reps.get {w : World} {F : Nat → Prop} : ∀ (l : List J) (vs : List Value) (k : Nat) (hk : k < l.length), Reps w F l vs → ∃ v, vs[k]? = some v ∧ Rep w F l[k] v
  | x :: l, vs, 0, _, h => by
    rw [Reps] at h
    obtain ⟨v, r, rfl, h1, _⟩ := h
    exact ⟨v, rfl, h1⟩
  | x :: l, vs, k + 1, hk, h => by
    rw [Reps] at h
    obtain ⟨v, r, rfl, _, h2⟩ := h
    obtain ⟨u, h3, h4⟩ := Reps.get l r k (by simpa using hk) h2
    exact ⟨u, h3, h4⟩
theorem Reps.len {w : World} {F : Nat → Prop} : ∀ (l : List J) (vs : List Value), Reps w F l vs → vs.length = l.length
  | [], vs, h => by rw [Reps] at h; subst h; rfl
  | x :: l, vs, h => by
    rw [Reps] at h
    obtain ⟨v, r, rfl, _, h2⟩ := h
    simp [Reps.len l r h2]

set_option maxRecDepth 20000 in
set_option maxHeartbeats 1000000 in
theorem appendArray_c (W : World) (l : List J) (hl : ∀ x ∈ l, AppC W x) (B : Nat) (w : World) (v : Value) (o : List UInt8) (F : Nat → Prop) (sv : Value) (vs : List Value) (M : Nat) (hW : Below W.heap.size W w) (hWB : W.heap.size ≤ B) (hr : Row B w v o) (hB : B ≤ w.heap.size)
    (hsv : w.ownsRow 0 137 1 sv l.length vs) (hvs : Reps w F l vs) (hM : ∀ x ∈ l, (cJ x).length ≤ M) (hlim : o.length + (cnts l + 1) * (M + 2) ≤ 139000000000000) :
    Calls Tryz.prog 86 #[v, sv] w fun e w' => WrR B w (o ++ cJ (.arr l)) e w' := by
  obtain ⟨i0, hi, hz0, hz1, hz2⟩ := info_parts info8
  have hcl := cnts_ge l
  have hmul : l.length * (M + 2) ≤ (cnts l) * (M + 2) := Nat.mul_le_mul_right _ hcl.1
  have hmul2 : (cnts l + 1) * (M + 2) = cnts l * (M + 2) + (M + 2) := by rw [Nat.add_mul]; omega
  obtain ⟨sa, cap, rfl⟩ : ∃ sa cap, sv = .slice sa l.length cap := by
    obtain ⟨_, ⟨rfl, h⟩ | ⟨g, cap, cur, rfl, _⟩⟩ := hsv
    · exact ⟨none, 0, by rw [h]⟩
    · exact ⟨_, _, rfl⟩
  have HL := hide hl
  clear hl
  go_enter Tryz.func86, Tryz.ntmps86
  go_wp2_with (at_builtin; refine wpList_append_own _ rfl (.tmp 7) (.tmp 8) 95 rfl B 5 i0 (.int .u8 0) 1 1 Tryz.underlying95 hi hz0 hz1 hz2 rfl (by decide) _ _ _ rfl (World.ownsRow.alloc hr _) ⟨w.heap.size, 0, none⟩ 1 1 (Lib.byteCells [91]) rfl rfl (by exact cells_new w _ _) (bytes_one _) (by unfold maxLen; omega) (by omega) (by simp; omega) ?_; intro v1 w1 y1 y2 _)
  obtain ⟨z1, z2⟩ := app_bytes (l := [91]) (Wr.refl B w) hB hr y1 y2
  clear y1 y2
  go_wp2_with fail
  go_loopg [0, 12] l.length (fun g a i wr => ∃ k : Nat, g = l.length - k ∧ k ≤ l.length ∧ i = .int .i64 (k : Int) ∧ Row B wr a (o ++ 91 :: joinC ((l.take k).map cJ)) ∧ Wr B w wr)
  case atStart => exact ⟨0, rfl, by omega, rfl, by simpa [joinC] using z1, z2⟩
  case round =>
    obtain ⟨k, hg, hk, rfl, hrow, hwr⟩ := hrel
    have hlen : (o ++ 91 :: joinC ((l.take k).map cJ)).length ≤ o.length + 1 + k * (M + 1) := by
      have h1 := joinC_take ((l.take k).map cJ) M (by
        intro x hx
        obtain ⟨y, hy, rfl⟩ := List.mem_map.1 hx
        exact hM y (List.mem_of_mem_take hy))
      have h2 : ((l.take k).map cJ).length ≤ k := by rw [List.length_map]; exact List.length_take_le _ _
      have h3 := Nat.mul_le_mul_right (M + 1) h2
      rw [List.length_append, List.length_cons]
      omega
    have hkm : k * (M + 1) + k = k * (M + 2) := by rw [Nat.mul_add, Nat.mul_add]; omega
    have hkm2 : k * (M + 2) ≤ l.length * (M + 2) := Nat.mul_le_mul_right _ hk
    generalize ho1 : o ++ 91 :: joinC ((l.take k).map cJ) = o1 at *
    have A := hide (And.intro hg ho1)
    have hBr : B ≤ wr.heap.size := Nat.le_trans hB hwr.below.size
    clear hg ho1 z1 z2
    by_cases hlt : k < l.length
    · obtain ⟨vx, hvx1, hvx2⟩ := Reps.get l vs k hlt hvs
      have hcell : ∃ g, sa = some ⟨g, 0, none⟩ ∧ wr.cell? ⟨g, k, none⟩ = some vx ∧ l.length ≤ cap := by
        obtain ⟨_, ⟨h1, h2⟩ | ⟨g, cap', cur, h1, _, hh, r1, r2, r3, r4⟩⟩ := hsv
        · omega
        · injection h1 with h1 h2 h3
          refine ⟨g, h1, ?_, by omega⟩
          have e1 := hwr.oth g _ hh (by simp) (by intro c fz; simp)
          have e2 : cur[k]? = some vx := by
            have : (cur.toList.take (l.length * 1))[k]? = some vx := by rw [r4]; exact hvx1
            rw [List.getElem?_take_of_lt (by omega)] at this
            simpa using this
          simp [World.cell?, e1, e2]
      obtain ⟨g, rfl, hcell, hcap⟩ := hcell
      obtain ⟨tt, u, rfl⟩ := Rep.iface hvx2
      have hstep : joinC ((l.take (k + 1)).map cJ) = if k = 0 then cJ l[k] else joinC ((l.take k).map cJ) ++ 44 :: cJ l[k] := by
        rw [List.take_succ_eq_append_getElem hlt, List.map_append, List.map_cons, List.map_nil, joinC_snoc]
        by_cases h0 : k = 0
        · subst h0; simp
        · have : (l.take k).map cJ ≠ [] := by
            intro e
            have := congrArg List.length e
            rw [List.length_map, List.length_take, List.length_nil] at this
            omega
          rw [if_neg this, if_neg h0]
      have hx := hcl.2 l[k] (List.getElem_mem hlt)
      have hx2 : (l.length + cnt l[k]) * (M + 2) ≤ cnts l * (M + 2) := Nat.mul_le_mul_right _ hx
      have hx3 : (l.length + cnt l[k]) * (M + 2) = l.length * (M + 2) + cnt l[k] * (M + 2) := Nat.add_mul _ _ _
      have hx4 : (cnt l[k] + 1) * (M + 2) = cnt l[k] * (M + 2) + (M + 2) := by rw [Nat.add_mul]; omega
      have hx5 : (k + 1) * (M + 2) ≤ l.length * (M + 2) := Nat.mul_le_mul_right _ hlt
      have hx6 : (k + 1) * (M + 2) = k * (M + 2) + (M + 2) := by rw [Nat.add_mul]; omega
      have hc1 := HL.out l[k] (List.getElem_mem hlt)
      have hc2 := hM l[k] (List.getElem_mem hlt)
      generalize hlk : l[k] = x at *
      have X := hide (And.intro hstep (And.intro hvx2 hc1))
      clear hstep hvx2 hc1 hlk hx hvx1
      by_cases h0 : k = 0
      · have e0 : o ++ 91 :: joinC ((l.take (k + 1)).map cJ) = o1 ++ cJ x := by
          rw [X.out.1, if_pos h0, ← A.out.2, h0]
          simp [joinC]
        have E0 := hide e0
        clear e0
        subst h0
        go_wp2_with fail
        refine (X.out.2.2 B wr u0 o1 F (.iface tt u) M (hW.trans (hwr.below.mono hWB)) hWB hrow hBr (Rep.oth hwr.oth x X.out.2.1) hc2 (by omega)).mono ?_
        rintro e w3 ⟨v3, rfl, q1, q2⟩
        go_wp2
        go_roundg (l.length - (0 + 1))
        case measure => rw [A.out.1]; omega
        case rel => exact ⟨0 + 1, rfl, by omega, int_i64 (by omega), by rw [E0.out]; exact q1, hwr.trans q2⟩
      · have e0 : o ++ 91 :: joinC ((l.take (k + 1)).map cJ) = o1 ++ [44] ++ cJ x := by
          rw [X.out.1, if_neg h0, ← A.out.2]
          simp
        have E0 := hide e0
        have hpos : 0 < k := by omega
        clear e0 h0
        go_wp2_with (at_builtin; refine wpList_append_own _ rfl (.tmp 19) (.tmp 20) 95 rfl B 5 i0 (.int .u8 0) 1 1 Tryz.underlying95 hi hz0 hz1 hz2 rfl (by decide) _ _ _ rfl (World.ownsRow.alloc hrow _) ⟨wr.heap.size, 0, none⟩ 1 1 (Lib.byteCells [44]) rfl rfl (by exact cells_new wr _ _) (bytes_one _) (by unfold maxLen; omega) (by omega) (by simp; omega) ?_; intro v2 w2 y1 y2 _)
        obtain ⟨z1, z2⟩ := app_bytes (l := [44]) hwr hBr hrow y1 y2
        clear y1 y2
        have hB2 : B ≤ w2.heap.size := Nat.le_trans hB z2.below.size
        have hl2 : (o1 ++ [44]).length = o1.length + 1 := by simp
        go_wp2_with fail
        refine (X.out.2.2 B w2 v2 (o1 ++ [44]) F (.iface tt u) M (hW.trans (z2.below.mono hWB)) hWB z1 hB2 (Rep.oth z2.oth x X.out.2.1) hc2 (by omega)).mono ?_
        rintro e w3 ⟨v3, rfl, q1, q2⟩
        go_wp2
        go_roundg (l.length - (k + 1))
        case measure => rw [A.out.1]; omega
        case rel => exact ⟨k + 1, rfl, by omega, int_i64 (by omega), by rw [E0.out]; exact q1, z2.trans q2⟩
    · have hnlt : l.length ≤ k := by omega
      clear hsv
      go_wp2_with (at_builtin; refine wpList_append_own _ rfl (.tmp 26) (.tmp 27) 95 rfl B 5 i0 (.int .u8 0) 1 1 Tryz.underlying95 hi hz0 hz1 hz2 rfl (by decide) _ _ _ rfl (World.ownsRow.alloc hrow _) ⟨wr.heap.size, 0, none⟩ 1 1 (Lib.byteCells [93]) rfl rfl (by exact cells_new wr _ _) (bytes_one _) (by unfold maxLen; omega) (by omega) (by simp; omega) ?_; intro v2 w2 y1 y2 _)
      obtain ⟨z1, z2⟩ := app_bytes (l := [93]) hwr hBr hrow y1 y2
      have Z := hide (And.intro z1 z2)
      clear y1 y2 z1 z2
      go_wp2
      go_ret
      refine ⟨_, rfl, ?_, Z.out.2⟩
      have e1 : l.take k = l := List.take_of_length_le hnlt
      have e2 := A.out.2
      rw [e1] at e2
      have e3 : o ++ cJ (.arr l) = o1 ++ [93] := by rw [cJ_arr, ← e2]; simp
      rw [e3]
      exact Z.out.1
end Go.Proofs.YtocligpfmfmihabGreatDoor
namespace Go.Proofs.YtocligpfmfmihabGreatDoor
open Go Go.RowKit Go.Maps Go.WideMaps

theorem ta00 (w : World) : (Instr.typeAssert (.iface 194 (.agg #[])) 137 194 true).run Tryz.prog w = .ok (.tuple #[.agg #[], .bool true]) w := by kernel_rfl
theorem ta10 (b : Bool) (w : World) : (Instr.typeAssert (.iface 195 (.bool b)) 137 194 true).run Tryz.prog w = .ok (.tuple #[.agg #[], .bool false]) w := by kernel_rfl
theorem ta11 (b : Bool) (w : World) : (Instr.typeAssert (.iface 195 (.bool b)) 137 195 true).run Tryz.prog w = .ok (.tuple #[.bool b, .bool true]) w := by kernel_rfl
theorem ta20 (n : Int) (w : World) : (Instr.typeAssert (.iface 197 (.int .i64 n)) 137 194 true).run Tryz.prog w = .ok (.tuple #[.agg #[], .bool false]) w := by kernel_rfl
theorem ta21 (n : Int) (w : World) : (Instr.typeAssert (.iface 197 (.int .i64 n)) 137 195 true).run Tryz.prog w = .ok (.tuple #[.bool false, .bool false]) w := by kernel_rfl
theorem ta22 (n : Int) (w : World) : (Instr.typeAssert (.iface 197 (.int .i64 n)) 137 197 true).run Tryz.prog w = .ok (.tuple #[.int .i64 n, .bool true]) w := by kernel_rfl
theorem ta30 (s : ByteArray) (w : World) : (Instr.typeAssert (.iface 167 (.string s)) 137 194 true).run Tryz.prog w = .ok (.tuple #[.agg #[], .bool false]) w := by kernel_rfl
theorem ta31 (s : ByteArray) (w : World) : (Instr.typeAssert (.iface 167 (.string s)) 137 195 true).run Tryz.prog w = .ok (.tuple #[.bool false, .bool false]) w := by kernel_rfl
theorem ta32 (s : ByteArray) (w : World) : (Instr.typeAssert (.iface 167 (.string s)) 137 197 true).run Tryz.prog w = .ok (.tuple #[.int .i64 0, .bool false]) w := by kernel_rfl
theorem ta33 (s : ByteArray) (w : World) : (Instr.typeAssert (.iface 167 (.string s)) 137 167 true).run Tryz.prog w = .ok (.tuple #[.string s, .bool true]) w := by kernel_rfl
theorem ta40 (sv : Value) (w : World) : (Instr.typeAssert (.iface 201 (sv)) 137 194 true).run Tryz.prog w = .ok (.tuple #[.agg #[], .bool false]) w := by kernel_rfl
theorem ta41 (sv : Value) (w : World) : (Instr.typeAssert (.iface 201 (sv)) 137 195 true).run Tryz.prog w = .ok (.tuple #[.bool false, .bool false]) w := by kernel_rfl
theorem ta42 (sv : Value) (w : World) : (Instr.typeAssert (.iface 201 (sv)) 137 197 true).run Tryz.prog w = .ok (.tuple #[.int .i64 0, .bool false]) w := by kernel_rfl
theorem ta43 (sv : Value) (w : World) : (Instr.typeAssert (.iface 201 (sv)) 137 167 true).run Tryz.prog w = .ok (.tuple #[.string ⟨#[]⟩, .bool false]) w := by kernel_rfl
theorem ta44 (sv : Value) (w : World) : (Instr.typeAssert (.iface 201 (sv)) 137 201 true).run Tryz.prog w = .ok (.tuple #[sv, .bool true]) w := by kernel_rfl
theorem ta50 (mb : Option Nat) (w : World) : (Instr.typeAssert (.iface 76 (.map mb)) 137 194 true).run Tryz.prog w = .ok (.tuple #[.agg #[], .bool false]) w := by kernel_rfl
theorem ta51 (mb : Option Nat) (w : World) : (Instr.typeAssert (.iface 76 (.map mb)) 137 195 true).run Tryz.prog w = .ok (.tuple #[.bool false, .bool false]) w := by kernel_rfl
theorem ta52 (mb : Option Nat) (w : World) : (Instr.typeAssert (.iface 76 (.map mb)) 137 197 true).run Tryz.prog w = .ok (.tuple #[.int .i64 0, .bool false]) w := by kernel_rfl
theorem ta53 (mb : Option Nat) (w : World) : (Instr.typeAssert (.iface 76 (.map mb)) 137 167 true).run Tryz.prog w = .ok (.tuple #[.string ⟨#[]⟩, .bool false]) w := by kernel_rfl
theorem ta54 (mb : Option Nat) (w : World) : (Instr.typeAssert (.iface 76 (.map mb)) 137 201 true).run Tryz.prog w = .ok (.tuple #[.slice none 0 0, .bool false]) w := by kernel_rfl
theorem ta55 (mb : Option Nat) (w : World) : (Instr.typeAssert (.iface 76 (.map mb)) 137 76 true).run Tryz.prog w = .ok (.tuple #[.map mb, .bool true]) w := by kernel_rfl

theorem itoa_c (n : Int) : Lib.itoa n = cNum n := by
  have h : ∀ k u : Nat, u ≤ k → Lib.decDigits u = decN u := by
    intro k
    induction k with
    | zero =>
      intro u hu
      obtain rfl : u = 0 := by omega
      rw [Lib.decDigits, decN]; simp
    | succ k ih =>
      intro u hu
      rw [Lib.decDigits, decN]
      by_cases h10 : u < 10
      · rw [dif_pos h10, if_pos h10]
      · rw [dif_neg h10, if_neg h10, ih (u / 10) (by omega)]
  unfold Lib.itoa cNum
  by_cases hn : n < 0
  · rw [if_pos hn, if_pos hn, h _ _ (Nat.le_refl _)]
  · rw [if_neg hn, if_neg hn, h _ _ (Nat.le_refl _)]
    congr 1
    omega

/-- What appendObject does. -/
def ObjC (W : World) (l : List (Bs × J)) : Prop := ∀ (B : Nat) (w : World) (v : Value) (o : List UInt8) (F : Nat → Prop) (b : Nat) (m : List (Bs × Value)) (M : Nat), Below W.heap.size W w → W.heap.size ≤ B → Row B w v o → B ≤ w.heap.size →
  w.ownsMap Tryz.prog 9 Rv b m.length (dm m) → Repm w F l m → (∀ p ∈ l, (cMem p).length ≤ M) → o.length + (cntm l + 1) * (M + 2) ≤ 139000000000000 →
  Calls Tryz.prog 87 #[v, .map (some b)] w fun e w' => WrR B w (o ++ cJ (.obj l)) e w'

theorem joinC_mem {x : Bs} : ∀ (l : List Bs), x ∈ l → x.length ≤ (joinC l).length
  | [y], h => by
    obtain rfl : x = y := by simpa using h
    exact Nat.le_refl _
  | y :: z :: l, h => by
    rw [joinC, List.length_append, List.length_cons]
    rcases List.mem_cons.1 h with rfl | h
    · omega
    · have := joinC_mem (z :: l) h; omega
theorem elem_len {l : List J} {x : J} (h : x ∈ l) : (cJ x).length ≤ (cJ (.arr l)).length := by
  rw [cJ_arr, List.length_cons, List.length_append]
  have := joinC_mem (l.map cJ) (List.mem_map.2 ⟨x, h, rfl⟩)
  omega
theorem mem_len {l : List (Bs × J)} {p : Bs × J} (h : p ∈ l) : (cMem p).length ≤ (cJ (.obj l)).length := by
  rw [cJ_obj, List.length_cons, List.length_append]
  have := joinC_mem (l.map cMem) (List.mem_map.2 ⟨p, h, rfl⟩)
  omega
theorem WFs_mem : ∀ (d : Nat) (l : List J) (x : J), WFs d l → x ∈ l → WF d x
  | d, y :: l, x, h, hx => by
    rw [WFs] at h
    rcases List.mem_cons.1 hx with rfl | hx
    · exact h.1
    · exact WFs_mem d l x h.2 hx
theorem WFm_mem' : ∀ (d : Nat) (l : List (Bs × J)) (p : Bs × J), WFm d l → p ∈ l → WF d p.2
  | d, (k, y) :: l, p, h, hx => by
    rw [WFm] at h
    rcases List.mem_cons.1 hx with rfl | hx
    · exact h.2.1
    · exact WFm_mem' d l p h.2.2 hx
set_option maxRecDepth 20000 in
theorem app_null (W : World) : AppC W .null := by
  intro B w v o F vv M hW hWB hr hB hrep hM hlim
  rw [Rep] at hrep
  subst hrep
  obtain ⟨i0, hi, hz0, hz1, hz2⟩ := info_parts info8
  have hl : o.length + 4 ≤ 139000000000000 := by
    have : (cJ J.null).length = 4 := rfl
    rw [cnt] at hlim
    omega
  have a0 := ta00
  go_enter Tryz.func55, Tryz.ntmps55
  go_wp2_with (at_builtin; refine Lib.wpList_append_own_string _ rfl _ _ 95 9 rfl B 5 i0 Tryz.underlying95 Tryz.underlying9 hi hz0 hz1 hz2 _ _ _ rfl (World.ownsRow.alloc hr _) ⟨#[110, 117, 108, 108]⟩ rfl (by unfold maxLen; show o.length + 4 ≤ _; omega) (by show o.length + 4 ≤ _; omega) (by simp; omega) ?_; intro v' w1 y1 y2 _)
  obtain ⟨z1, z2⟩ := app_str ((Wr.refl B w).alloc hB _) (by simp; omega) (World.ownsRow.alloc hr _) y1 y2
  have Z := hide (And.intro z1 z2)
  clear z1 z2 y1 y2
  go_wp2
  go_ret
  exact ⟨_, rfl, Z.out.1, Z.out.2⟩
set_option maxRecDepth 20000 in
theorem app_bool (W : World) (b : Bool) : AppC W (.bool b) := by
  intro B w v o F vv M hW hWB hr hB hrep hM hlim
  rw [Rep] at hrep
  subst hrep
  rw [cnt] at hlim
  have a0 := ta10 b
  have a1 := ta11 b
  go_enter Tryz.func55, Tryz.ntmps55
  go_wp2_with fail
  refine (appendBool_c B w v o b hr hB (by omega)).mono ?_
  rintro e w2 ⟨v', rfl, z1, z2⟩
  have Z := hide (And.intro z1 z2)
  clear z1 z2
  go_wp2
  go_ret
  exact ⟨_, rfl, Z.out.1, Z.out.2⟩
set_option maxRecDepth 20000 in
theorem app_num (W : World) (hG : GL W) (n : Int) (hn : n.natAbs ≤ maxNum) : AppC W (.num n) := by
  intro B w v o F vv M hW hWB hr hB hrep hM hlim
  rw [Rep] at hrep
  subst hrep
  have hn' : -9007199254740991 ≤ n ∧ n ≤ 9007199254740991 := by unfold maxNum at hn; omega
  obtain ⟨hn1, hn2⟩ := hn'
  rw [cnt] at hlim
  have htab : Lib.TabBelow Tryz.prog B w "internal/strconv.uint64pow10" .u64 Lib.pow10Tab := fun w' h' => hG.pow w' (hW.trans (h'.mono hWB))
  have a0 := ta20 n
  have a1 := ta21 n
  have a2 := ta22 n
  go_enter Tryz.func55, Tryz.ntmps55
  go_wp2_with fail
  refine (Tryz.strconv_AppendInt_10 B o.length n (by omega) (by omega) v (Lib.byteCells o) w hr hB (by omega) htab).mono ?_
  rintro e w2 ⟨v', rfl, z1, z2, z3⟩
  have Z : Hid (Row B w2 v' (o ++ cJ (.num n)) ∧ Wr B w w2) := by
    refine ⟨?_, z2, z3⟩
    unfold Row
    rw [cJ, ← itoa_c, byteCells_app, List.length_append]
    exact z1
  clear z1 z2 z3
  go_wp2
  go_ret
  exact ⟨_, rfl, Z.out.1, Z.out.2⟩
set_option maxRecDepth 20000 in
theorem app_strv (W : World) (s : Bs) : AppC W (.str s) := by
  intro B w v o F vv M hW hWB hr hB hrep hM hlim
  rw [Rep] at hrep
  subst hrep
  rw [cnt] at hlim
  have a0 := ta30 ⟨s.toArray⟩
  have a1 := ta31 ⟨s.toArray⟩
  have a2 := ta32 ⟨s.toArray⟩
  have a3 := ta33 ⟨s.toArray⟩
  go_enter Tryz.func55, Tryz.ntmps55
  go_wp2_with fail
  refine (appendString_c B w v o ⟨s.toArray⟩ hr hB (by rw [cJ] at hM; show o.length + (cStr s).length ≤ _; omega)).mono ?_
  rintro e w2 ⟨v', rfl, z1, z2⟩
  have Z : Hid (Row B w2 v' (o ++ cJ (.str s)) ∧ Wr B w w2) := And.intro (by rw [cJ]; exact z1) z2
  clear z1 z2
  go_wp2
  go_ret
  exact ⟨_, rfl, Z.out.1, Z.out.2⟩
set_option maxRecDepth 20000 in
theorem app_arr (W : World) (l : List J) (hl : ∀ x ∈ l, AppC W x) : AppC W (.arr l) := by
  intro B w v o F vv M hW hWB hr hB hrep hM hlim
  rw [Rep] at hrep
  obtain ⟨sv, vs, rfl, h1, h2, h3⟩ := hrep
  rw [cnt] at hlim
  have a0 := ta40 sv
  have a1 := ta41 sv
  have a2 := ta42 sv
  have a3 := ta43 sv
  have a4 := ta44 sv
  go_enter Tryz.func55, Tryz.ntmps55
  go_wp2_with fail
  refine (appendArray_c W l hl B w v o F sv vs M hW hWB hr hB h1 h3 (fun x hx => Nat.le_trans (elem_len hx) hM) hlim).mono ?_
  rintro e w2 ⟨v', rfl, z1, z2⟩
  have Z := hide (And.intro z1 z2)
  clear z1 z2
  go_wp2
  go_ret
  exact ⟨_, rfl, Z.out.1, Z.out.2⟩
set_option maxRecDepth 20000 in
theorem app_obj (W : World) (l : List (Bs × J)) (hl : ObjC W l) : AppC W (.obj l) := by
  intro B w v o F vv M hW hWB hr hB hrep hM hlim
  rw [Rep] at hrep
  obtain ⟨mb, m, rfl, h1, h2, h3⟩ := hrep
  rw [cnt] at hlim
  have a0 := ta50 (some mb)
  have a1 := ta51 (some mb)
  have a2 := ta52 (some mb)
  have a3 := ta53 (some mb)
  have a4 := ta54 (some mb)
  have a5 := ta55 (some mb)
  go_enter Tryz.func55, Tryz.ntmps55
  go_wp2_with fail
  refine (hl B w v o F mb m M hW hWB hr hB h2 h3 (fun p hp => Nat.le_trans (mem_len hp) hM) hlim).mono ?_
  rintro e w2 ⟨v', rfl, z1, z2⟩
  have Z := hide (And.intro z1 z2)
  clear z1 z2
  go_wp2
  go_ret
  exact ⟨_, rfl, Z.out.1, Z.out.2⟩
end Go.Proofs.YtocligpfmfmihabGreatDoor

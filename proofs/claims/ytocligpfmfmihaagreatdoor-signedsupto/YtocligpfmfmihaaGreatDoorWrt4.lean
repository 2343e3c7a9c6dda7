import Derived.Test.YtocligpfmfmihaaGreatDoorWrt2G
import Derived.Lib.ItoaNum
namespace Go.Proofs.YtocligpfmfmihaaGreatDoor
open Go Go.RowKit Go.Maps Go.WideMaps

theorem ta00 (w : World) : (Instr.typeAssert (.iface 221 (.agg #[])) 59 221 true).run Tryz.prog w = .ok (.tuple #[.agg #[], .bool true]) w := by kernel_rfl
theorem ta10 (b : Bool) (w : World) : (Instr.typeAssert (.iface 222 (.bool b)) 59 221 true).run Tryz.prog w = .ok (.tuple #[.agg #[], .bool false]) w := by kernel_rfl
theorem ta11 (b : Bool) (w : World) : (Instr.typeAssert (.iface 222 (.bool b)) 59 222 true).run Tryz.prog w = .ok (.tuple #[.bool b, .bool true]) w := by kernel_rfl
theorem ta20 (n : Int) (w : World) : (Instr.typeAssert (.iface 224 (.int .i64 n)) 59 221 true).run Tryz.prog w = .ok (.tuple #[.agg #[], .bool false]) w := by kernel_rfl
theorem ta21 (n : Int) (w : World) : (Instr.typeAssert (.iface 224 (.int .i64 n)) 59 222 true).run Tryz.prog w = .ok (.tuple #[.bool false, .bool false]) w := by kernel_rfl
theorem ta22 (n : Int) (w : World) : (Instr.typeAssert (.iface 224 (.int .i64 n)) 59 224 true).run Tryz.prog w = .ok (.tuple #[.int .i64 n, .bool true]) w := by kernel_rfl
theorem ta30 (s : ByteArray) (w : World) : (Instr.typeAssert (.iface 137 (.string s)) 59 221 true).run Tryz.prog w = .ok (.tuple #[.agg #[], .bool false]) w := by kernel_rfl
theorem ta31 (s : ByteArray) (w : World) : (Instr.typeAssert (.iface 137 (.string s)) 59 222 true).run Tryz.prog w = .ok (.tuple #[.bool false, .bool false]) w := by kernel_rfl
theorem ta32 (s : ByteArray) (w : World) : (Instr.typeAssert (.iface 137 (.string s)) 59 224 true).run Tryz.prog w = .ok (.tuple #[.int .i64 0, .bool false]) w := by kernel_rfl
theorem ta33 (s : ByteArray) (w : World) : (Instr.typeAssert (.iface 137 (.string s)) 59 137 true).run Tryz.prog w = .ok (.tuple #[.string s, .bool true]) w := by kernel_rfl
theorem ta40 (sv : Value) (w : World) : (Instr.typeAssert (.iface 228 (sv)) 59 221 true).run Tryz.prog w = .ok (.tuple #[.agg #[], .bool false]) w := by kernel_rfl
theorem ta41 (sv : Value) (w : World) : (Instr.typeAssert (.iface 228 (sv)) 59 222 true).run Tryz.prog w = .ok (.tuple #[.bool false, .bool false]) w := by kernel_rfl
theorem ta42 (sv : Value) (w : World) : (Instr.typeAssert (.iface 228 (sv)) 59 224 true).run Tryz.prog w = .ok (.tuple #[.int .i64 0, .bool false]) w := by kernel_rfl
theorem ta43 (sv : Value) (w : World) : (Instr.typeAssert (.iface 228 (sv)) 59 137 true).run Tryz.prog w = .ok (.tuple #[.string ⟨#[]⟩, .bool false]) w := by kernel_rfl
theorem ta44 (sv : Value) (w : World) : (Instr.typeAssert (.iface 228 (sv)) 59 228 true).run Tryz.prog w = .ok (.tuple #[sv, .bool true]) w := by kernel_rfl
theorem ta50 (mb : Option Nat) (w : World) : (Instr.typeAssert (.iface 71 (.map mb)) 59 221 true).run Tryz.prog w = .ok (.tuple #[.agg #[], .bool false]) w := by kernel_rfl
theorem ta51 (mb : Option Nat) (w : World) : (Instr.typeAssert (.iface 71 (.map mb)) 59 222 true).run Tryz.prog w = .ok (.tuple #[.bool false, .bool false]) w := by kernel_rfl
theorem ta52 (mb : Option Nat) (w : World) : (Instr.typeAssert (.iface 71 (.map mb)) 59 224 true).run Tryz.prog w = .ok (.tuple #[.int .i64 0, .bool false]) w := by kernel_rfl
theorem ta53 (mb : Option Nat) (w : World) : (Instr.typeAssert (.iface 71 (.map mb)) 59 137 true).run Tryz.prog w = .ok (.tuple #[.string ⟨#[]⟩, .bool false]) w := by kernel_rfl
theorem ta54 (mb : Option Nat) (w : World) : (Instr.typeAssert (.iface 71 (.map mb)) 59 228 true).run Tryz.prog w = .ok (.tuple #[.slice none 0 0, .bool false]) w := by kernel_rfl
theorem ta55 (mb : Option Nat) (w : World) : (Instr.typeAssert (.iface 71 (.map mb)) 59 71 true).run Tryz.prog w = .ok (.tuple #[.map mb, .bool true]) w := by kernel_rfl

theorem itoa_c (n : Int) : Lib.itoa n = cNum n := by
  have h : ∀ k u : Nat, u ≤ k → Lib.decDigits u = decN u := by
    intro k
    induction k with
    | zero => intro u hu; obtain rfl : u = 0 := by omega
              rw [Lib.decDigits, decN]; simp
    | succ k ih =>
      intro u hu
      rw [Lib.decDigits, decN]
      by_cases h10 : u < 10
      · rw [dif_pos h10, if_pos h10]
      · rw [dif_neg h10, if_neg h10, ih (u / 10) (by omega)]
  unfold Lib.itoa cNum
  by_cases hn : n < 0
  · rw [if_pos hn, if_pos hn, h _ _ (Nat.le_refl _)]
  · rw [if_neg hn, if_neg hn, h _ _ (Nat.le_refl _)]
    congr 1
    omega

/-- What appendObject does. -/
def ObjC (W : World) (l : List (Bs × J)) : Prop := ∀ (B : Nat) (w : World) (v : Value) (o : List UInt8) (F : Nat → Prop) (b : Nat) (m : List (Bs × Value)) (M : Nat), Below W.heap.size W w → W.heap.size ≤ B → Row B w v o → B ≤ w.heap.size →
  w.ownsMap Tryz.prog 9 Rv b m.length (dm m) → Repm w F l m → (∀ p ∈ l, (cMem p).length ≤ M) → o.length + (cntm l + 1) * (M + 2) ≤ 139000000000000 →
  Calls Tryz.prog 122 #[v, .map (some b)] w fun e w' => WrR B w (o ++ cJ (.obj l)) e w'

theorem joinC_mem {x : Bs} : ∀ (l : List Bs), x ∈ l → x.length ≤ (joinC l).length
  | [y], h => by obtain rfl : x = y := by simpa using h
                 exact Nat.le_refl _
  | y :: z :: l, h => by
    rw [joinC, List.length_append, List.length_cons]
    rcases List.mem_cons.1 h with rfl | h
    · omega
    · have := joinC_mem (z :: l) h; omega
theorem elem_len {l : List J} {x : J} (h : x ∈ l) : (cJ x).length ≤ (cJ (.arr l)).length := by
  rw [cJ_arr, List.length_cons, List.length_append]
  have := joinC_mem (l.map cJ) (List.mem_map.2 ⟨x, h, rfl⟩)
  omega
theorem mem_len {l : List (Bs × J)} {p : Bs × J} (h : p ∈ l) : (cMem p).length ≤ (cJ (.obj l)).length := by
  rw [cJ_obj, List.length_cons, List.length_append]
  have := joinC_mem (l.map cMem) (List.mem_map.2 ⟨p, h, rfl⟩)
  omega
theorem WFs_mem : ∀ (d : Nat) (l : List J) (x : J), WFs d l → x ∈ l → WF d x
  | d, y :: l, x, h, hx => by
    rw [WFs] at h
    rcases List.mem_cons.1 hx with rfl | hx
    · exact h.1
    · exact WFs_mem d l x h.2 hx
theorem WFm_mem' : ∀ (d : Nat) (l : List (Bs × J)) (p : Bs × J), WFm d l → p ∈ l → WF d p.2
  | d, (k, y) :: l, p, h, hx => by
    rw [WFm] at h
    rcases List.mem_cons.1 hx with rfl | hx
    · exact h.2.1
    · exact WFm_mem' d l p h.2.2 hx
set_option maxRecDepth 20000 in
theorem app_null (W : World) : AppC W .null := by
  intro B w v o F vv M hW hWB hr hB hrep hM hlim
  rw [Rep] at hrep
  subst hrep
  obtain ⟨i0, hi, hz0, hz1, hz2⟩ := info_parts info8
  have hl : o.length + 4 ≤ 139000000000000 := by
    have : (cJ J.null).length = 4 := rfl
    rw [cnt] at hlim
    omega
  have a0 := ta00
  go_enter Tryz.func68, Tryz.ntmps68
  go_wp2_with (at_builtin; refine Lib.wpList_append_own_string _ rfl _ _ 124 9 rfl B 5 i0 Tryz.underlying124 Tryz.underlying9 hi hz0 hz1 hz2 _ _ _ rfl (World.ownsRow.alloc hr _) ⟨#[110, 117, 108, 108]⟩ rfl (by unfold maxLen; show o.length + 4 ≤ _; omega) (by show o.length + 4 ≤ _; omega) (by simp; omega) ?_; intro v' w1 y1 y2 _)
  obtain ⟨z1, z2⟩ := app_str ((Wr.refl B w).alloc hB _) (by simp; omega) (World.ownsRow.alloc hr _) y1 y2
  have Z := hide (And.intro z1 z2)
  clear z1 z2 y1 y2
  go_wp2
  go_ret
  exact ⟨_, rfl, Z.out.1, Z.out.2⟩
set_option maxRecDepth 20000 in
theorem app_bool (W : World) (b : Bool) : AppC W (.bool b) := by
  intro B w v o F vv M hW hWB hr hB hrep hM hlim
  rw [Rep] at hrep
  subst hrep
  rw [cnt] at hlim
  have a0 := ta10 b
  have a1 := ta11 b
  go_enter Tryz.func68, Tryz.ntmps68
  go_wp2_with fail
  refine (appendBool_c B w v o b hr hB (by omega)).mono ?_
  rintro e w2 ⟨v', rfl, z1, z2⟩
  have Z := hide (And.intro z1 z2)
  clear z1 z2
  go_wp2
  go_ret
  exact ⟨_, rfl, Z.out.1, Z.out.2⟩
set_option maxRecDepth 20000 in
theorem app_num (W : World) (hG : GL W) (n : Int) (hn : n.natAbs ≤ maxNum) : AppC W (.num n) := by
  intro B w v o F vv M hW hWB hr hB hrep hM hlim
  rw [Rep] at hrep
  subst hrep
  have hn' : -9007199254740991 ≤ n ∧ n ≤ 9007199254740991 := by unfold maxNum at hn; omega
  obtain ⟨hn1, hn2⟩ := hn'
  rw [cnt] at hlim
  have htab : Lib.TabBelow Tryz.prog B w "internal/strconv.uint64pow10" .u64 Lib.pow10Tab := fun w' h' => hG.pow w' (hW.trans (h'.mono hWB))
  have a0 := ta20 n
  have a1 := ta21 n
  have a2 := ta22 n
  go_enter Tryz.func68, Tryz.ntmps68
  go_wp2_with fail
  refine (Tryz.strconv_AppendInt_10 B o.length n (by omega) (by omega) v (Lib.byteCells o) w hr hB (by omega) htab).mono ?_
  rintro e w2 ⟨v', rfl, z1, z2, z3⟩
  have Z : Hid (Row B w2 v' (o ++ cJ (.num n)) ∧ Wr B w w2) := by
    refine ⟨?_, z2, z3⟩
    unfold Row
    rw [cJ, ← itoa_c, byteCells_app, List.length_append]
    exact z1
  clear z1 z2 z3
  go_wp2
  go_ret
  exact ⟨_, rfl, Z.out.1, Z.out.2⟩
set_option maxRecDepth 20000 in
theorem app_strv (W : World) (s : Bs) : AppC W (.str s) := by
  intro B w v o F vv M hW hWB hr hB hrep hM hlim
  rw [Rep] at hrep
  subst hrep
  rw [cnt] at hlim
  have a0 := ta30 ⟨s.toArray⟩
  have a1 := ta31 ⟨s.toArray⟩
  have a2 := ta32 ⟨s.toArray⟩
  have a3 := ta33 ⟨s.toArray⟩
  go_enter Tryz.func68, Tryz.ntmps68
  go_wp2_with fail
  refine (appendString_c B w v o ⟨s.toArray⟩ hr hB (by rw [cJ] at hM; show o.length + (cStr s).length ≤ _; omega)).mono ?_
  rintro e w2 ⟨v', rfl, z1, z2⟩
  have Z : Hid (Row B w2 v' (o ++ cJ (.str s)) ∧ Wr B w w2) := And.intro (by rw [cJ]; exact z1) z2
  clear z1 z2
  go_wp2
  go_ret
  exact ⟨_, rfl, Z.out.1, Z.out.2⟩
set_option maxRecDepth 20000 in
theorem app_arr (W : World) (l : List J) (hl : ∀ x ∈ l, AppC W x) : AppC W (.arr l) := by
  intro B w v o F vv M hW hWB hr hB hrep hM hlim
  rw [Rep] at hrep
  obtain ⟨sv, vs, rfl, h1, h2, h3⟩ := hrep
  rw [cnt] at hlim
  have a0 := ta40 sv
  have a1 := ta41 sv
  have a2 := ta42 sv
  have a3 := ta43 sv
  have a4 := ta44 sv
  go_enter Tryz.func68, Tryz.ntmps68
  go_wp2_with fail
  refine (appendArray_c W l hl B w v o F sv vs M hW hWB hr hB h1 h3 (fun x hx => Nat.le_trans (elem_len hx) hM) hlim).mono ?_
  rintro e w2 ⟨v', rfl, z1, z2⟩
  have Z := hide (And.intro z1 z2)
  clear z1 z2
  go_wp2
  go_ret
  exact ⟨_, rfl, Z.out.1, Z.out.2⟩
set_option maxRecDepth 20000 in
theorem app_obj (W : World) (l : List (Bs × J)) (hl : ObjC W l) : AppC W (.obj l) := by
  intro B w v o F vv M hW hWB hr hB hrep hM hlim
  rw [Rep] at hrep
  obtain ⟨mb, m, rfl, h1, h2, h3⟩ := hrep
  rw [cnt] at hlim
  have a0 := ta50 (some mb)
  have a1 := ta51 (some mb)
  have a2 := ta52 (some mb)
  have a3 := ta53 (some mb)
  have a4 := ta54 (some mb)
  have a5 := ta55 (some mb)
  go_enter Tryz.func68, Tryz.ntmps68
  go_wp2_with fail
  refine (hl B w v o F mb m M hW hWB hr hB h2 h3 (fun p hp => Nat.le_trans (mem_len hp) hM) hlim).mono ?_
  rintro e w2 ⟨v', rfl, z1, z2⟩
  have Z := hide (And.intro z1 z2)
  clear z1 z2
  go_wp2
  go_ret
  exact ⟨_, rfl, Z.out.1, Z.out.2⟩
end Go.Proofs.YtocligpfmfmihaaGreatDoor

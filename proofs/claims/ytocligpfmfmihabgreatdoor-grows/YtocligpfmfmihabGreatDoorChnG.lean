import Derived.Test.YtocligpfmfmihabGreatDoorErr3
import Derived.Deep.LoopGhost
import Derived.Deep.QuietTactic
namespace Go.Proofs.YtocligpfmfmihabGreatDoor
open Go Go.RowKit Go.Extern.Stop Go.Stop Go.Extern

/-- The kinds of links of a chain of errors. -/
inductive Lk | mem | doc | evt | srv
deriving DecidableEq
def Lk.t : Lk → TypeId
  | .mem => 188
  | .doc => 131
  | .evt => 111
  | .srv => 114
def Lk.bt : Lk → TypeId
  | .mem => 190
  | .doc => 144
  | .evt => 113
  | .srv => 118
def Lk.cs (k : Lk) (s : ByteArray) (ev : Value) : Array Value := match k with
  | .mem => #[.string s, ev]
  | .doc => #[ev]
  | .evt => #[ev]
  | .srv => #[.string s, ev]
/-- A chain of errors down to one of errors.New's. -/
inductive Chn (w : World) (a : Addr) : List (Lk × ByteArray) → Value → Prop
  | nil : Chn w a [] (errV a)
  | cons (k : Lk) (ks : List (Lk × ByteArray)) (b : Nat) (s : ByteArray) (ev : Value) : w.heap[b]? = some (.cells (k.cs s ev) k.bt) → Chn w a ks ev → Chn w a ((k, s) :: ks) (.iface k.t (.pointer (some ⟨b, 0, none⟩)))
theorem Chn.iface {w : World} {a : Addr} {ks : List (Lk × ByteArray)} {ev : Value} (h : Chn w a ks ev) : ∃ t u, ev = .iface t u := by
  cases h with
  | nil => exact ⟨_, _, rfl⟩
  | cons k ks b s ev h _ => exact ⟨_, _, rfl⟩
theorem Chn.up {w w' : World} {a : Addr} {ks : List (Lk × ByteArray)} {ev : Value} (h : Chn w a ks ev) (hk : ∀ (k : Nat) (c : Array Value) (t : TypeId), w.heap[k]? = some (.cells c t) → t = 190 ∨ t = 144 ∨ t = 113 ∨ t = 118 → w'.heap[k]? = some (.cells c t)) : Chn w' a ks ev := by
  induction h with
  | nil => exact .nil
  | cons k ks b s ev h _ ih => exact .cons k ks b s ev (hk _ _ _ h (by cases k <;> simp [Lk.bt])) ih
theorem Chn.kp {w w' : World} {a : Addr} {ks : List (Lk × ByteArray)} {ev : Value} (h : Chn w a ks ev) (hk : Kp (fun _ => False) w w') : Chn w' a ks ev := h.up (fun k _ _ h _ => (hk.block k (lt_heap h) (by simp)).trans h)
theorem noIs_mem (v : Value) (xT : TypeId) (w : World) : (Instr.typeAssert (.iface 188 v) xT 254 true).run Tryz.prog w = .ok (.tuple #[.nilIface, .bool false]) w := run_typeAssert_lacksB Tryz.underlying254 (by kernel_rfl) (by kernel_rfl) v xT w
theorem noAs_mem (v : Value) (xT : TypeId) (w : World) : (Instr.typeAssert (.iface 188 v) xT 241 true).run Tryz.prog w = .ok (.tuple #[.nilIface, .bool false]) w := run_typeAssert_lacksB Tryz.underlying241 (by kernel_rfl) (by kernel_rfl) v xT w
theorem hasUnwrap_mem (v : Value) (xT : TypeId) (w : World) : (Instr.typeAssert (.iface 188 v) xT 244 true).run Tryz.prog w = .ok (.tuple #[.iface 188 v, .bool true]) w := run_typeAssert_hasB Tryz.underlying244 (by kernel_rfl) v xT w
theorem methodUnwrap_mem (v : Value) (w : World) : (Go.method 481 188 v "Unwrap").run Tryz.prog w = .ok (266, v) w := by kernel_rfl
theorem noIs_doc (v : Value) (xT : TypeId) (w : World) : (Instr.typeAssert (.iface 131 v) xT 254 true).run Tryz.prog w = .ok (.tuple #[.nilIface, .bool false]) w := run_typeAssert_lacksB Tryz.underlying254 (by kernel_rfl) (by kernel_rfl) v xT w
theorem noAs_doc (v : Value) (xT : TypeId) (w : World) : (Instr.typeAssert (.iface 131 v) xT 241 true).run Tryz.prog w = .ok (.tuple #[.nilIface, .bool false]) w := run_typeAssert_lacksB Tryz.underlying241 (by kernel_rfl) (by kernel_rfl) v xT w
theorem hasUnwrap_doc (v : Value) (xT : TypeId) (w : World) : (Instr.typeAssert (.iface 131 v) xT 244 true).run Tryz.prog w = .ok (.tuple #[.iface 131 v, .bool true]) w := run_typeAssert_hasB Tryz.underlying244 (by kernel_rfl) v xT w
theorem methodUnwrap_doc (v : Value) (w : World) : (Go.method 481 131 v "Unwrap").run Tryz.prog w = .ok (260, v) w := by kernel_rfl
theorem noIs_evt (v : Value) (xT : TypeId) (w : World) : (Instr.typeAssert (.iface 111 v) xT 254 true).run Tryz.prog w = .ok (.tuple #[.nilIface, .bool false]) w := run_typeAssert_lacksB Tryz.underlying254 (by kernel_rfl) (by kernel_rfl) v xT w
theorem noAs_evt (v : Value) (xT : TypeId) (w : World) : (Instr.typeAssert (.iface 111 v) xT 241 true).run Tryz.prog w = .ok (.tuple #[.nilIface, .bool false]) w := run_typeAssert_lacksB Tryz.underlying241 (by kernel_rfl) (by kernel_rfl) v xT w
theorem hasUnwrap_evt (v : Value) (xT : TypeId) (w : World) : (Instr.typeAssert (.iface 111 v) xT 244 true).run Tryz.prog w = .ok (.tuple #[.iface 111 v, .bool true]) w := run_typeAssert_hasB Tryz.underlying244 (by kernel_rfl) v xT w
theorem methodUnwrap_evt (v : Value) (w : World) : (Go.method 481 111 v "Unwrap").run Tryz.prog w = .ok (254, v) w := by kernel_rfl
theorem noIs_srv (v : Value) (xT : TypeId) (w : World) : (Instr.typeAssert (.iface 114 v) xT 254 true).run Tryz.prog w = .ok (.tuple #[.nilIface, .bool false]) w := run_typeAssert_lacksB Tryz.underlying254 (by kernel_rfl) (by kernel_rfl) v xT w
theorem noAs_srv (v : Value) (xT : TypeId) (w : World) : (Instr.typeAssert (.iface 114 v) xT 241 true).run Tryz.prog w = .ok (.tuple #[.nilIface, .bool false]) w := run_typeAssert_lacksB Tryz.underlying241 (by kernel_rfl) (by kernel_rfl) v xT w
theorem hasUnwrap_srv (v : Value) (xT : TypeId) (w : World) : (Instr.typeAssert (.iface 114 v) xT 244 true).run Tryz.prog w = .ok (.tuple #[.iface 114 v, .bool true]) w := run_typeAssert_hasB Tryz.underlying244 (by kernel_rfl) v xT w
theorem methodUnwrap_srv (v : Value) (w : World) : (Go.method 481 114 v "Unwrap").run Tryz.prog w = .ok (256, v) w := by kernel_rfl
theorem callTypeOf_of (t : TypeId) (v : Value) (w : World) (h : (Extern.ReflectliteType.typeOf #[.iface t v]).run Tryz.prog w = .ok (.iface 237 (.agg #[.pointer (some ⟨31, t, none⟩)])) w) : (callFunc 81 #[.iface t v]).run Tryz.prog w = .ok (.value (.iface 237 (.agg #[.pointer (some ⟨31, t, none⟩)]))) w := by
  rw [@run_callFunc_extern Tryz.prog 81 _ Extern.ReflectliteType.typeOf Tryz.func81 (by kernel_rfl) (by kernel_rfl) (by kernel_rfl) (by kernel_rfl), h]
  rfl
theorem callTypeOf_mem (v : Value) (w : World) : (callFunc 81 #[.iface 188 v]).run Tryz.prog w = .ok (.value (.iface 237 (.agg #[.pointer (some ⟨31, 188, none⟩)]))) w := callTypeOf_of 188 v w (by kernel_rfl)
theorem callTypeOf_doc (v : Value) (w : World) : (callFunc 81 #[.iface 131 v]).run Tryz.prog w = .ok (.value (.iface 237 (.agg #[.pointer (some ⟨31, 131, none⟩)]))) w := callTypeOf_of 131 v w (by kernel_rfl)
theorem callTypeOf_evt (v : Value) (w : World) : (callFunc 81 #[.iface 111 v]).run Tryz.prog w = .ok (.value (.iface 237 (.agg #[.pointer (some ⟨31, 111, none⟩)]))) w := callTypeOf_of 111 v w (by kernel_rfl)
theorem callTypeOf_srv (v : Value) (w : World) : (callFunc 81 #[.iface 114 v]).run Tryz.prog w = .ok (.value (.iface 237 (.agg #[.pointer (some ⟨31, 114, none⟩)]))) w := callTypeOf_of 114 v w (by kernel_rfl)
def Lk.off : Lk → Nat | .mem => 1 | .doc => 0 | .evt => 0 | .srv => 1
theorem chn_cell {w : World} {k : Lk} {b : Nat} {s : ByteArray} {ev : Value} (h : w.heap[b]? = some (.cells (k.cs s ev) k.bt)) : w.cell? ⟨b, k.off, none⟩ = some ev := by
  cases k <;> simp [World.cell?, h, Lk.cs, Lk.off]
set_option maxRecDepth 20000 in
set_option maxHeartbeats 4000000 in
/-- errors.is on a chain: the loop. -/
theorem is_ne_loop (w : World) (a b : Addr) (ks : List (Lk × ByteArray)) (ev : Value) (hch : Chn w a ks ev) (hne : a ≠ b) (ca cb : Array Value) (ta tb : TypeId) (ha : w.heap[a.block]? = some (.cells ca ta (0, 0))) (hb : w.heap[b.block]? = some (.cells cb tb (0, 0))) :
    Calls Tryz.prog 82 #[ev, errV b, .bool true] w fun e w' => e = .returned (.bool false) ∧ w' = w := by
  obtain ⟨i, hi, hcmp⟩ := Option.map_eq_some_iff.1 isComp
  obtain ⟨j, hj, hjs⟩ := Option.map_eq_some_iff.1 isSize
  have nE := noIsE
  have uE := noUnwrapE
  have vE := noUnwrapsE
  have heq := run_eql_iface_ptr_other (P := Tryz.prog) (a := a) (b := b) w Tryz.underlying58 Tryz.underlying350 hi hcmp hj (by rw [hjs]; decide) hne ha hb
  clear ha hb
  have HC := hide hch
  unfold errV
  obtain ⟨t0, u0, rfl⟩ := hch.iface
  clear hch
  go_enter Tryz.func82, Tryz.ntmps82
  go_wp2
  go_loopg [0] ks.length (fun gg v wr => ∃ ks', gg = ks'.length ∧ Chn w a ks' v ∧ wr = w)
  case atStart => exact ⟨ks, rfl, HC.out, rfl⟩
  case round =>
    obtain ⟨ks', hgg, hc, rfl⟩ := hrel
    cases hc with
    | nil =>
      clear hgg HC
      unfold errV
      go_wp2
      go_ret
      exact ⟨rfl, rfl⟩
    | cons k ks2 b2 s ev2 hb2 hc2 =>
      have hcell := chn_cell hb2
      have HG := hide hgg
      have HC2 := hide hc2
      obtain ⟨t2, u2, rfl⟩ := hc2.iface
      clear hgg hc2 hb2 HC
      cases k with
      | mem =>
        have nW := noIs_mem
        have uW := hasUnwrap_mem
        have mU := methodUnwrap_mem
        have hty := run_eql_iface_types (P := Tryz.prog) 188 350 (.pointer (some ⟨b2, 0, none⟩)) (.pointer (some b)) Tryz.underlying58 (by decide) wr
        simp only [Lk.off] at hcell
        simp only [Lk.t]
        go_wp2
        go_roundg ks2.length
        case measure => rw [HG.out]; exact Nat.lt_succ_self _
        case rel => exact ⟨ks2, rfl, HC2.out, rfl⟩
      | doc =>
        have nW := noIs_doc
        have uW := hasUnwrap_doc
        have mU := methodUnwrap_doc
        have hty := run_eql_iface_types (P := Tryz.prog) 131 350 (.pointer (some ⟨b2, 0, none⟩)) (.pointer (some b)) Tryz.underlying58 (by decide) wr
        simp only [Lk.off] at hcell
        simp only [Lk.t]
        go_wp2
        go_roundg ks2.length
        case measure => rw [HG.out]; exact Nat.lt_succ_self _
        case rel => exact ⟨ks2, rfl, HC2.out, rfl⟩
      | evt =>
        have nW := noIs_evt
        have uW := hasUnwrap_evt
        have mU := methodUnwrap_evt
        have hty := run_eql_iface_types (P := Tryz.prog) 111 350 (.pointer (some ⟨b2, 0, none⟩)) (.pointer (some b)) Tryz.underlying58 (by decide) wr
        simp only [Lk.off] at hcell
        simp only [Lk.t]
        go_wp2
        go_roundg ks2.length
        case measure => rw [HG.out]; exact Nat.lt_succ_self _
        case rel => exact ⟨ks2, rfl, HC2.out, rfl⟩
      | srv =>
        have nW := noIs_srv
        have uW := hasUnwrap_srv
        have mU := methodUnwrap_srv
        have hty := run_eql_iface_types (P := Tryz.prog) 114 350 (.pointer (some ⟨b2, 0, none⟩)) (.pointer (some b)) Tryz.underlying58 (by decide) wr
        simp only [Lk.off] at hcell
        simp only [Lk.t]
        go_wp2
        go_roundg ks2.length
        case measure => rw [HG.out]; exact Nat.lt_succ_self _
        case rel => exact ⟨ks2, rfl, HC2.out, rfl⟩
set_option maxRecDepth 20000 in
set_option maxHeartbeats 4000000 in
/-- errors.is on a chain: the loop. -/
theorem is_eq_loop (w : World) (a : Addr) (ks : List (Lk × ByteArray)) (ev : Value) (hch : Chn w a ks ev) :
    Calls Tryz.prog 82 #[ev, errV a, .bool true] w fun e w' => e = .returned (.bool true) ∧ w' = w := by
  obtain ⟨i, hi, hcmp⟩ := Option.map_eq_some_iff.1 isComp
  obtain ⟨j, hj, hjs⟩ := Option.map_eq_some_iff.1 isSize
  have nE := noIsE
  have uE := noUnwrapE
  have vE := noUnwrapsE
  have heq := run_eql_iface_ptr_same (P := Tryz.prog) w a Tryz.underlying58 Tryz.underlying350 hi hcmp hj
  have HC := hide hch
  unfold errV
  obtain ⟨t0, u0, rfl⟩ := hch.iface
  clear hch
  go_enter Tryz.func82, Tryz.ntmps82
  go_wp2
  go_loopg [0] ks.length (fun gg v wr => ∃ ks', gg = ks'.length ∧ Chn w a ks' v ∧ wr = w)
  case atStart => exact ⟨ks, rfl, HC.out, rfl⟩
  case round =>
    obtain ⟨ks', hgg, hc, rfl⟩ := hrel
    cases hc with
    | nil =>
      clear hgg HC
      unfold errV
      go_wp2
      go_ret
      exact ⟨rfl, rfl⟩
    | cons k ks2 b2 s ev2 hb2 hc2 =>
      have hcell := chn_cell hb2
      have HG := hide hgg
      have HC2 := hide hc2
      obtain ⟨t2, u2, rfl⟩ := hc2.iface
      clear hgg hc2 hb2 HC
      cases k with
      | mem =>
        have nW := noIs_mem
        have uW := hasUnwrap_mem
        have mU := methodUnwrap_mem
        have hty := run_eql_iface_types (P := Tryz.prog) 188 350 (.pointer (some ⟨b2, 0, none⟩)) (.pointer (some a)) Tryz.underlying58 (by decide) wr
        simp only [Lk.off] at hcell
        simp only [Lk.t]
        go_wp2
        go_roundg ks2.length
        case measure => rw [HG.out]; exact Nat.lt_succ_self _
        case rel => exact ⟨ks2, rfl, HC2.out, rfl⟩
      | doc =>
        have nW := noIs_doc
        have uW := hasUnwrap_doc
        have mU := methodUnwrap_doc
        have hty := run_eql_iface_types (P := Tryz.prog) 131 350 (.pointer (some ⟨b2, 0, none⟩)) (.pointer (some a)) Tryz.underlying58 (by decide) wr
        simp only [Lk.off] at hcell
        simp only [Lk.t]
        go_wp2
        go_roundg ks2.length
        case measure => rw [HG.out]; exact Nat.lt_succ_self _
        case rel => exact ⟨ks2, rfl, HC2.out, rfl⟩
      | evt =>
        have nW := noIs_evt
        have uW := hasUnwrap_evt
        have mU := methodUnwrap_evt
        have hty := run_eql_iface_types (P := Tryz.prog) 111 350 (.pointer (some ⟨b2, 0, none⟩)) (.pointer (some a)) Tryz.underlying58 (by decide) wr
        simp only [Lk.off] at hcell
        simp only [Lk.t]
        go_wp2
        go_roundg ks2.length
        case measure => rw [HG.out]; exact Nat.lt_succ_self _
        case rel => exact ⟨ks2, rfl, HC2.out, rfl⟩
      | srv =>
        have nW := noIs_srv
        have uW := hasUnwrap_srv
        have mU := methodUnwrap_srv
        have hty := run_eql_iface_types (P := Tryz.prog) 114 350 (.pointer (some ⟨b2, 0, none⟩)) (.pointer (some a)) Tryz.underlying58 (by decide) wr
        simp only [Lk.off] at hcell
        simp only [Lk.t]
        go_wp2
        go_roundg ks2.length
        case measure => rw [HG.out]; exact Nat.lt_succ_self _
        case rel => exact ⟨ks2, rfl, HC2.out, rfl⟩
set_option maxRecDepth 20000 in
/-- errors.Is on a chain. -/
theorem is_ne (w : World) (a b : Addr) (ks : List (Lk × ByteArray)) (ev : Value) (hch : Chn w a ks ev) (hne : a ≠ b) (ca cb : Array Value) (ta tb : TypeId) (ha : w.heap[a.block]? = some (.cells ca ta (0, 0))) (hb : w.heap[b.block]? = some (.cells cb tb (0, 0))) :
    Calls Tryz.prog 54 #[ev, errV b] w fun e w' => e = .returned (.bool false) ∧ w' = w := by
  have HL := hide (is_ne_loop w a b ks ev hch hne ca cb ta tb ha hb)
  have h8 := callTypeOf
  have h32 := callComparable
  have mR := isMethodComparable
  obtain ⟨t0, u0, rfl⟩ := hch.iface
  clear hch
  unfold errV at *
  go_enter Tryz.func54, Tryz.ntmps54
  go_wp2_with fail
  refine HL.out.mono ?_
  rintro e w' ⟨rfl, rfl⟩
  go_wp2
  go_ret
  exact ⟨rfl, rfl⟩
set_option maxRecDepth 20000 in
/-- errors.Is on a chain. -/
theorem is_eq (w : World) (a : Addr) (ks : List (Lk × ByteArray)) (ev : Value) (hch : Chn w a ks ev) :
    Calls Tryz.prog 54 #[ev, errV a] w fun e w' => e = .returned (.bool true) ∧ w' = w := by
  have HL := hide (is_eq_loop w a ks ev hch)
  have h8 := callTypeOf
  have h32 := callComparable
  have mR := isMethodComparable
  obtain ⟨t0, u0, rfl⟩ := hch.iface
  clear hch
  unfold errV at *
  go_enter Tryz.func54, Tryz.ntmps54
  go_wp2_with fail
  refine HL.out.mono ?_
  rintro e w' ⟨rfl, rfl⟩
  go_wp2
  go_ret
  exact ⟨rfl, rfl⟩
end Go.Proofs.YtocligpfmfmihabGreatDoor
namespace Go.Proofs.YtocligpfmfmihabGreatDoor
open Go Go.RowKit Go.Extern.Stop Go.Stop Go.Extern
/-- What errors.As comes to. -/
def AsR (T : Lk) (pt : TypeId) (w : World) (tb : Nat) (o : Option (Lk × ByteArray)) (e : Ending) (w' : World) : Prop := Kp (fun k => k = tb) w w' ∧ match o with
  | none => e = .returned (.bool false)
  | some p => e = .returned (.bool true) ∧ ∃ b ev, w'.heap[tb]? = some (.cells #[.pointer (some ⟨b, 0, none⟩)] pt) ∧ w'.heap[b]? = some (.cells (T.cs p.2 ev) T.bt)
theorem AsR.ret {T : Lk} {pt : TypeId} {w w' : World} {tb : Nat} {o : Option (Lk × ByteArray)} {e : Ending} (h : AsR T pt w tb o e w') : ∃ b, e = .returned (.bool b) := by
  cases o with
  | none => exact ⟨_, h.2⟩
  | some p => exact ⟨_, h.2.1⟩
theorem AsR.before {T : Lk} {pt : TypeId} {w0 w w' : World} {tb : Nat} {o : Option (Lk × ByteArray)} {e : Ending} (h : AsR T pt w tb o e w') (hk : Kp (fun _ => False) w0 w) : AsR T pt w0 tb o e w' :=
  ⟨(hk.mono (fun _ _ h => h.elim)).trans h.1, h.2⟩
theorem AsR.none {T : Lk} {pt : TypeId} {w w' : World} {tb : Nat} {o : Option (Lk × ByteArray)} (hk : Kp (fun k => k = tb) w w') (ho : o = Option.none) : AsR T pt w tb o (.returned (.bool false)) w' := by
  rw [ho]
  exact ⟨hk, rfl⟩
theorem set_alloc0 {X : World} {q : Nat} {v : Value} {o : Obj} (h : q < X.heap.size) : (X.setCell ⟨q, 0, Option.none⟩ v).alloc o = (X.alloc o).setCell ⟨q, 0, Option.none⟩ v := by
  unfold World.setCell World.alloc
  congr 1
  apply Array.ext_getElem?
  intro j
  simp only [Array.getElem?_push, Array.getElem?_modify, Array.size_modify]
  by_cases hj : j = X.heap.size
  · subst hj
    have : q ≠ X.heap.size := by omega
    simp [this]
  · simp [hj]
theorem AsR.hit {T : Lk} {pt U : TypeId} {w w1 : World} {tb b : Nat} {old : Value} {o : Option (Lk × ByteArray)} {s : ByteArray} {ev : Value} {ks : List (Lk × ByteArray)} (hk : Kp (fun k => k = tb) w w1) (ho : ((T, s) :: ks).find? (fun p => p.1 == T) = o) (hb : w1.heap[b]? = some (.cells (T.cs s ev) T.bt)) (ht : (w1.alloc (.cells #[.pointer (some ⟨b, 0, Option.none⟩)] U)).heap[tb]? = some (.cells #[old] pt)) (hne : T.bt ≠ pt) (_ : pt = U) : AsR T pt w tb o (.returned (.bool true)) ((w1.alloc (.cells #[.pointer (some ⟨b, 0, Option.none⟩)] U)).setCell ⟨tb, 0, Option.none⟩ (.pointer (some ⟨b, 0, Option.none⟩))) := by
  have e1 : o = some (T, s) := by rw [← ho]; simp
  have hb1 : (w1.alloc (.cells #[.pointer (some ⟨b, 0, Option.none⟩)] U)).heap[b]? = some (.cells (T.cs s ev) T.bt) := by rw [Below.heap_alloc _ _ _ (lt_heap hb)]; exact hb
  have hbt : b ≠ tb := by
    rintro rfl
    rw [hb1] at ht
    injection ht with ht
    injection ht with _ h2 _
    exact hne h2
  rw [e1]
  refine ⟨(hk.alloc _).setCell (fun _ => rfl) _, rfl, b, ev, one_set ht _, ?_⟩
  rw [heap_set_other (by exact hbt)]
  exact hb1
end Go.Proofs.YtocligpfmfmihabGreatDoor

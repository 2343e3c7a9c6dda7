import Derived.Test.YtocligpfmfmihaaGreatDoorErr3
import Derived.Deep.LoopGhost
import Derived.Deep.QuietTactic
namespace Go.Proofs.YtocligpfmfmihaaGreatDoor
open Go Go.RowKit Go.Extern.Stop Go.Stop Go.Extern

/-- The kinds of links of a chain of errors. -/
inductive Lk | mem | doc | evt | srv
deriving DecidableEq
def Lk.t : Lk → TypeId
  | .mem => 250
  | .doc => 117
  | .evt => 118
  | .srv => 188
def Lk.bt : Lk → TypeId
  | .mem => 252
  | .doc => 146
  | .evt => 187
  | .srv => 191
def Lk.cs (k : Lk) (s : ByteArray) (ev : Value) : Array Value := match k with
  | .mem => #[.string s, ev]
  | .doc => #[ev]
  | .evt => #[ev]
  | .srv => #[.string s, ev]
/-- A chain of errors down to one of errors.New's. -/
inductive Chn (w : World) (a : Addr) : List (Lk × ByteArray) → Value → Prop
  | nil : Chn w a [] (errV a)
  | cons (k : Lk) (ks : List (Lk × ByteArray)) (b : Nat) (s : ByteArray) (ev : Value) : w.heap[b]? = some (.cells (k.cs s ev) k.bt) → Chn w a ks ev → Chn w a ((k, s) :: ks) (.iface k.t (.pointer (some ⟨b, 0, none⟩)))
theorem Chn.iface {w : World} {a : Addr} {ks : List (Lk × ByteArray)} {ev : Value} (h : Chn w a ks ev) : ∃ t u, ev = .iface t u := by
  cases h with
  | nil => exact ⟨_, _, rfl⟩
  | cons k ks b s ev h _ => exact ⟨_, _, rfl⟩
theorem Chn.up {w w' : World} {a : Addr} {ks : List (Lk × ByteArray)} {ev : Value} (h : Chn w a ks ev) (hk : ∀ (k : Nat) (c : Array Value) (t : TypeId), w.heap[k]? = some (.cells c t) → t = 252 ∨ t = 146 ∨ t = 187 ∨ t = 191 → w'.heap[k]? = some (.cells c t)) : Chn w' a ks ev := by
  induction h with
  | nil => exact .nil
  | cons k ks b s ev h _ ih => exact .cons k ks b s ev (hk _ _ _ h (by cases k <;> simp [Lk.bt])) ih
theorem Chn.kp {w w' : World} {a : Addr} {ks : List (Lk × ByteArray)} {ev : Value} (h : Chn w a ks ev) (hk : Kp (fun _ => False) w w') : Chn w' a ks ev := h.up (fun k _ _ h _ => (hk.block k (lt_heap h) (by simp)).trans h)
theorem noIs_mem (v : Value) (xT : TypeId) (w : World) : (Instr.typeAssert (.iface 250 v) xT 291 true).run Tryz.prog w = .ok (.tuple #[.nilIface, .bool false]) w := run_typeAssert_lacksB Tryz.underlying291 (by kernel_rfl) (by kernel_rfl) v xT w
theorem noAs_mem (v : Value) (xT : TypeId) (w : World) : (Instr.typeAssert (.iface 250 v) xT 301 true).run Tryz.prog w = .ok (.tuple #[.nilIface, .bool false]) w := run_typeAssert_lacksB Tryz.underlying301 (by kernel_rfl) (by kernel_rfl) v xT w
theorem hasUnwrap_mem (v : Value) (xT : TypeId) (w : World) : (Instr.typeAssert (.iface 250 v) xT 294 true).run Tryz.prog w = .ok (.tuple #[.iface 250 v, .bool true]) w := run_typeAssert_hasB Tryz.underlying294 (by kernel_rfl) v xT w
theorem methodUnwrap_mem (v : Value) (w : World) : (Go.method 546 250 v "Unwrap").run Tryz.prog w = .ok (338, v) w := by kernel_rfl
theorem noIs_doc (v : Value) (xT : TypeId) (w : World) : (Instr.typeAssert (.iface 117 v) xT 291 true).run Tryz.prog w = .ok (.tuple #[.nilIface, .bool false]) w := run_typeAssert_lacksB Tryz.underlying291 (by kernel_rfl) (by kernel_rfl) v xT w
theorem noAs_doc (v : Value) (xT : TypeId) (w : World) : (Instr.typeAssert (.iface 117 v) xT 301 true).run Tryz.prog w = .ok (.tuple #[.nilIface, .bool false]) w := run_typeAssert_lacksB Tryz.underlying301 (by kernel_rfl) (by kernel_rfl) v xT w
theorem hasUnwrap_doc (v : Value) (xT : TypeId) (w : World) : (Instr.typeAssert (.iface 117 v) xT 294 true).run Tryz.prog w = .ok (.tuple #[.iface 117 v, .bool true]) w := run_typeAssert_hasB Tryz.underlying294 (by kernel_rfl) v xT w
theorem methodUnwrap_doc (v : Value) (w : World) : (Go.method 546 117 v "Unwrap").run Tryz.prog w = .ok (324, v) w := by kernel_rfl
theorem noIs_evt (v : Value) (xT : TypeId) (w : World) : (Instr.typeAssert (.iface 118 v) xT 291 true).run Tryz.prog w = .ok (.tuple #[.nilIface, .bool false]) w := run_typeAssert_lacksB Tryz.underlying291 (by kernel_rfl) (by kernel_rfl) v xT w
theorem noAs_evt (v : Value) (xT : TypeId) (w : World) : (Instr.typeAssert (.iface 118 v) xT 301 true).run Tryz.prog w = .ok (.tuple #[.nilIface, .bool false]) w := run_typeAssert_lacksB Tryz.underlying301 (by kernel_rfl) (by kernel_rfl) v xT w
theorem hasUnwrap_evt (v : Value) (xT : TypeId) (w : World) : (Instr.typeAssert (.iface 118 v) xT 294 true).run Tryz.prog w = .ok (.tuple #[.iface 118 v, .bool true]) w := run_typeAssert_hasB Tryz.underlying294 (by kernel_rfl) v xT w
theorem methodUnwrap_evt (v : Value) (w : World) : (Go.method 546 118 v "Unwrap").run Tryz.prog w = .ok (326, v) w := by kernel_rfl
theorem noIs_srv (v : Value) (xT : TypeId) (w : World) : (Instr.typeAssert (.iface 188 v) xT 291 true).run Tryz.prog w = .ok (.tuple #[.nilIface, .bool false]) w := run_typeAssert_lacksB Tryz.underlying291 (by kernel_rfl) (by kernel_rfl) v xT w
theorem noAs_srv (v : Value) (xT : TypeId) (w : World) : (Instr.typeAssert (.iface 188 v) xT 301 true).run Tryz.prog w = .ok (.tuple #[.nilIface, .bool false]) w := run_typeAssert_lacksB Tryz.underlying301 (by kernel_rfl) (by kernel_rfl) v xT w
theorem hasUnwrap_srv (v : Value) (xT : TypeId) (w : World) : (Instr.typeAssert (.iface 188 v) xT 294 true).run Tryz.prog w = .ok (.tuple #[.iface 188 v, .bool true]) w := run_typeAssert_hasB Tryz.underlying294 (by kernel_rfl) v xT w
theorem methodUnwrap_srv (v : Value) (w : World) : (Go.method 546 188 v "Unwrap").run Tryz.prog w = .ok (329, v) w := by kernel_rfl
theorem callTypeOf_of (t : TypeId) (v : Value) (w : World) (h : (Extern.ReflectliteType.typeOf #[.iface t v]).run Tryz.prog w = .ok (.iface 289 (.agg #[.pointer (some ⟨31, t, none⟩)])) w) : (callFunc 112 #[.iface t v]).run Tryz.prog w = .ok (.value (.iface 289 (.agg #[.pointer (some ⟨31, t, none⟩)]))) w := by
  rw [@run_callFunc_extern Tryz.prog 112 _ Extern.ReflectliteType.typeOf Tryz.func112 (by kernel_rfl) (by kernel_rfl) (by kernel_rfl) (by kernel_rfl), h]
  rfl
theorem callTypeOf_mem (v : Value) (w : World) : (callFunc 112 #[.iface 250 v]).run Tryz.prog w = .ok (.value (.iface 289 (.agg #[.pointer (some ⟨31, 250, none⟩)]))) w := callTypeOf_of 250 v w (by kernel_rfl)
theorem callTypeOf_doc (v : Value) (w : World) : (callFunc 112 #[.iface 117 v]).run Tryz.prog w = .ok (.value (.iface 289 (.agg #[.pointer (some ⟨31, 117, none⟩)]))) w := callTypeOf_of 117 v w (by kernel_rfl)
theorem callTypeOf_evt (v : Value) (w : World) : (callFunc 112 #[.iface 118 v]).run Tryz.prog w = .ok (.value (.iface 289 (.agg #[.pointer (some ⟨31, 118, none⟩)]))) w := callTypeOf_of 118 v w (by kernel_rfl)
theorem callTypeOf_srv (v : Value) (w : World) : (callFunc 112 #[.iface 188 v]).run Tryz.prog w = .ok (.value (.iface 289 (.agg #[.pointer (some ⟨31, 188, none⟩)]))) w := callTypeOf_of 188 v w (by kernel_rfl)
def Lk.off : Lk → Nat | .mem => 1 | .doc => 0 | .evt => 0 | .srv => 1
theorem chn_cell {w : World} {k : Lk} {b : Nat} {s : ByteArray} {ev : Value} (h : w.heap[b]? = some (.cells (k.cs s ev) k.bt)) : w.cell? ⟨b, k.off, none⟩ = some ev := by
  cases k <;> simp [World.cell?, h, Lk.cs, Lk.off]
set_option maxRecDepth 20000 in
set_option maxHeartbeats 4000000 in
/-- errors.is on a chain: the loop. -/
theorem is_ne_loop (w : World) (a b : Addr) (ks : List (Lk × ByteArray)) (ev : Value) (hch : Chn w a ks ev) (hne : a ≠ b) (ca cb : Array Value) (ta tb : TypeId) (ha : w.heap[a.block]? = some (.cells ca ta (0, 0))) (hb : w.heap[b.block]? = some (.cells cb tb (0, 0))) :
    Calls Tryz.prog 113 #[ev, errV b, .bool true] w fun e w' => e = .returned (.bool false) ∧ w' = w := by
  obtain ⟨i, hi, hcmp⟩ := Option.map_eq_some_iff.1 isComp
  obtain ⟨j, hj, hjs⟩ := Option.map_eq_some_iff.1 isSize
  have nE := noIsE
  have uE := noUnwrapE
  have vE := noUnwrapsE
  have heq := run_eql_iface_ptr_other (P := Tryz.prog) (a := a) (b := b) w Tryz.underlying61 Tryz.underlying415 hi hcmp hj (by rw [hjs]; decide) hne ha hb
  clear ha hb
  have HC := hide hch
  unfold errV
  obtain ⟨t0, u0, rfl⟩ := hch.iface
  clear hch
  go_enter Tryz.func113, Tryz.ntmps113
  go_wp2
  go_loopg [0] ks.length (fun gg v wr => ∃ ks', gg = ks'.length ∧ Chn w a ks' v ∧ wr = w)
  case atStart => exact ⟨ks, rfl, HC.out, rfl⟩
  case round =>
    obtain ⟨ks', hgg, hc, rfl⟩ := hrel
    cases hc with
    | nil =>
      clear hgg HC
      unfold errV
      go_wp2
      go_ret
      exact ⟨rfl, rfl⟩
    | cons k ks2 b2 s ev2 hb2 hc2 =>
      have hcell := chn_cell hb2
      have HG := hide hgg
      have HC2 := hide hc2
      obtain ⟨t2, u2, rfl⟩ := hc2.iface
      clear hgg hc2 hb2 HC
      cases k with
      | mem =>
        have nW := noIs_mem
        have uW := hasUnwrap_mem
        have mU := methodUnwrap_mem
        have hty := run_eql_iface_types (P := Tryz.prog) 250 415 (.pointer (some ⟨b2, 0, none⟩)) (.pointer (some b)) Tryz.underlying61 (by decide) wr
        simp only [Lk.off] at hcell
        simp only [Lk.t]
        go_wp2
        go_roundg ks2.length
        case measure => rw [HG.out]; exact Nat.lt_succ_self _
        case rel => exact ⟨ks2, rfl, HC2.out, rfl⟩
      | doc =>
        have nW := noIs_doc
        have uW := hasUnwrap_doc
        have mU := methodUnwrap_doc
        have hty := run_eql_iface_types (P := Tryz.prog) 117 415 (.pointer (some ⟨b2, 0, none⟩)) (.pointer (some b)) Tryz.underlying61 (by decide) wr
        simp only [Lk.off] at hcell
        simp only [Lk.t]
        go_wp2
        go_roundg ks2.length
        case measure => rw [HG.out]; exact Nat.lt_succ_self _
        case rel => exact ⟨ks2, rfl, HC2.out, rfl⟩
      | evt =>
        have nW := noIs_evt
        have uW := hasUnwrap_evt
        have mU := methodUnwrap_evt
        have hty := run_eql_iface_types (P := Tryz.prog) 118 415 (.pointer (some ⟨b2, 0, none⟩)) (.pointer (some b)) Tryz.underlying61 (by decide) wr
        simp only [Lk.off] at hcell
        simp only [Lk.t]
        go_wp2
        go_roundg ks2.length
        case measure => rw [HG.out]; exact Nat.lt_succ_self _
        case rel => exact ⟨ks2, rfl, HC2.out, rfl⟩
      | srv =>
        have nW := noIs_srv
        have uW := hasUnwrap_srv
        have mU := methodUnwrap_srv
        have hty := run_eql_iface_types (P := Tryz.prog) 188 415 (.pointer (some ⟨b2, 0, none⟩)) (.pointer (some b)) Tryz.underlying61 (by decide) wr
        simp only [Lk.off] at hcell
        simp only [Lk.t]
        go_wp2
        go_roundg ks2.length
        case measure => rw [HG.out]; exact Nat.lt_succ_self _
        case rel => exact ⟨ks2, rfl, HC2.out, rfl⟩
set_option maxRecDepth 20000 in
set_option maxHeartbeats 4000000 in
/-- errors.is on a chain: the loop. -/
theorem is_eq_loop (w : World) (a : Addr) (ks : List (Lk × ByteArray)) (ev : Value) (hch : Chn w a ks ev) :
    Calls Tryz.prog 113 #[ev, errV a, .bool true] w fun e w' => e = .returned (.bool true) ∧ w' = w := by
  obtain ⟨i, hi, hcmp⟩ := Option.map_eq_some_iff.1 isComp
  obtain ⟨j, hj, hjs⟩ := Option.map_eq_some_iff.1 isSize
  have nE := noIsE
  have uE := noUnwrapE
  have vE := noUnwrapsE
  have heq := run_eql_iface_ptr_same (P := Tryz.prog) w a Tryz.underlying61 Tryz.underlying415 hi hcmp hj
  have HC := hide hch
  unfold errV
  obtain ⟨t0, u0, rfl⟩ := hch.iface
  clear hch
  go_enter Tryz.func113, Tryz.ntmps113
  go_wp2
  go_loopg [0] ks.length (fun gg v wr => ∃ ks', gg = ks'.length ∧ Chn w a ks' v ∧ wr = w)
  case atStart => exact ⟨ks, rfl, HC.out, rfl⟩
  case round =>
    obtain ⟨ks', hgg, hc, rfl⟩ := hrel
    cases hc with
    | nil =>
      clear hgg HC
      unfold errV
      go_wp2
      go_ret
      exact ⟨rfl, rfl⟩
    | cons k ks2 b2 s ev2 hb2 hc2 =>
      have hcell := chn_cell hb2
      have HG := hide hgg
      have HC2 := hide hc2
      obtain ⟨t2, u2, rfl⟩ := hc2.iface
      clear hgg hc2 hb2 HC
      cases k with
      | mem =>
        have nW := noIs_mem
        have uW := hasUnwrap_mem
        have mU := methodUnwrap_mem
        have hty := run_eql_iface_types (P := Tryz.prog) 250 415 (.pointer (some ⟨b2, 0, none⟩)) (.pointer (some a)) Tryz.underlying61 (by decide) wr
        simp only [Lk.off] at hcell
        simp only [Lk.t]
        go_wp2
        go_roundg ks2.length
        case measure => rw [HG.out]; exact Nat.lt_succ_self _
        case rel => exact ⟨ks2, rfl, HC2.out, rfl⟩
      | doc =>
        have nW := noIs_doc
        have uW := hasUnwrap_doc
        have mU := methodUnwrap_doc
        have hty := run_eql_iface_types (P := Tryz.prog) 117 415 (.pointer (some ⟨b2, 0, none⟩)) (.pointer (some a)) Tryz.underlying61 (by decide) wr
        simp only [Lk.off] at hcell
        simp only [Lk.t]
        go_wp2
        go_roundg ks2.length
        case measure => rw [HG.out]; exact Nat.lt_succ_self _
        case rel => exact ⟨ks2, rfl, HC2.out, rfl⟩
      | evt =>
        have nW := noIs_evt
        have uW := hasUnwrap_evt
        have mU := methodUnwrap_evt
        have hty := run_eql_iface_types (P := Tryz.prog) 118 415 (.pointer (some ⟨b2, 0, none⟩)) (.pointer (some a)) Tryz.underlying61 (by decide) wr
        simp only [Lk.off] at hcell
        simp only [Lk.t]
        go_wp2
        go_roundg ks2.length
        case measure => rw [HG.out]; exact Nat.lt_succ_self _
        case rel => exact ⟨ks2, rfl, HC2.out, rfl⟩
      | srv =>
        have nW := noIs_srv
        have uW := hasUnwrap_srv
        have mU := methodUnwrap_srv
        have hty := run_eql_iface_types (P := Tryz.prog) 188 415 (.pointer (some ⟨b2, 0, none⟩)) (.pointer (some a)) Tryz.underlying61 (by decide) wr
        simp only [Lk.off] at hcell
        simp only [Lk.t]
        go_wp2
        go_roundg ks2.length
        case measure => rw [HG.out]; exact Nat.lt_succ_self _
        case rel => exact ⟨ks2, rfl, HC2.out, rfl⟩
set_option maxRecDepth 20000 in
/-- errors.Is on a chain. -/
theorem is_ne (w : World) (a b : Addr) (ks : List (Lk × ByteArray)) (ev : Value) (hch : Chn w a ks ev) (hne : a ≠ b) (ca cb : Array Value) (ta tb : TypeId) (ha : w.heap[a.block]? = some (.cells ca ta (0, 0))) (hb : w.heap[b.block]? = some (.cells cb tb (0, 0))) :
    Calls Tryz.prog 66 #[ev, errV b] w fun e w' => e = .returned (.bool false) ∧ w' = w := by
  have HL := hide (is_ne_loop w a b ks ev hch hne ca cb ta tb ha hb)
  have h8 := callTypeOf
  have h32 := callComparable
  have mR := isMethodComparable
  obtain ⟨t0, u0, rfl⟩ := hch.iface
  clear hch
  unfold errV at *
  go_enter Tryz.func66, Tryz.ntmps66
  go_wp2_with fail
  refine HL.out.mono ?_
  rintro e w' ⟨rfl, rfl⟩
  go_wp2
  go_ret
  exact ⟨rfl, rfl⟩
set_option maxRecDepth 20000 in
/-- errors.Is on a chain. -/
theorem is_eq (w : World) (a : Addr) (ks : List (Lk × ByteArray)) (ev : Value) (hch : Chn w a ks ev) :
    Calls Tryz.prog 66 #[ev, errV a] w fun e w' => e = .returned (.bool true) ∧ w' = w := by
  have HL := hide (is_eq_loop w a ks ev hch)
  have h8 := callTypeOf
  have h32 := callComparable
  have mR := isMethodComparable
  obtain ⟨t0, u0, rfl⟩ := hch.iface
  clear hch
  unfold errV at *
  go_enter Tryz.func66, Tryz.ntmps66
  go_wp2_with fail
  refine HL.out.mono ?_
  rintro e w' ⟨rfl, rfl⟩
  go_wp2
  go_ret
  exact ⟨rfl, rfl⟩
end Go.Proofs.YtocligpfmfmihaaGreatDoor
namespace Go.Proofs.YtocligpfmfmihaaGreatDoor
open Go Go.RowKit Go.Extern.Stop Go.Stop Go.Extern
/-- What errors.As comes to. -/
def AsR (T : Lk) (pt : TypeId) (w : World) (tb : Nat) (o : Option (Lk × ByteArray)) (e : Ending) (w' : World) : Prop := Kp (fun k => k = tb) w w' ∧ match o with
  | none => e = .returned (.bool false)
  | some p => e = .returned (.bool true) ∧ ∃ b ev, w'.heap[tb]? = some (.cells #[.pointer (some ⟨b, 0, none⟩)] pt) ∧ w'.heap[b]? = some (.cells (T.cs p.2 ev) T.bt)
theorem AsR.ret {T : Lk} {pt : TypeId} {w w' : World} {tb : Nat} {o : Option (Lk × ByteArray)} {e : Ending} (h : AsR T pt w tb o e w') : ∃ b, e = .returned (.bool b) := by
  cases o with
  | none => exact ⟨_, h.2⟩
  | some p => exact ⟨_, h.2.1⟩
theorem AsR.before {T : Lk} {pt : TypeId} {w0 w w' : World} {tb : Nat} {o : Option (Lk × ByteArray)} {e : Ending} (h : AsR T pt w tb o e w') (hk : Kp (fun _ => False) w0 w) : AsR T pt w0 tb o e w' :=
  ⟨(hk.mono (fun _ _ h => h.elim)).trans h.1, h.2⟩
theorem AsR.none {T : Lk} {pt : TypeId} {w w' : World} {tb : Nat} {o : Option (Lk × ByteArray)} (hk : Kp (fun k => k = tb) w w') (ho : o = Option.none) : AsR T pt w tb o (.returned (.bool false)) w' := by
  rw [ho]
  exact ⟨hk, rfl⟩
theorem set_alloc0 {X : World} {q : Nat} {v : Value} {o : Obj} (h : q < X.heap.size) : (X.setCell ⟨q, 0, Option.none⟩ v).alloc o = (X.alloc o).setCell ⟨q, 0, Option.none⟩ v := by
  unfold World.setCell World.alloc
  congr 1
  apply Array.ext_getElem?
  intro j
  simp only [Array.getElem?_push, Array.getElem?_modify, Array.size_modify]
  by_cases hj : j = X.heap.size
  · subst hj
    have : q ≠ X.heap.size := by omega
    simp [this]
  · simp [hj]
theorem AsR.hit {T : Lk} {pt U : TypeId} {w w1 : World} {tb b : Nat} {old : Value} {o : Option (Lk × ByteArray)} {s : ByteArray} {ev : Value} {ks : List (Lk × ByteArray)} (hk : Kp (fun k => k = tb) w w1) (ho : ((T, s) :: ks).find? (fun p => p.1 == T) = o) (hb : w1.heap[b]? = some (.cells (T.cs s ev) T.bt)) (ht : (w1.alloc (.cells #[.pointer (some ⟨b, 0, Option.none⟩)] U)).heap[tb]? = some (.cells #[old] pt)) (hne : T.bt ≠ pt) (_ : pt = U) : AsR T pt w tb o (.returned (.bool true)) ((w1.alloc (.cells #[.pointer (some ⟨b, 0, Option.none⟩)] U)).setCell ⟨tb, 0, Option.none⟩ (.pointer (some ⟨b, 0, Option.none⟩))) := by
  have e1 : o = some (T, s) := by rw [← ho]; simp
  have hb1 : (w1.alloc (.cells #[.pointer (some ⟨b, 0, Option.none⟩)] U)).heap[b]? = some (.cells (T.cs s ev) T.bt) := by rw [Below.heap_alloc _ _ _ (lt_heap hb)]; exact hb
  have hbt : b ≠ tb := by
    rintro rfl
    rw [hb1] at ht
    injection ht with ht
    injection ht with _ h2 _
    exact hne h2
  rw [e1]
  refine ⟨(hk.alloc _).setCell (fun _ => rfl) _, rfl, b, ev, one_set ht _, ?_⟩
  rw [heap_set_other (by exact hbt)]
  exact hb1
end Go.Proofs.YtocligpfmfmihaaGreatDoor
namespace Go.Proofs.YtocligpfmfmihaaGreatDoor
open Go Go.RowKit Go.Extern.Stop Go.Stop Go.Extern
theorem aV_flt (t : Addr) (w : World) : (callFunc 114 #[.iface 121 (.pointer (some t))]).run Tryz.prog w = .ok (.value ((Value.agg #[Value.pointer (some (Addr.mk 31 121 none)), Value.pointer (some ⟨w.heap.size, 0, none⟩), Value.int IntKind.u64 150]))) (w.alloc (.cells #[.pointer (some t)] 121)) := by
  rw [@run_callFunc_extern Tryz.prog 114 _ (fun args => ReflectliteValue.unpack (args.getD 0 (.tuple #[]))) Tryz.func114 (by kernel_rfl) (by kernel_rfl) (by kernel_rfl) (by kernel_rfl)]
  kernel_rfl
theorem aW_flt (t : Addr) (w : World) : (callFunc 114 #[.iface 116 (.pointer (some t))]).run Tryz.prog w = .ok (.value ((Value.agg #[Value.pointer (some (Addr.mk 31 116 none)), Value.pointer (some ⟨w.heap.size, 0, none⟩), Value.int IntKind.u64 150]))) (w.alloc (.cells #[.pointer (some t)] 116)) := by
  rw [@run_callFunc_extern Tryz.prog 114 _ (fun args => ReflectliteValue.unpack (args.getD 0 (.tuple #[]))) Tryz.func114 (by kernel_rfl) (by kernel_rfl) (by kernel_rfl) (by kernel_rfl)]
  kernel_rfl
theorem aTy_flt (a : Addr) (w : World) : (callFunc 115 #[(Value.agg #[Value.pointer (some (Addr.mk 31 121 none)), Value.pointer (some a), Value.int IntKind.u64 150])]).run Tryz.prog w = .ok (.value (.iface 289 ((Value.agg #[Value.pointer (some (Addr.mk 31 121 none))])))) w := by
  rw [@run_callFunc_extern Tryz.prog 115 _ (ReflectliteValue.methodAny (ReflectliteValue.valueError "reflectlite.Value.Type" 0) (fun t _ _ _ => ReflectliteType.toType t)) Tryz.func115 (by kernel_rfl) (by kernel_rfl) (by kernel_rfl) (by kernel_rfl)]
  kernel_rfl
theorem aK1_flt (w : World) : (callFunc 317 #[.pointer (some ⟨31, 121, none⟩)]).run Tryz.prog w = .ok (.value (.int .u8 22)) w := by
  rw [@run_callFunc_extern Tryz.prog 317 _ (ReflectliteType.abiMethod fun t => do pure (.int .u8 (← Rtype.kind t))) Tryz.func317 (by kernel_rfl) (by kernel_rfl) (by kernel_rfl) (by kernel_rfl)]
  kernel_rfl
theorem aK2_flt (w : World) : (callFunc 317 #[.pointer (some ⟨31, 116, none⟩)]).run Tryz.prog w = .ok (.value (.int .u8 22)) w := by
  rw [@run_callFunc_extern Tryz.prog 317 _ (ReflectliteType.abiMethod fun t => do pure (.int .u8 (← Rtype.kind t))) Tryz.func317 (by kernel_rfl) (by kernel_rfl) (by kernel_rfl) (by kernel_rfl)]
  kernel_rfl
theorem aEl_flt (w : World) : (callFunc 342 #[(Value.agg #[Value.pointer (some (Addr.mk 31 121 none))])]).run Tryz.prog w = .ok (.value (.iface 289 ((Value.agg #[Value.pointer (some (Addr.mk 31 116 none))])))) w := by
  rw [@run_callFunc_extern Tryz.prog 342 _ (ReflectliteType.method ReflectliteType.elem) Tryz.func342 (by kernel_rfl) (by kernel_rfl) (by kernel_rfl) (by kernel_rfl)]
  kernel_rfl
theorem aIm_flt (w : World) : (callFunc 343 #[(Value.agg #[Value.pointer (some (Addr.mk 31 116 none))]), .iface 289 ((Value.agg #[Value.pointer (some (Addr.mk 31 61 none))]))]).run Tryz.prog w = .ok (.value (.bool true)) w := by
  rw [@run_callFunc_extern Tryz.prog 343 _ (ReflectliteType.relation "Implements" ReflectliteType.implements_) Tryz.func343 (by kernel_rfl) (by kernel_rfl) (by kernel_rfl) (by kernel_rfl)]
  kernel_rfl
theorem aAs_flt_err (w : World) : (callFunc 340 #[(Value.agg #[Value.pointer (some (Addr.mk 31 415 none))]), .iface 289 ((Value.agg #[Value.pointer (some (Addr.mk 31 116 none))]))]).run Tryz.prog w = .ok (.value (.bool false)) w := by
  rw [@run_callFunc_extern Tryz.prog 340 _ (ReflectliteType.relation "AssignableTo" ReflectliteType.assignableTo) Tryz.func340 (by kernel_rfl) (by kernel_rfl) (by kernel_rfl) (by kernel_rfl)]
  kernel_rfl
theorem aAs_flt_mem (w : World) : (callFunc 340 #[(Value.agg #[Value.pointer (some (Addr.mk 31 250 none))]), .iface 289 ((Value.agg #[Value.pointer (some (Addr.mk 31 116 none))]))]).run Tryz.prog w = .ok (.value (.bool false)) w := by
  rw [@run_callFunc_extern Tryz.prog 340 _ (ReflectliteType.relation "AssignableTo" ReflectliteType.assignableTo) Tryz.func340 (by kernel_rfl) (by kernel_rfl) (by kernel_rfl) (by kernel_rfl)]
  kernel_rfl
theorem aAs_flt_doc (w : World) : (callFunc 340 #[(Value.agg #[Value.pointer (some (Addr.mk 31 117 none))]), .iface 289 ((Value.agg #[Value.pointer (some (Addr.mk 31 116 none))]))]).run Tryz.prog w = .ok (.value (.bool false)) w := by
  rw [@run_callFunc_extern Tryz.prog 340 _ (ReflectliteType.relation "AssignableTo" ReflectliteType.assignableTo) Tryz.func340 (by kernel_rfl) (by kernel_rfl) (by kernel_rfl) (by kernel_rfl)]
  kernel_rfl
theorem aAs_flt_evt (w : World) : (callFunc 340 #[(Value.agg #[Value.pointer (some (Addr.mk 31 118 none))]), .iface 289 ((Value.agg #[Value.pointer (some (Addr.mk 31 116 none))]))]).run Tryz.prog w = .ok (.value (.bool false)) w := by
  rw [@run_callFunc_extern Tryz.prog 340 _ (ReflectliteType.relation "AssignableTo" ReflectliteType.assignableTo) Tryz.func340 (by kernel_rfl) (by kernel_rfl) (by kernel_rfl) (by kernel_rfl)]
  kernel_rfl
theorem aAs_flt_srv (w : World) : (callFunc 340 #[(Value.agg #[Value.pointer (some (Addr.mk 31 188 none))]), .iface 289 ((Value.agg #[Value.pointer (some (Addr.mk 31 116 none))]))]).run Tryz.prog w = .ok (.value (.bool false)) w := by
  rw [@run_callFunc_extern Tryz.prog 340 _ (ReflectliteType.relation "AssignableTo" ReflectliteType.assignableTo) Tryz.func340 (by kernel_rfl) (by kernel_rfl) (by kernel_rfl) (by kernel_rfl)]
  kernel_rfl
theorem rp1_flt (a : Addr) (w : World) : (ReflectliteValue.parts ((Value.agg #[Value.pointer (some (Addr.mk 31 121 none)), Value.pointer (some a), Value.int IntKind.u64 150]))).run Tryz.prog w = .ok (some (121, a, 150)) w := by kernel_rfl
theorem rp2_flt (a : Addr) (w : World) : (ReflectliteValue.parts ((Value.agg #[Value.pointer (some (Addr.mk 31 116 none)), Value.pointer (some a), Value.int IntKind.u64 150]))).run Tryz.prog w = .ok (some (116, a, 150)) w := by kernel_rfl
theorem rp3_flt (a : Addr) (w : World) : (ReflectliteValue.parts ((Value.agg #[Value.pointer (some (Addr.mk 31 116 none)), Value.pointer (some a), Value.int IntKind.u64 406]))).run Tryz.prog w = .ok (some (116, a, 406)) w := by kernel_rfl
theorem rEl_flt (w : World) : (Rtype.elem? 121).run Tryz.prog w = .ok (some 116) w := by kernel_rfl
theorem rMk_flt (p : Addr) (w : World) : (ReflectliteValue.mk 116 p ReflectliteValue.flagAddr).run Tryz.prog w = .ok ((Value.agg #[Value.pointer (some (Addr.mk 31 116 none)), Value.pointer (some p), Value.int IntKind.u64 406])) w := by kernel_rfl
theorem rDi_flt (w : World) : (Rtype.directlyAssignable 116 116).run Tryz.prog w = .ok true w := by kernel_rfl
theorem aNil_flt (a p : Addr) (W : World) (ha : W.cell? a = some (.pointer (some p))) : (callFunc 116 #[(Value.agg #[Value.pointer (some (Addr.mk 31 121 none)), Value.pointer (some a), Value.int IntKind.u64 150])]).run Tryz.prog W = .ok (.value (.bool false)) W := by
  rw [@run_callFunc_extern Tryz.prog 116 _ (ReflectliteValue.method (ReflectliteValue.valueError "reflectlite.Value.IsNil" 0) ReflectliteValue.isNil) Tryz.func116 (by kernel_rfl) (by kernel_rfl) (by kernel_rfl) (by kernel_rfl)]
  rw [rlm]
  simp only [Sem.run_bind, rp1_flt, Result.andThen]
  simp [ReflectliteValue.isNil, loadVar, isAgg, underlying, Tryz.underlying121, ha, Result.andThen]
theorem aElV_flt (a p : Addr) (W : World) (ha : W.cell? a = some (.pointer (some p))) : (callFunc 165 #[(Value.agg #[Value.pointer (some (Addr.mk 31 121 none)), Value.pointer (some a), Value.int IntKind.u64 150])]).run Tryz.prog W = .ok (.value ((Value.agg #[Value.pointer (some (Addr.mk 31 116 none)), Value.pointer (some p), Value.int IntKind.u64 406]))) W := by
  rw [@run_callFunc_extern Tryz.prog 165 _ (ReflectliteValue.method (ReflectliteValue.valueError "reflectlite.Value.Elem" 0) ReflectliteValue.elem) Tryz.func165 (by kernel_rfl) (by kernel_rfl) (by kernel_rfl) (by kernel_rfl)]
  rw [rlm]
  simp only [Sem.run_bind, rp1_flt, Result.andThen]
  simp [ReflectliteValue.elem, loadVar, isAgg, underlying, Tryz.underlying121, ha, Result.andThen, rEl_flt, rMk_flt]
theorem aSet_flt (ta b e : Addr) (old : Value) (W : World) (hb : W.cell? b = some (.pointer (some e))) (ht : W.cell? ta = some old) (hf : W.frozen? ta = false) :
    (callFunc 166 #[(Value.agg #[Value.pointer (some (Addr.mk 31 116 none)), Value.pointer (some ta), Value.int IntKind.u64 406]), (Value.agg #[Value.pointer (some (Addr.mk 31 116 none)), Value.pointer (some b), Value.int IntKind.u64 150])]).run Tryz.prog W = .ok (.value (.tuple #[])) (W.setCell ta (.pointer (some e))) := by
  rw [@run_callFunc_extern Tryz.prog 166 _ ReflectliteValue.set Tryz.func166 (by kernel_rfl) (by kernel_rfl) (by kernel_rfl) (by kernel_rfl)]
  rw [rls]
  simp only [Sem.run_bind, rp2_flt, rp3_flt, Result.andThen]
  simp [ReflectliteValue.flagAddr, loadVar, isAgg, underlying, Tryz.underlying116, hb, Result.andThen, rDi_flt, storeVar, Value.cells, storeCells, Addr.add]
  rw [run_store Tryz.prog W ta _ _ (by rfl)]
  simp [ht, hf]

end Go.Proofs.YtocligpfmfmihaaGreatDoor

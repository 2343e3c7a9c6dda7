import Derived.Test.YtocligpfmfmihaaGreatDoorRef11
import Derived.Test.YtocligpfmfmihaaGreatDoorRdG
import Derived.WalkKit
import Derived.LaidEql
import Derived.Stop.Asserts
import Derived.RowKitTokens
import Derived.Test.YtocligpfmfmihaaGreatDoorPar
namespace Go.Proofs.YtocligpfmfmihaaGreatDoor
open Go Go.RowKit Go.Maps
def RpR (w : World) (s : ByteArray) (e : Ending) (w' : World) : Prop :=
 Kp (fun _ => False) w w' ∧ ((600 < s.size ∧ e = .returned (.tuple #[.pointer none, .int .i64 1])) ∨ (s.size ≤ 600 ∧ parse s.data.toList = none ∧ e = .returned (.tuple #[.pointer none, .int .i64 2])) ∨
  (s.size ≤ 600 ∧ ∃ j b, parse s.data.toList = some j ∧ e = .returned (.tuple #[.pointer (some ⟨b, 0, none⟩), .int .i64 0]) ∧ RR w' (fun c => w.heap.size ≤ c ∧ c < w'.heap.size) j b))
set_option maxRecDepth 20000 in
theorem rparse_c (W : World) (hG : GL W) (s : ByteArray) (w : World) (ho : Below W.heap.size W w) :
  Calls Tryz.prog 37 #[.string s] w fun e w' => RpR w s e w' := by
 by_cases h6 : 600 < s.size
 ·have h6' : (600 : Int) < (s.size : Int) := by omega
  go_enter Tryz.func37, Tryz.ntmps37
  go_wp2
  go_ret2
  exact ⟨Kp.refl _ _, Or.inl ⟨h6, rfl⟩⟩
 ·have h6' : ¬ (600 : Int) < (s.size : Int) := by omega
  have K0 : Kp (fun _ => False) w (w.alloc (.cells #[.string s, .int .i64 0, .bool false] 128)) := (Kp.refl _ _).alloc _
  have h0 : Rs W (w.alloc (.cells #[.string s, .int .i64 0, .bool false] 128)) w.heap.size s 0 false :=
   ⟨hG, below_kp ho K0, heap_alloc_new w _, ho.size, by omega, by omega, fun _ => by omega⟩
  go_enter Tryz.func37, Tryz.ntmps37
  go_wp2_with fail
  refine (vlC W 6 0 rfl w.heap.size s 0 _ h0).mono ?_
  rintro e w1 ⟨b, rfl, K1, k1, bad1, h1, hm⟩
  have r0 : rest s 0 = s.data.toList := by simp [rest]
  rw [r0] at hm
  have hpe := parse_eq s.data.toList
  have K : Kp (fun _ => False) w w1 := K0.and K1 (fun i hi e => by omega)
  have hk1 := K1.size
  have HM := hide (And.intro hm hpe)
  clear hm hpe r0
  obtain ⟨c0, c1, c2, f1, f2, hb⟩ := h1.facts
  cases bad1 with
  | true =>
   go_wp2
   go_ret2
   refine ⟨K, Or.inr (Or.inl ⟨by omega, ?_, rfl⟩)⟩
   rw [← HM.out.2, pTop]
   have hm := HM.out.1
   cases hp : pVal true 6 s.data.toList with
   | none => rfl
   | some z => rw [hp] at hm; cases hm.1
  | false =>
   have hgd := h1.good rfl
   have hm := HM.out.1
   have hpe := HM.out.2
   rw [pTop] at hpe
   cases hp : pVal true 6 s.data.toList with
   | none => rw [hp] at hm; cases hm
   | some z =>
    obtain ⟨j, r⟩ := z
    rw [hp] at hm hpe
    obtain ⟨_, hr, ht⟩ := hm
    have hl := rest_len s k1
    rw [hr] at hl
    by_cases hsk : sk r = []
    ·have hk : k1 = s.size := by rw [hsk] at hl; simp at hl; omega
     have hne : ((k1 : Int) != (s.size : Int)) = false := by simp; omega
     have X := hide (And.intro hpe (And.intro ht hsk))
     clear hp hpe ht hr hl hk hsk HM
     go_wp2
     go_ret2
     refine ⟨K, Or.inr (Or.inr ⟨by omega, j, b, ?_, rfl, ?_⟩)⟩
     ·have := X.out.1
      rw [← this]
      simp [X.out.2.2]
     ·exact X.out.2.1.frame (fun _ _ => rfl) (fun c hc => ⟨by have := hc.1; simp at this; omega, hc.2⟩)
    ·have hk : k1 ≠ s.size := by
      intro e
      apply hsk
      exact List.eq_nil_of_length_eq_zero (hl.trans (by omega))
     have hne : ((k1 : Int) != (s.size : Int)) = true := by simp; omega
     have X := hide (And.intro hpe hsk)
     clear hp hpe ht hr hl hsk HM
     go_wp2
     go_ret2
     refine ⟨K, Or.inr (Or.inl ⟨by omega, ?_, rfl⟩)⟩
     rw [← X.out.1]
     simp [X.out.2]
end Go.Proofs.YtocligpfmfmihaaGreatDoor
namespace Go.Proofs.YtocligpfmfmihaaGreatDoor
open Go Go.RowKit Go.Extern.Stop Go.Stop Go.Extern
theorem isTypeOf (v : Value) (w : World) : (Extern.ReflectliteType.typeOf #[.iface 415 v]).run Tryz.prog w = .ok (.iface 289 (.agg #[.pointer (some ⟨31, 415, none⟩)])) w := by kernel_rfl
theorem callTypeOf (v : Value) (w : World) : (callFunc 112 #[.iface 415 v]).run Tryz.prog w = .ok (.value (.iface 289 (.agg #[.pointer (some ⟨31, 415, none⟩)]))) w := by
 rw [@run_callFunc_extern Tryz.prog 112 _ Extern.ReflectliteType.typeOf Tryz.func112 (by kernel_rfl) (by kernel_rfl) (by kernel_rfl) (by kernel_rfl), isTypeOf]
 rfl
theorem isComparable (w : World) : ((Extern.ReflectliteType.method fun t => do Extern.Rtype.noPackHeld "Comparable" t; pure (.bool (← typeInfo t).comparable)) #[.agg #[.pointer (some ⟨31, 415, none⟩)]]).run Tryz.prog w = .ok (.bool true) w := by kernel_rfl
theorem callComparable (w : World) : (callFunc 341 #[.agg #[.pointer (some ⟨31, 415, none⟩)]]).run Tryz.prog w = .ok (.value (.bool true)) w := by
 rw [@run_callFunc_extern Tryz.prog 341 _ (Extern.ReflectliteType.method fun t => do Extern.Rtype.noPackHeld "Comparable" t; pure (.bool (← typeInfo t).comparable)) Tryz.func341 (by kernel_rfl) (by kernel_rfl) (by kernel_rfl) (by kernel_rfl), isComparable]
 rfl
theorem isMethodComparable (v : Value) (w : World) : (Go.method 546 289 v "Comparable").run Tryz.prog w = .ok (341, v) w := by kernel_rfl
theorem isComp : (Tryz.prog.info? 415).map (·.comparable) = some true := by kernel_rfl
theorem isSize : (Tryz.prog.info? 435).map (·.size) = some 1 := by kernel_rfl
theorem noIsE (v : Value) (xT : TypeId) (w : World) : (Instr.typeAssert (.iface 415 v) xT 291 true).run Tryz.prog w = .ok (.tuple #[.nilIface, .bool false]) w := run_typeAssert_lacksB Tryz.underlying291 (by kernel_rfl) (by kernel_rfl) v xT w
theorem noUnwrapE (v : Value) (xT : TypeId) (w : World) : (Instr.typeAssert (.iface 415 v) xT 294 true).run Tryz.prog w = .ok (.tuple #[.nilIface, .bool false]) w := run_typeAssert_lacksB Tryz.underlying294 (by kernel_rfl) (by kernel_rfl) v xT w
theorem noUnwrapsE (v : Value) (xT : TypeId) (w : World) : (Instr.typeAssert (.iface 415 v) xT 296 true).run Tryz.prog w = .ok (.tuple #[.nilIface, .bool false]) w := run_typeAssert_lacksB Tryz.underlying296 (by kernel_rfl) (by kernel_rfl) v xT w
theorem noAsE (v : Value) (xT : TypeId) (w : World) : (Instr.typeAssert (.iface 415 v) xT 301 true).run Tryz.prog w = .ok (.tuple #[.nilIface, .bool false]) w := run_typeAssert_lacksB Tryz.underlying301 (by kernel_rfl) (by kernel_rfl) v xT w
theorem noIsF (v : Value) (xT : TypeId) (w : World) : (Instr.typeAssert (.iface 116 v) xT 291 true).run Tryz.prog w = .ok (.tuple #[.nilIface, .bool false]) w := run_typeAssert_lacksB Tryz.underlying291 (by kernel_rfl) (by kernel_rfl) v xT w
theorem hasUnwrapF (v : Value) (xT : TypeId) (w : World) : (Instr.typeAssert (.iface 116 v) xT 294 true).run Tryz.prog w = .ok (.tuple #[.iface 116 v, .bool true]) w := run_typeAssert_hasB Tryz.underlying294 (by kernel_rfl) v xT w
theorem methodUnwrap (v : Value) (w : World) : (Go.method 546 116 v "Unwrap").run Tryz.prog w = .ok (322, v) w := by kernel_rfl
set_option maxRecDepth 20000 in
theorem is_same (b : Addr) (w : World) : Calls Tryz.prog 66 #[errV b, errV b] w fun e w' => e = .returned (.bool true) ∧ w' = w := by
 unfold errV
 obtain ⟨i, hi, hcmp⟩ := Option.map_eq_some_iff.1 isComp
 obtain ⟨j, hj, hjs⟩ := Option.map_eq_some_iff.1 isSize
 have h8 := callTypeOf
 have h32 := callComparable
 have mR := isMethodComparable
 have heq := run_eql_iface_ptr_same (P := Tryz.prog) w b Tryz.underlying61 Tryz.underlying415 hi hcmp hj
 go_enter Tryz.func66, Tryz.ntmps66
 go_wp2
 refine wp_loop_rounds 1 ?_
 rw [rounds_succ]
 go_wp2
 go_ret
 exact ⟨rfl, rfl⟩
set_option maxRecDepth 20000 in
theorem is_other (a b : Addr) (ca cb : Array Value) (ta tb : TypeId) (w : World) (hne : a ≠ b) (ha : w.heap[a.block]? = some (.cells ca ta (0, 0))) (hb : w.heap[b.block]? = some (.cells cb tb (0, 0))) :
  Calls Tryz.prog 66 #[errV a, errV b] w fun e w' => e = .returned (.bool false) ∧ w' = w := by
 unfold errV
 obtain ⟨i, hi, hcmp⟩ := Option.map_eq_some_iff.1 isComp
 obtain ⟨j, hj, hjs⟩ := Option.map_eq_some_iff.1 isSize
 have h8 := callTypeOf
 have h32 := callComparable
 have mR := isMethodComparable
 have nE := noIsE
 have uE := noUnwrapE
 have vE := noUnwrapsE
 have heq := run_eql_iface_ptr_other (P := Tryz.prog) (a := a) (b := b) w Tryz.underlying61 Tryz.underlying415 hi hcmp hj (by rw [hjs]; decide) hne ha hb
 go_enter Tryz.func66, Tryz.ntmps66
 go_wp2
 refine wp_loop_rounds 1 ?_
 rw [rounds_succ]
 go_wp2
 go_ret
 exact ⟨rfl, rfl⟩
set_option maxRecDepth 20000 in
theorem is_fault (fb : Nat) (a b : Addr) (kv : Value) (ca cb : Array Value) (ta tb : TypeId) (w : World) (hf : w.heap[fb]? = some (.cells #[kv, errV a] 239)) (hne : a ≠ b) (ha : w.heap[a.block]? = some (.cells ca ta (0, 0))) (hb : w.heap[b.block]? = some (.cells cb tb (0, 0))) :
  Calls Tryz.prog 66 #[.iface 116 (.pointer (some ⟨fb, 0, none⟩)), errV b] w fun e w' => e = .returned (.bool false) ∧ w' = w := by
 have h1 : w.cell? ⟨fb, 1, none⟩ = some (errV a) := by simp [World.cell?, hf]
 unfold errV at h1 ⊢
 clear hf
 obtain ⟨i, hi, hcmp⟩ := Option.map_eq_some_iff.1 isComp
 obtain ⟨j, hj, hjs⟩ := Option.map_eq_some_iff.1 isSize
 have h8 := callTypeOf
 have h32 := callComparable
 have mR := isMethodComparable
 have nE := noIsE
 have uE := noUnwrapE
 have vE := noUnwrapsE
 have nW := noIsF
 have uW := hasUnwrapF
 have mU := methodUnwrap
 have heq := run_eql_iface_ptr_other (P := Tryz.prog) (a := a) (b := b) w Tryz.underlying61 Tryz.underlying415 hi hcmp hj (by rw [hjs]; decide) hne ha hb
 have hty := run_eql_iface_types (P := Tryz.prog) 116 415 (.pointer (some ⟨fb, 0, none⟩)) (.pointer (some b)) Tryz.underlying61 (by decide) w
 go_enter Tryz.func66, Tryz.ntmps66
 go_wp2
 refine wp_loop_rounds 2 ?_
 rw [rounds_succ]
 go_wp2
 rw [rounds_succ]
 go_wp2
 go_ret
 exact ⟨rfl, rfl⟩
end Go.Proofs.YtocligpfmfmihaaGreatDoor
namespace Go.Proofs.YtocligpfmfmihaaGreatDoor
open Go Go.RowKit Go.Extern.Stop Go.Stop Go.Extern
theorem c_valueOf (t : Addr) (w : World) : (callFunc 114 #[.iface 121 (.pointer (some t))]).run Tryz.prog w = .ok (.value ((Value.agg #[Value.pointer (some (Addr.mk 31 121 none)), Value.pointer (some ⟨w.heap.size, 0, none⟩), Value.int IntKind.u64 150]))) (w.alloc (.cells #[.pointer (some t)] 121)) := by
 rw [@run_callFunc_extern Tryz.prog 114 _ (fun args => ReflectliteValue.unpack (args.getD 0 (.tuple #[]))) Tryz.func114 (by kernel_rfl) (by kernel_rfl) (by kernel_rfl) (by kernel_rfl)]
 kernel_rfl
theorem c_valueOfF (t : Addr) (w : World) : (callFunc 114 #[.iface 116 (.pointer (some t))]).run Tryz.prog w = .ok (.value ((Value.agg #[Value.pointer (some (Addr.mk 31 116 none)), Value.pointer (some ⟨w.heap.size, 0, none⟩), Value.int IntKind.u64 150]))) (w.alloc (.cells #[.pointer (some t)] 116)) := by
 rw [@run_callFunc_extern Tryz.prog 114 _ (fun args => ReflectliteValue.unpack (args.getD 0 (.tuple #[]))) Tryz.func114 (by kernel_rfl) (by kernel_rfl) (by kernel_rfl) (by kernel_rfl)]
 kernel_rfl
theorem c_type (a : Addr) (w : World) : (callFunc 115 #[(Value.agg #[Value.pointer (some (Addr.mk 31 121 none)), Value.pointer (some a), Value.int IntKind.u64 150])]).run Tryz.prog w = .ok (.value (.iface 289 ((Value.agg #[Value.pointer (some (Addr.mk 31 121 none))])))) w := by
 rw [@run_callFunc_extern Tryz.prog 115 _ (ReflectliteValue.methodAny (ReflectliteValue.valueError "reflectlite.Value.Type" 0) (fun t _ _ _ => ReflectliteType.toType t)) Tryz.func115 (by kernel_rfl) (by kernel_rfl) (by kernel_rfl) (by kernel_rfl)]
 kernel_rfl
theorem m_kind (h : Value) (w : World) : (Go.method 546 289 (.agg #[h]) "Kind").run Tryz.prog w = .ok (317, h) w := by kernel_rfl
theorem m_elem (h : Value) (w : World) : (Go.method 546 289 (.agg #[h]) "Elem").run Tryz.prog w = .ok (342, .agg #[h]) w := by kernel_rfl
theorem m_impl (h : Value) (w : World) : (Go.method 546 289 (.agg #[h]) "Implements").run Tryz.prog w = .ok (343, .agg #[h]) w := by kernel_rfl
theorem m_assign (h : Value) (w : World) : (Go.method 546 289 (.agg #[h]) "AssignableTo").run Tryz.prog w = .ok (340, .agg #[h]) w := by kernel_rfl
theorem c_kind1 (w : World) : (callFunc 317 #[.pointer (some ⟨31, 121, none⟩)]).run Tryz.prog w = .ok (.value (.int .u8 22)) w := by
 rw [@run_callFunc_extern Tryz.prog 317 _ (ReflectliteType.abiMethod fun t => do pure (.int .u8 (← Rtype.kind t))) Tryz.func317 (by kernel_rfl) (by kernel_rfl) (by kernel_rfl) (by kernel_rfl)]
 kernel_rfl
theorem c_kind2 (w : World) : (callFunc 317 #[.pointer (some ⟨31, 116, none⟩)]).run Tryz.prog w = .ok (.value (.int .u8 22)) w := by
 rw [@run_callFunc_extern Tryz.prog 317 _ (ReflectliteType.abiMethod fun t => do pure (.int .u8 (← Rtype.kind t))) Tryz.func317 (by kernel_rfl) (by kernel_rfl) (by kernel_rfl) (by kernel_rfl)]
 kernel_rfl
theorem c_elem (w : World) : (callFunc 342 #[(Value.agg #[Value.pointer (some (Addr.mk 31 121 none))])]).run Tryz.prog w = .ok (.value (.iface 289 ((Value.agg #[Value.pointer (some (Addr.mk 31 116 none))])))) w := by
 rw [@run_callFunc_extern Tryz.prog 342 _ (ReflectliteType.method ReflectliteType.elem) Tryz.func342 (by kernel_rfl) (by kernel_rfl) (by kernel_rfl) (by kernel_rfl)]
 kernel_rfl
theorem c_impl (w : World) : (callFunc 343 #[(Value.agg #[Value.pointer (some (Addr.mk 31 116 none))]), .iface 289 ((Value.agg #[Value.pointer (some (Addr.mk 31 61 none))]))]).run Tryz.prog w = .ok (.value (.bool true)) w := by
 rw [@run_callFunc_extern Tryz.prog 343 _ (ReflectliteType.relation "Implements" ReflectliteType.implements_) Tryz.func343 (by kernel_rfl) (by kernel_rfl) (by kernel_rfl) (by kernel_rfl)]
 kernel_rfl
theorem c_assF (w : World) : (callFunc 340 #[(Value.agg #[Value.pointer (some (Addr.mk 31 116 none))]), .iface 289 ((Value.agg #[Value.pointer (some (Addr.mk 31 116 none))]))]).run Tryz.prog w = .ok (.value (.bool true)) w := by
 rw [@run_callFunc_extern Tryz.prog 340 _ (ReflectliteType.relation "AssignableTo" ReflectliteType.assignableTo) Tryz.func340 (by kernel_rfl) (by kernel_rfl) (by kernel_rfl) (by kernel_rfl)]
 kernel_rfl
theorem c_assE (w : World) : (callFunc 340 #[(Value.agg #[Value.pointer (some (Addr.mk 31 415 none))]), .iface 289 ((Value.agg #[Value.pointer (some (Addr.mk 31 116 none))]))]).run Tryz.prog w = .ok (.value (.bool false)) w := by
 rw [@run_callFunc_extern Tryz.prog 340 _ (ReflectliteType.relation "AssignableTo" ReflectliteType.assignableTo) Tryz.func340 (by kernel_rfl) (by kernel_rfl) (by kernel_rfl) (by kernel_rfl)]
 kernel_rfl
theorem c_typeOfF (v : Value) (w : World) : (callFunc 112 #[.iface 116 v]).run Tryz.prog w = .ok (.value (.iface 289 ((Value.agg #[Value.pointer (some (Addr.mk 31 116 none))])))) w := by
 rw [@run_callFunc_extern Tryz.prog 112 _ Extern.ReflectliteType.typeOf Tryz.func112 (by kernel_rfl) (by kernel_rfl) (by kernel_rfl) (by kernel_rfl)]
 kernel_rfl
theorem rlm (z : Sem Value) (f : TypeId → Addr → Nat → Nat → Sem Value) (v : Value) :
  ReflectliteValue.method z f #[v] = (do match ← ReflectliteValue.parts v with | none => z | some (t, a, fl) => f t a fl (fl % 32)) := rfl
theorem r_parts1 (a : Addr) (w : World) : (ReflectliteValue.parts ((Value.agg #[Value.pointer (some (Addr.mk 31 121 none)), Value.pointer (some a), Value.int IntKind.u64 150]))).run Tryz.prog w = .ok (some (121, a, 150)) w := by kernel_rfl
theorem r_parts2 (a : Addr) (w : World) : (ReflectliteValue.parts ((Value.agg #[Value.pointer (some (Addr.mk 31 116 none)), Value.pointer (some a), Value.int IntKind.u64 150]))).run Tryz.prog w = .ok (some (116, a, 150)) w := by kernel_rfl
theorem r_parts3 (a : Addr) (w : World) : (ReflectliteValue.parts ((Value.agg #[Value.pointer (some (Addr.mk 31 116 none)), Value.pointer (some a), Value.int IntKind.u64 406]))).run Tryz.prog w = .ok (some (116, a, 406)) w := by kernel_rfl
theorem r_elemOf (w : World) : (Rtype.elem? 121).run Tryz.prog w = .ok (some 116) w := by kernel_rfl
theorem r_mk (p : Addr) (w : World) : (ReflectliteValue.mk 116 p ReflectliteValue.flagAddr).run Tryz.prog w = .ok ((Value.agg #[Value.pointer (some (Addr.mk 31 116 none)), Value.pointer (some p), Value.int IntKind.u64 406])) w := by kernel_rfl
theorem r_direct (w : World) : (Rtype.directlyAssignable 116 116).run Tryz.prog w = .ok true w := by kernel_rfl
theorem c_isNil (a p : Addr) (W : World) (ha : W.cell? a = some (.pointer (some p))) : (callFunc 116 #[(Value.agg #[Value.pointer (some (Addr.mk 31 121 none)), Value.pointer (some a), Value.int IntKind.u64 150])]).run Tryz.prog W = .ok (.value (.bool false)) W := by
 rw [@run_callFunc_extern Tryz.prog 116 _ (ReflectliteValue.method (ReflectliteValue.valueError "reflectlite.Value.IsNil" 0) ReflectliteValue.isNil) Tryz.func116 (by kernel_rfl) (by kernel_rfl) (by kernel_rfl) (by kernel_rfl)]
 rw [rlm]
 simp only [Sem.run_bind, r_parts1, Result.andThen]
 simp [ReflectliteValue.isNil, loadVar, isAgg, underlying, Tryz.underlying121, ha, Result.andThen]
theorem c_elemV (a p : Addr) (W : World) (ha : W.cell? a = some (.pointer (some p))) : (callFunc 165 #[(Value.agg #[Value.pointer (some (Addr.mk 31 121 none)), Value.pointer (some a), Value.int IntKind.u64 150])]).run Tryz.prog W = .ok (.value ((Value.agg #[Value.pointer (some (Addr.mk 31 116 none)), Value.pointer (some p), Value.int IntKind.u64 406]))) W := by
 rw [@run_callFunc_extern Tryz.prog 165 _ (ReflectliteValue.method (ReflectliteValue.valueError "reflectlite.Value.Elem" 0) ReflectliteValue.elem) Tryz.func165 (by kernel_rfl) (by kernel_rfl) (by kernel_rfl) (by kernel_rfl)]
 rw [rlm]
 simp only [Sem.run_bind, r_parts1, Result.andThen]
 simp [ReflectliteValue.elem, loadVar, isAgg, underlying, Tryz.underlying121, ha, Result.andThen, r_elemOf, r_mk]
end Go.Proofs.YtocligpfmfmihaaGreatDoor
namespace Go.Proofs.YtocligpfmfmihaaGreatDoor
open Go Go.RowKit Go.Extern.Stop Go.Stop Go.Extern
theorem rls (v x : Value) : ReflectliteValue.set #[v, x] = (do
  let (some (dst, a, fl), some (src, b, _)) := (← ReflectliteValue.parts v, ← ReflectliteValue.parts x)
   | unsupported (.noEntry "extern/(internal/reflectlite.Value).Set.zeroValue")
  if fl / ReflectliteValue.flagAddr % 2 == 0 then unsupported (.noEntry "extern/(internal/reflectlite.Value).Set.unaddressable")
  let val ← loadVar src b
  if ← Rtype.directlyAssignable dst src then storeVar dst a val
  else if ← Rtype.implements dst src then
   if (← Rtype.kind src) == 20 then
    match val with
    | .nilIface => unsupported (.noEntry "extern/reflectlite: a nil value of one interface type handed on as a value of another")
    | _ => storeVar dst a val
   else storeVar dst a (.iface src val)
  else panicString ("reflectlite.Set: value of type " ++ (← Rtype.spelt src) ++ " is not assignable to type " ++ (← Rtype.spelt dst))
  pure (.tuple #[])) := rfl
theorem c_set (ta b e : Addr) (old : Value) (W : World) (hb : W.cell? b = some (.pointer (some e))) (ht : W.cell? ta = some old) (hf : W.frozen? ta = false) :
  (callFunc 166 #[(Value.agg #[Value.pointer (some (Addr.mk 31 116 none)), Value.pointer (some ta), Value.int IntKind.u64 406]), (Value.agg #[Value.pointer (some (Addr.mk 31 116 none)), Value.pointer (some b), Value.int IntKind.u64 150])]).run Tryz.prog W = .ok (.value (.tuple #[])) (W.setCell ta (.pointer (some e))) := by
 rw [@run_callFunc_extern Tryz.prog 166 _ ReflectliteValue.set Tryz.func166 (by kernel_rfl) (by kernel_rfl) (by kernel_rfl) (by kernel_rfl)]
 rw [rls]
 simp only [Sem.run_bind, r_parts2, r_parts3, Result.andThen]
 simp [ReflectliteValue.flagAddr, loadVar, isAgg, underlying, Tryz.underlying116, hb, Result.andThen, r_direct, storeVar, Value.cells, storeCells, Addr.add]
 rw [run_store Tryz.prog W ta _ _ (by rfl)]
 simp [ht, hf]
theorem lt_cell {w : World} {a : Addr} {v : Value} (h : w.cell? a = some v) : a.block < w.heap.size := by
 rcases Nat.lt_or_ge a.block w.heap.size with h1 | h1
 ·exact h1
 ·simp [World.cell?, Array.getElem?_eq_none h1] at h
def asW (t : Addr) (w : World) : World := ((w.alloc (.cells #[.pointer (some t)] 121)).alloc (.cells #[.pointer (some ⟨31, 121, none⟩), .pointer (some ⟨w.heap.size, 0, none⟩), .int .u64 150] 214))
set_option maxRecDepth 20000 in
set_option maxHeartbeats 4000000 in
theorem as_hit (fb tb : Nat) (old : Value) (w : World) (hg : w.cell? ⟨9, 0, none⟩ = some (.iface 289 ((Value.agg #[Value.pointer (some (Addr.mk 31 61 none))])))) (ht0 : w.heap[tb]? = some (.cells #[old] 116)) :
  Calls Tryz.prog 67 #[.iface 116 (.pointer (some ⟨fb, 0, none⟩)), .iface 121 (.pointer (some ⟨tb, 0, none⟩))] w fun ev w' => ev = .returned (.bool true) ∧ Kp (fun k => k = tb) w w' := by
 have h1 := c_valueOf
 have h1' := c_valueOfF
 have h2 := c_type
 have h3 := m_kind
 have h4 := m_elem
 have h5 := m_impl
 have h6 := m_assign
 have h7 := c_kind1
 have h8 := c_kind2
 have h9 := c_elem
 have h10 := c_impl
 have h11 := c_assF
 have h12 := c_typeOfF
 have h13 := c_isNil ⟨w.heap.size, 0, none⟩ ⟨tb, 0, none⟩ (asW ⟨tb, 0, none⟩ w) (by unfold asW; simp)
 have hlt := lt_cell hg
 have htl := lt_heap ht0
 have hg2 : (asW ⟨tb, 0, none⟩ w).cell? ⟨9, 0, none⟩ = some (.iface 289 ((Value.agg #[Value.pointer (some (Addr.mk 31 61 none))]))) := by
  unfold asW
  rw [World.cell?_alloc_lt _ _ ⟨9, 0, none⟩ (by simp at hlt ⊢; omega), World.cell?_alloc_lt _ _ ⟨9, 0, none⟩ hlt]; exact hg
 have hsz : (asW ⟨tb, 0, none⟩ w).heap.size = w.heap.size + 2 := by unfold asW; simp
 have hK : Kp (fun k => k = tb) w (asW ⟨tb, 0, none⟩ w) := by unfold asW; exact ((Kp.refl _ _).alloc _).alloc _
 have h14 := c_elemV ⟨w.heap.size, 0, none⟩ ⟨tb, 0, none⟩ ((asW ⟨tb, 0, none⟩ w).alloc (.cells #[.pointer (some ⟨31, 121, none⟩), .pointer (some ⟨w.heap.size, 0, none⟩), .int .u64 150] 214)) (by rw [World.cell?_alloc_lt _ _ ⟨w.heap.size, 0, none⟩ (by rw [hsz]; simp)]; unfold asW; simp)
 have hK3 : Kp (fun k => k = tb) w (((asW ⟨tb, 0, none⟩ w).alloc (.cells #[.pointer (some ⟨31, 121, none⟩), .pointer (some ⟨w.heap.size, 0, none⟩), .int .u64 150] 214)).alloc (.cells #[.pointer (some ⟨fb, 0, none⟩)] 116)) := (hK.alloc _).alloc _
 have hsz3 : (((asW ⟨tb, 0, none⟩ w).alloc (.cells #[.pointer (some ⟨31, 121, none⟩), .pointer (some ⟨w.heap.size, 0, none⟩), .int .u64 150] 214)).alloc (.cells #[.pointer (some ⟨fb, 0, none⟩)] 116)).heap.size = w.heap.size + 4 := by simp [hsz]
 have ht1 : (((asW ⟨tb, 0, none⟩ w).alloc (.cells #[.pointer (some ⟨31, 121, none⟩), .pointer (some ⟨w.heap.size, 0, none⟩), .int .u64 150] 214)).alloc (.cells #[.pointer (some ⟨fb, 0, none⟩)] 116)).heap[tb]? = some (.cells #[old] 116) := by
  rw [Below.heap_alloc _ _ _ (by simp [hsz]; omega), Below.heap_alloc _ _ _ (by omega)]
  unfold asW
  rw [Below.heap_alloc _ _ _ (by simp; omega), Below.heap_alloc _ _ _ htl]
  exact ht0
 obtain ⟨tc, tf⟩ := one_cells ht1
 have h15 := c_set ⟨tb, 0, none⟩ ⟨w.heap.size + 1 + 1 + 1, 0, none⟩ ⟨fb, 0, none⟩ old (((asW ⟨tb, 0, none⟩ w).alloc (.cells #[.pointer (some ⟨31, 121, none⟩), .pointer (some ⟨w.heap.size, 0, none⟩), .int .u64 150] 214)).alloc (.cells #[.pointer (some ⟨fb, 0, none⟩)] 116)) (by rw [World.cell?_alloc_at _ _ _ _ (by simp [hsz])]; rfl) tc tf
 clear ht1 tc tf hsz
 have HK := hide hK3
 clear hK hK3 hsz3
 unfold asW at h13 hg2 h14 h15 HK
 go_enter Tryz.func67, Tryz.ntmps67
 go_wp2
 refine wp_loop_rounds 1 ?_
 rw [rounds_succ]
 go_wp2
 go_ret
 exact ⟨rfl, HK.out.setCell (fun _ => rfl) _⟩
set_option maxRecDepth 20000 in
set_option maxHeartbeats 4000000 in
theorem as_miss (eb : Addr) (tb : Nat) (old : Value) (w : World) (hg : w.cell? ⟨9, 0, none⟩ = some (.iface 289 ((Value.agg #[Value.pointer (some (Addr.mk 31 61 none))])))) (ht0 : w.heap[tb]? = some (.cells #[old] 116)) :
  Calls Tryz.prog 67 #[errV eb, .iface 121 (.pointer (some ⟨tb, 0, none⟩))] w fun ev w' => ev = .returned (.bool false) ∧ Kp (fun _ => False) w w' := by
 have h1 := c_valueOf
 have h1' := c_valueOfF
 have h2 := c_type
 have h3 := m_kind
 have h4 := m_elem
 have h5 := m_impl
 have h6 := m_assign
 have h7 := c_kind1
 have h8 := c_kind2
 have h9 := c_elem
 have h10 := c_impl
 have h11 := c_assF
 have h12 := c_typeOfF
 have h13 := c_isNil ⟨w.heap.size, 0, none⟩ ⟨tb, 0, none⟩ (asW ⟨tb, 0, none⟩ w) (by unfold asW; simp)
 have hlt := lt_cell hg
 have htl := lt_heap ht0
 have hg2 : (asW ⟨tb, 0, none⟩ w).cell? ⟨9, 0, none⟩ = some (.iface 289 ((Value.agg #[Value.pointer (some (Addr.mk 31 61 none))]))) := by
  unfold asW
  rw [World.cell?_alloc_lt _ _ ⟨9, 0, none⟩ (by simp at hlt ⊢; omega), World.cell?_alloc_lt _ _ ⟨9, 0, none⟩ hlt]; exact hg
 have h14 := c_assE
 have h15 := callTypeOf
 have h16 := noAsE
 have h17 := noUnwrapE
 have h18 := noUnwrapsE
 unfold asW at h13 hg2
 unfold errV
 go_enter Tryz.func67, Tryz.ntmps67
 go_wp2
 refine wp_loop_rounds 1 ?_
 rw [rounds_succ]
 go_wp2
 go_ret
 exact ⟨rfl, (((Kp.refl _ _).alloc _).alloc _).alloc _⟩
end Go.Proofs.YtocligpfmfmihaaGreatDoor

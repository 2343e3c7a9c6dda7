import Derived.Test.YtocligpfmfmihaaGreatDoorChnG
import Derived.Test.YtocligpfmfmihaaGreatDoorPar
import Derived.Lib.AppendStr
import Derived.Lib.ConvBytes
import Derived.Lib.OthersKept
namespace Go.Proofs.YtocligpfmfmihaaGreatDoor
open Go Go.RowKit Go.Extern.Stop Go.Stop Go.Extern
theorem aV_evt (t : Addr) (w : World) : (callFunc 114 #[.iface 123 (.pointer (some t))]).run Tryz.prog w = .ok (.value ((Value.agg #[Value.pointer (some (Addr.mk 31 123 none)), Value.pointer (some ⟨w.heap.size, 0, none⟩), Value.int IntKind.u64 150]))) (w.alloc (.cells #[.pointer (some t)] 123)) := by
  rw [@run_callFunc_extern Tryz.prog 114 _ (fun args => ReflectliteValue.unpack (args.getD 0 (.tuple #[]))) Tryz.func114 (by kernel_rfl) (by kernel_rfl) (by kernel_rfl) (by kernel_rfl)]
  kernel_rfl
theorem aW_evt (t : Addr) (w : World) : (callFunc 114 #[.iface 118 (.pointer (some t))]).run Tryz.prog w = .ok (.value ((Value.agg #[Value.pointer (some (Addr.mk 31 118 none)), Value.pointer (some ⟨w.heap.size, 0, none⟩), Value.int IntKind.u64 150]))) (w.alloc (.cells #[.pointer (some t)] 118)) := by
  rw [@run_callFunc_extern Tryz.prog 114 _ (fun args => ReflectliteValue.unpack (args.getD 0 (.tuple #[]))) Tryz.func114 (by kernel_rfl) (by kernel_rfl) (by kernel_rfl) (by kernel_rfl)]
  kernel_rfl
theorem aTy_evt (a : Addr) (w : World) : (callFunc 115 #[(Value.agg #[Value.pointer (some (Addr.mk 31 123 none)), Value.pointer (some a), Value.int IntKind.u64 150])]).run Tryz.prog w = .ok (.value (.iface 289 ((Value.agg #[Value.pointer (some (Addr.mk 31 123 none))])))) w := by
  rw [@run_callFunc_extern Tryz.prog 115 _ (ReflectliteValue.methodAny (ReflectliteValue.valueError "reflectlite.Value.Type" 0) (fun t _ _ _ => ReflectliteType.toType t)) Tryz.func115 (by kernel_rfl) (by kernel_rfl) (by kernel_rfl) (by kernel_rfl)]
  kernel_rfl
theorem aK1_evt (w : World) : (callFunc 317 #[.pointer (some ⟨31, 123, none⟩)]).run Tryz.prog w = .ok (.value (.int .u8 22)) w := by
  rw [@run_callFunc_extern Tryz.prog 317 _ (ReflectliteType.abiMethod fun t => do pure (.int .u8 (← Rtype.kind t))) Tryz.func317 (by kernel_rfl) (by kernel_rfl) (by kernel_rfl) (by kernel_rfl)]
  kernel_rfl
theorem aK2_evt (w : World) : (callFunc 317 #[.pointer (some ⟨31, 118, none⟩)]).run Tryz.prog w = .ok (.value (.int .u8 22)) w := by
  rw [@run_callFunc_extern Tryz.prog 317 _ (ReflectliteType.abiMethod fun t => do pure (.int .u8 (← Rtype.kind t))) Tryz.func317 (by kernel_rfl) (by kernel_rfl) (by kernel_rfl) (by kernel_rfl)]
  kernel_rfl
theorem aEl_evt (w : World) : (callFunc 342 #[(Value.agg #[Value.pointer (some (Addr.mk 31 123 none))])]).run Tryz.prog w = .ok (.value (.iface 289 ((Value.agg #[Value.pointer (some (Addr.mk 31 118 none))])))) w := by
  rw [@run_callFunc_extern Tryz.prog 342 _ (ReflectliteType.method ReflectliteType.elem) Tryz.func342 (by kernel_rfl) (by kernel_rfl) (by kernel_rfl) (by kernel_rfl)]
  kernel_rfl
theorem aIm_evt (w : World) : (callFunc 343 #[(Value.agg #[Value.pointer (some (Addr.mk 31 118 none))]), .iface 289 ((Value.agg #[Value.pointer (some (Addr.mk 31 61 none))]))]).run Tryz.prog w = .ok (.value (.bool true)) w := by
  rw [@run_callFunc_extern Tryz.prog 343 _ (ReflectliteType.relation "Implements" ReflectliteType.implements_) Tryz.func343 (by kernel_rfl) (by kernel_rfl) (by kernel_rfl) (by kernel_rfl)]
  kernel_rfl
theorem aAs_evt_err (w : World) : (callFunc 340 #[(Value.agg #[Value.pointer (some (Addr.mk 31 415 none))]), .iface 289 ((Value.agg #[Value.pointer (some (Addr.mk 31 118 none))]))]).run Tryz.prog w = .ok (.value (.bool false)) w := by
  rw [@run_callFunc_extern Tryz.prog 340 _ (ReflectliteType.relation "AssignableTo" ReflectliteType.assignableTo) Tryz.func340 (by kernel_rfl) (by kernel_rfl) (by kernel_rfl) (by kernel_rfl)]
  kernel_rfl
theorem aAs_evt_mem (w : World) : (callFunc 340 #[(Value.agg #[Value.pointer (some (Addr.mk 31 250 none))]), .iface 289 ((Value.agg #[Value.pointer (some (Addr.mk 31 118 none))]))]).run Tryz.prog w = .ok (.value (.bool false)) w := by
  rw [@run_callFunc_extern Tryz.prog 340 _ (ReflectliteType.relation "AssignableTo" ReflectliteType.assignableTo) Tryz.func340 (by kernel_rfl) (by kernel_rfl) (by kernel_rfl) (by kernel_rfl)]
  kernel_rfl
theorem aAs_evt_doc (w : World) : (callFunc 340 #[(Value.agg #[Value.pointer (some (Addr.mk 31 117 none))]), .iface 289 ((Value.agg #[Value.pointer (some (Addr.mk 31 118 none))]))]).run Tryz.prog w = .ok (.value (.bool false)) w := by
  rw [@run_callFunc_extern Tryz.prog 340 _ (ReflectliteType.relation "AssignableTo" ReflectliteType.assignableTo) Tryz.func340 (by kernel_rfl) (by kernel_rfl) (by kernel_rfl) (by kernel_rfl)]
  kernel_rfl
theorem aAs_evt_evt (w : World) : (callFunc 340 #[(Value.agg #[Value.pointer (some (Addr.mk 31 118 none))]), .iface 289 ((Value.agg #[Value.pointer (some (Addr.mk 31 118 none))]))]).run Tryz.prog w = .ok (.value (.bool true)) w := by
  rw [@run_callFunc_extern Tryz.prog 340 _ (ReflectliteType.relation "AssignableTo" ReflectliteType.assignableTo) Tryz.func340 (by kernel_rfl) (by kernel_rfl) (by kernel_rfl) (by kernel_rfl)]
  kernel_rfl
theorem aAs_evt_srv (w : World) : (callFunc 340 #[(Value.agg #[Value.pointer (some (Addr.mk 31 188 none))]), .iface 289 ((Value.agg #[Value.pointer (some (Addr.mk 31 118 none))]))]).run Tryz.prog w = .ok (.value (.bool false)) w := by
  rw [@run_callFunc_extern Tryz.prog 340 _ (ReflectliteType.relation "AssignableTo" ReflectliteType.assignableTo) Tryz.func340 (by kernel_rfl) (by kernel_rfl) (by kernel_rfl) (by kernel_rfl)]
  kernel_rfl
theorem rp1_evt (a : Addr) (w : World) : (ReflectliteValue.parts ((Value.agg #[Value.pointer (some (Addr.mk 31 123 none)), Value.pointer (some a), Value.int IntKind.u64 150]))).run Tryz.prog w = .ok (some (123, a, 150)) w := by kernel_rfl
theorem rp2_evt (a : Addr) (w : World) : (ReflectliteValue.parts ((Value.agg #[Value.pointer (some (Addr.mk 31 118 none)), Value.pointer (some a), Value.int IntKind.u64 150]))).run Tryz.prog w = .ok (some (118, a, 150)) w := by kernel_rfl
theorem rp3_evt (a : Addr) (w : World) : (ReflectliteValue.parts ((Value.agg #[Value.pointer (some (Addr.mk 31 118 none)), Value.pointer (some a), Value.int IntKind.u64 406]))).run Tryz.prog w = .ok (some (118, a, 406)) w := by kernel_rfl
theorem rEl_evt (w : World) : (Rtype.elem? 123).run Tryz.prog w = .ok (some 118) w := by kernel_rfl
theorem rMk_evt (p : Addr) (w : World) : (ReflectliteValue.mk 118 p ReflectliteValue.flagAddr).run Tryz.prog w = .ok ((Value.agg #[Value.pointer (some (Addr.mk 31 118 none)), Value.pointer (some p), Value.int IntKind.u64 406])) w := by kernel_rfl
theorem rDi_evt (w : World) : (Rtype.directlyAssignable 118 118).run Tryz.prog w = .ok true w := by kernel_rfl
theorem aNil_evt (a p : Addr) (W : World) (ha : W.cell? a = some (.pointer (some p))) : (callFunc 116 #[(Value.agg #[Value.pointer (some (Addr.mk 31 123 none)), Value.pointer (some a), Value.int IntKind.u64 150])]).run Tryz.prog W = .ok (.value (.bool false)) W := by
  rw [@run_callFunc_extern Tryz.prog 116 _ (ReflectliteValue.method (ReflectliteValue.valueError "reflectlite.Value.IsNil" 0) ReflectliteValue.isNil) Tryz.func116 (by kernel_rfl) (by kernel_rfl) (by kernel_rfl) (by kernel_rfl)]
  rw [rlm]
  simp only [Sem.run_bind, rp1_evt, Result.andThen]
  simp [ReflectliteValue.isNil, loadVar, isAgg, underlying, Tryz.underlying123, ha, Result.andThen]
theorem aElV_evt (a p : Addr) (W : World) (ha : W.cell? a = some (.pointer (some p))) : (callFunc 165 #[(Value.agg #[Value.pointer (some (Addr.mk 31 123 none)), Value.pointer (some a), Value.int IntKind.u64 150])]).run Tryz.prog W = .ok (.value ((Value.agg #[Value.pointer (some (Addr.mk 31 118 none)), Value.pointer (some p), Value.int IntKind.u64 406]))) W := by
  rw [@run_callFunc_extern Tryz.prog 165 _ (ReflectliteValue.method (ReflectliteValue.valueError "reflectlite.Value.Elem" 0) ReflectliteValue.elem) Tryz.func165 (by kernel_rfl) (by kernel_rfl) (by kernel_rfl) (by kernel_rfl)]
  rw [rlm]
  simp only [Sem.run_bind, rp1_evt, Result.andThen]
  simp [ReflectliteValue.elem, loadVar, isAgg, underlying, Tryz.underlying123, ha, Result.andThen, rEl_evt, rMk_evt]
theorem aSet_evt (ta b e : Addr) (old : Value) (W : World) (hb : W.cell? b = some (.pointer (some e))) (ht : W.cell? ta = some old) (hf : W.frozen? ta = false) :
    (callFunc 166 #[(Value.agg #[Value.pointer (some (Addr.mk 31 118 none)), Value.pointer (some ta), Value.int IntKind.u64 406]), (Value.agg #[Value.pointer (some (Addr.mk 31 118 none)), Value.pointer (some b), Value.int IntKind.u64 150])]).run Tryz.prog W = .ok (.value (.tuple #[])) (W.setCell ta (.pointer (some e))) := by
  rw [@run_callFunc_extern Tryz.prog 166 _ ReflectliteValue.set Tryz.func166 (by kernel_rfl) (by kernel_rfl) (by kernel_rfl) (by kernel_rfl)]
  rw [rls]
  simp only [Sem.run_bind, rp2_evt, rp3_evt, Result.andThen]
  simp [ReflectliteValue.flagAddr, loadVar, isAgg, underlying, Tryz.underlying118, hb, Result.andThen, rDi_evt, storeVar, Value.cells, storeCells, Addr.add]
  rw [run_store Tryz.prog W ta _ _ (by rfl)]
  simp [ht, hf]

end Go.Proofs.YtocligpfmfmihaaGreatDoor
namespace Go.Proofs.YtocligpfmfmihaaGreatDoor
open Go Go.RowKit Go.Extern.Stop Go.Stop Go.Extern

set_option maxRecDepth 20000 in
set_option maxHeartbeats 4000000 in
/-- errors.as on a chain, at *notary.eventFault. -/
theorem asl_evt (w : World) (a : Addr) (ks : List (Lk × ByteArray)) (ev : Value) (hch : Chn w a ks ev) (tb : Nat) (old : Value) (va : Addr) (hva : w.cell? va = some (.pointer (some ⟨tb, 0, none⟩))) (ht0 : w.heap[tb]? = some (.cells #[old] 118)) :
    Calls Tryz.prog 117 #[ev, .iface 123 (.pointer (some ⟨tb, 0, none⟩)), (Value.agg #[Value.pointer (some (Addr.mk 31 123 none)), Value.pointer (some va), Value.int IntKind.u64 150]), .iface 289 ((Value.agg #[Value.pointer (some (Addr.mk 31 118 none))]))] w fun e w' => AsR Lk.evt 118 w tb (ks.find? (fun p => p.1 == Lk.evt)) e w' := by
  have g1 := aW_evt
  have g2 := m_assign
  have g3 := aAs_evt_err
  have g4 := noAsE
  have g5 := noUnwrapE
  have g6 := noUnwrapsE
  have g7 := callTypeOf
  have KB : Kp (fun k => k = tb) w (w.alloc (.cells #[.pointer (some ⟨31, 123, none⟩), .pointer (some va), .int .u64 150] 214)) := (Kp.refl _ w).alloc _
  have hlv := lt_cell hva
  have htl := lt_heap ht0
  have hva1 : (w.alloc (.cells #[.pointer (some ⟨31, 123, none⟩), .pointer (some va), .int .u64 150] 214)).cell? va = some (.pointer (some ⟨tb, 0, none⟩)) := by rw [World.cell?_alloc_lt _ _ va hlv]; exact hva
  have ht1 : (w.alloc (.cells #[.pointer (some ⟨31, 123, none⟩), .pointer (some va), .int .u64 150] 214)).heap[tb]? = some (.cells #[old] 118) := by rw [Below.heap_alloc _ _ _ htl]; exact ht0
  have hch1 : Chn (w.alloc (.cells #[.pointer (some ⟨31, 123, none⟩), .pointer (some va), .int .u64 150] 214)) a ks ev := hch.kp ((Kp.refl _ w).alloc _)
  have HC := hide hch1
  obtain ⟨t0, u0, rfl⟩ := hch.iface
  clear hch hch1 hva ht0 hlv
  go_enter Tryz.func117, Tryz.ntmps117
  go_wp2
  have HK := hide KB
  clear KB
  have hsz : (w.alloc (.cells #[.pointer (some ⟨31, 123, none⟩), .pointer (some va), .int .u64 150] 214)).heap.size = w.heap.size + 1 := by simp
  have hx0 : (w.alloc (.cells #[.pointer (some ⟨31, 123, none⟩), .pointer (some va), .int .u64 150] 214)).cell? ⟨w.heap.size, 0, none⟩ = some (.pointer (some ⟨31, 123, none⟩)) := by simp
  have hx1 : (w.alloc (.cells #[.pointer (some ⟨31, 123, none⟩), .pointer (some va), .int .u64 150] 214)).cell? ⟨w.heap.size, 1, none⟩ = some (.pointer (some va)) := by simp
  have hx2 : (w.alloc (.cells #[.pointer (some ⟨31, 123, none⟩), .pointer (some va), .int .u64 150] 214)).cell? ⟨w.heap.size, 2, none⟩ = some (.int .u64 150) := by simp
  generalize w.alloc (.cells #[.pointer (some ⟨31, 123, none⟩), .pointer (some va), .int .u64 150] 214) = w1 at *
  go_loopg [0] ks.length (fun gg v wr => ∃ ks' : List (Lk × ByteArray), gg = ks'.length ∧ Chn w1 a ks' v ∧ ks'.find? (fun p => p.1 == Lk.evt) = ks.find? (fun p => p.1 == Lk.evt) ∧ wr = w1)
  case atStart => exact ⟨ks, rfl, HC.out, rfl, rfl⟩
  case round =>
    obtain ⟨ks', hgg, hc, hfi, rfl⟩ := hrel
    clear HC
    cases hc with
    | nil =>
      have HF := hide hfi
      clear hgg hfi
      unfold errV
      go_wp2
      go_ret
      exact AsR.none HK.out HF.out.symm
    | cons k ks2 b2 s ev2 hb2 hc2 =>
      have hcell := chn_cell hb2
      have HG := hide hgg
      have HB := hide hb2
      have HF := hide hfi
      have HC2 := hide hc2
      obtain ⟨t2, u2, rfl⟩ := hc2.iface
      clear hgg hc2 hb2 hfi
      cases k with
      | mem =>
        have h1 := callTypeOf_mem
        have h2 := aAs_evt_mem
        have nW := noAs_mem
        have uW := hasUnwrap_mem
        have mU := methodUnwrap_mem
        simp only [Lk.off] at hcell
        simp only [Lk.t]
        go_wp2
        go_roundg ks2.length
        case measure => rw [HG.out]; exact Nat.lt_succ_self _
        case rel => exact ⟨ks2, rfl, HC2.out, HF.out, rfl⟩
      | doc =>
        have h1 := callTypeOf_doc
        have h2 := aAs_evt_doc
        have nW := noAs_doc
        have uW := hasUnwrap_doc
        have mU := methodUnwrap_doc
        simp only [Lk.off] at hcell
        simp only [Lk.t]
        go_wp2
        go_roundg ks2.length
        case measure => rw [HG.out]; exact Nat.lt_succ_self _
        case rel => exact ⟨ks2, rfl, HC2.out, HF.out, rfl⟩
      | evt =>
        have h1 := callTypeOf_evt
        have h2 := aAs_evt_evt
        have h3 := aElV_evt va ⟨tb, 0, none⟩ wr hva1
        have hs2 : (wr.alloc (.cells #[.pointer (some ⟨b2, 0, none⟩)] 118)).heap[tb]? = some (.cells #[old] 118) := by rw [Below.heap_alloc _ _ _ (by omega)]; exact ht1
        obtain ⟨tc, tf⟩ := one_cells hs2
        have h4 := aSet_evt ⟨tb, 0, none⟩ ⟨w.heap.size + 1, 0, none⟩ ⟨b2, 0, none⟩ old (wr.alloc (.cells #[.pointer (some ⟨b2, 0, none⟩)] 118)) (by rw [← hsz]; simp) tc tf
        clear tc tf
        simp only [Lk.off] at hcell
        simp only [Lk.t]
        go_wp2
        go_ret
        rw [set_alloc0 (lt_heap ht1)]
        exact AsR.hit HK.out HF.out HB.out hs2 (by decide) (by decide)
      | srv =>
        have h1 := callTypeOf_srv
        have h2 := aAs_evt_srv
        have nW := noAs_srv
        have uW := hasUnwrap_srv
        have mU := methodUnwrap_srv
        simp only [Lk.off] at hcell
        simp only [Lk.t]
        go_wp2
        go_roundg ks2.length
        case measure => rw [HG.out]; exact Nat.lt_succ_self _
        case rel => exact ⟨ks2, rfl, HC2.out, HF.out, rfl⟩
set_option maxRecDepth 20000 in
set_option maxHeartbeats 4000000 in
/-- errors.As on a chain, at *notary.eventFault. -/
theorem as_evt (w : World) (a : Addr) (ks : List (Lk × ByteArray)) (ev : Value) (hch : Chn w a ks ev) (tb : Nat) (old : Value) (hg : w.cell? ⟨9, 0, none⟩ = some (.iface 289 ((Value.agg #[Value.pointer (some (Addr.mk 31 61 none))])))) (ht0 : w.heap[tb]? = some (.cells #[old] 118)) :
    Calls Tryz.prog 67 #[ev, .iface 123 (.pointer (some ⟨tb, 0, none⟩))] w fun e w' => AsR Lk.evt 118 w tb (ks.find? (fun p => p.1 == Lk.evt)) e w' := by
  have KA : Kp (fun _ => False) w ((w.alloc (.cells #[.pointer (some ⟨tb, 0, none⟩)] 123)).alloc (.cells #[.pointer (some ⟨31, 123, none⟩), .pointer (some ⟨w.heap.size, 0, none⟩), .int .u64 150] 214)) := ((Kp.refl _ w).alloc _).alloc _
  have h1 := aV_evt
  have h2 := aTy_evt
  have h3 := m_kind
  have h4 := m_elem
  have h5 := m_impl
  have h7 := aK1_evt
  have h8 := aK2_evt
  have h9 := aEl_evt
  have h10 := aIm_evt
  have hlt := lt_cell hg
  have hcv : ((w.alloc (.cells #[.pointer (some ⟨tb, 0, none⟩)] 123)).alloc (.cells #[.pointer (some ⟨31, 123, none⟩), .pointer (some ⟨w.heap.size, 0, none⟩), .int .u64 150] 214)).cell? ⟨w.heap.size, 0, none⟩ = some (.pointer (some ⟨tb, 0, none⟩)) := by simp
  have h13 := aNil_evt ⟨w.heap.size, 0, none⟩ ⟨tb, 0, none⟩ _ hcv
  have hg2 : ((w.alloc (.cells #[.pointer (some ⟨tb, 0, none⟩)] 123)).alloc (.cells #[.pointer (some ⟨31, 123, none⟩), .pointer (some ⟨w.heap.size, 0, none⟩), .int .u64 150] 214)).cell? ⟨9, 0, none⟩ = some (.iface 289 ((Value.agg #[Value.pointer (some (Addr.mk 31 61 none))]))) := by
    rw [World.cell?_alloc_lt _ _ ⟨9, 0, none⟩ (by simp at hlt ⊢; omega), World.cell?_alloc_lt _ _ ⟨9, 0, none⟩ hlt]; exact hg
  have HL := hide (asl_evt _ a ks ev (hch.kp KA) tb old ⟨w.heap.size, 0, none⟩ hcv ((KA.block _ (lt_heap ht0) (by simp)).trans ht0))
  have HK := hide KA
  obtain ⟨t0, u0, rfl⟩ := hch.iface
  clear hch KA hcv hlt ht0 hg
  go_enter Tryz.func67, Tryz.ntmps67
  go_wp2_with fail
  refine HL.out.mono ?_
  rintro e w' hr
  obtain ⟨r, rfl⟩ := hr.ret
  go_wp2
  go_ret
  exact hr.before HK.out
end Go.Proofs.YtocligpfmfmihaaGreatDoor
namespace Go.Proofs.YtocligpfmfmihaaGreatDoor
open Go Go.RowKit Go.Maps Go.WideMaps

/-- What the writing leaves: below B all is as it was; what is no row of bytes is as it was. -/
structure Wr (B : Nat) (w w' : World) : Prop where
  below : Below B w w'
  oth : Lib.OthersKept 5 none w w'
variable {B : Nat} {a w w' : World}
theorem Wr.refl (B : Nat) (w : World) : Wr B w w := ⟨Below.refl _ _, Lib.OthersKept.refl _ _ _⟩
theorem Wr.trans {b c : World} (h : Wr B a b) (k : Wr B b c) : Wr B a c := ⟨h.below.trans k.below, fun i o h1 h2 h3 => k.oth i o (h.oth i o h1 h2 h3) h2 h3⟩
theorem Wr.mono {C : Nat} (h : Wr B a w) (hC : C ≤ B) : Wr C a w := ⟨h.below.mono hC, h.oth⟩
theorem Wr.alloc (h : Wr B a w) (hB : B ≤ w.heap.size) (o : Obj) : Wr B a (w.alloc o) :=
  h.trans ⟨(Below.refl _ _).alloc hB o, fun i x h1 _ _ => by rw [Below.heap_alloc _ _ _ (lt_heap h1)]; exact h1⟩
theorem Wr.drewN (h : Wr B a w) (n : Nat) : Wr B a (w.drewN n) := ⟨below_drewN h.below n, h.oth⟩
theorem Wr.grown {v : Value} {n : Nat} {xs : List Value} (h : Wr B a w) (ho : w.ownsRow B 5 1 v n xs) (hg : w.grownBy w' v.ownBlock) (hB : B ≤ w.heap.size) : Wr B a w' := by
  refine h.trans ⟨(Below.refl _ _).grown hg hB (fun k hk => (ho.lt k hk).1), fun i o h1 _ h3 => ?_⟩
  rw [hg.block i (lt_heap h1) ?_]
  · exact h1
  · intro e
    obtain ⟨_, ⟨rfl, _⟩ | ⟨g, cap, cur, rfl, _, hh, _⟩⟩ := ho
    · cases e
    · injection e with e
      subst e
      rw [h1] at hh
      injection hh with hh
      exact h3 _ _ hh
/-- The row that is being written. -/
def Row (B : Nat) (w : World) (v : Value) (o : List UInt8) : Prop := w.ownsRow B 5 1 v o.length (Lib.byteCells o)
theorem Row.old {v : Value} {o : List UInt8} (h : Row B w v o) (hW : ∀ k, v.ownBlock = some k → w'.heap[k]? = w.heap[k]?) : Row B w' v o := ownsRow_heap h hW

mutual
theorem Rep.oth {w w' : World} {F : Nat → Prop} (h : Lib.OthersKept 5 none w w') : ∀ (j : J) {v : Value}, Rep w F j v → Rep w' F j v
  | .null, _, hj => by rw [Rep] at hj ⊢; exact hj
  | .bool _, _, hj => by rw [Rep] at hj ⊢; exact hj
  | .num _, _, hj => by rw [Rep] at hj ⊢; exact hj
  | .str _, _, hj => by rw [Rep] at hj ⊢; exact hj
  | .arr l, _, hj => by
    rw [Rep] at hj ⊢
    obtain ⟨sv, vs, e, ⟨q1, q2⟩, h2, h3⟩ := hj
    refine ⟨sv, vs, e, ⟨q1, ?_⟩, h2, Reps.oth h l h3⟩
    rcases q2 with q | ⟨g, cap, cur, e1, e2, e3, e4⟩
    · exact Or.inl q
    · exact Or.inr ⟨g, cap, cur, e1, e2, h g _ e3 (by simp) (by intro c fz; simp), e4⟩
  | .obj l, _, hj => by
    rw [Rep] at hj ⊢
    obtain ⟨b, m, e, h1, ⟨es, clock, q1, q2⟩, h3⟩ := hj
    exact ⟨b, m, e, h1, ⟨es, clock, h b _ q1 (by simp) (by intro c fz; simp), q2⟩, Repm.oth h l h3⟩
theorem Reps.oth {w w' : World} {F : Nat → Prop} (h : Lib.OthersKept 5 none w w') : ∀ (l : List J) {vs : List Value}, Reps w F l vs → Reps w' F l vs
  | [], _, hj => by rw [Reps] at hj ⊢; exact hj
  | x :: l, _, hj => by
    rw [Reps] at hj ⊢
    obtain ⟨v, r, e, h1, h2⟩ := hj
    exact ⟨v, r, e, Rep.oth h x h1, Reps.oth h l h2⟩
theorem Repm.oth {w w' : World} {F : Nat → Prop} (h : Lib.OthersKept 5 none w w') : ∀ (l : List (Bs × J)) {m : List (Bs × Value)}, Repm w F l m → Repm w' F l m
  | [], _, hj => by rw [Repm] at hj ⊢; exact hj
  | (k, x) :: l, _, hj => by
    rw [Repm] at hj ⊢
    obtain ⟨v, r, e, h1, h2⟩ := hj
    exact ⟨v, r, e, Rep.oth h x h1, Repm.oth h l h2⟩
end

/-- What a part of the writing comes to. -/
def WrR (B : Nat) (w : World) (o : List UInt8) (e : Ending) (w' : World) : Prop := ∃ v', e = .returned v' ∧ Row B w' v' o ∧ Wr B w w'
theorem strCells_eq (s : ByteArray) : Lib.strCells s = Lib.byteCells s.data.toList := by simp [Lib.strCells, Lib.byteCells]
theorem app_str {v v' : Value} {o : List UInt8} {s : ByteArray} {w1 : World} (h : Wr B w w1) (hB : B ≤ w1.heap.size) (hr : Row B w1 v o) (y1 : w'.ownsRow B 5 1 v' (o.length + s.size) (Lib.byteCells o ++ Lib.strCells s)) (y2 : w1.grownBy w' v.ownBlock) :
    Row B w' v' (o ++ s.data.toList) ∧ Wr B w w' := by
  refine ⟨?_, h.grown hr y2 hB⟩
  unfold Row
  rw [byteCells_app, List.length_append, ← strCells_eq]
  have : s.data.toList.length = s.size := by rw [Array.length_toList]; rfl
  rw [this]
  exact y1
theorem app_bytes {v v' : Value} {o l : List UInt8} {w1 : World} {ob : Obj} (h : Wr B w w1) (hB : B ≤ w1.heap.size) (hr : Row B w1 v o) (y1 : w'.ownsRow B 5 1 v' (o.length + l.length) (Lib.byteCells o ++ Lib.byteCells l)) (y2 : (w1.alloc ob).grownBy w' v.ownBlock) :
    Row B w' v' (o ++ l) ∧ Wr B w w' := by
  refine ⟨?_, (h.alloc hB ob).grown (World.ownsRow.alloc hr ob) y2 (by simp; omega)⟩
  unfold Row
  rw [byteCells_app, List.length_append]
  exact y1

theorem appendBool_c (B : Nat) (w : World) (v : Value) (o : List UInt8) (b : Bool) (hr : Row B w v o) (hB : B ≤ w.heap.size) (ho : o.length ≤ 140000000000000) :
    Calls Tryz.prog 118 #[v, .bool b] w fun e w' => WrR B w (o ++ cJ (.bool b)) e w' := by
  obtain ⟨i0, hi, hz0, hz1, hz2⟩ := info_parts info8
  cases b
  · go_enter Tryz.func118, Tryz.ntmps118
    go_wp2_with (first | (at_builtin; refine Lib.wpList_append_own_string _ rfl _ _ 124 9 rfl B 5 i0 Tryz.underlying124 Tryz.underlying9 hi hz0 hz1 hz2 _ _ _ rfl hr ⟨#[102, 97, 108, 115, 101]⟩ rfl (by unfold maxLen; show o.length + 5 ≤ _; omega) (by show o.length + 5 ≤ _; omega) hB ?_; intro v' w1 y1 y2 _) | go_in)
    go_ret
    obtain ⟨z1, z2⟩ := app_str (Wr.refl B w) hB hr y1 y2
    exact ⟨_, rfl, z1, z2⟩
  · go_enter Tryz.func118, Tryz.ntmps118
    go_wp2_with (first | (at_builtin; refine Lib.wpList_append_own_string _ rfl _ _ 124 9 rfl B 5 i0 Tryz.underlying124 Tryz.underlying9 hi hz0 hz1 hz2 _ _ _ rfl hr ⟨#[116, 114, 117, 101]⟩ rfl (by unfold maxLen; show o.length + 4 ≤ _; omega) (by show o.length + 4 ≤ _; omega) hB ?_; intro v' w1 y1 y2 _) | go_in)
    go_ret
    obtain ⟨z1, z2⟩ := app_str (Wr.refl B w) hB hr y1 y2
    exact ⟨_, rfl, z1, z2⟩

theorem cB_ctl {c : UInt8} (h : c.toNat < 32) (h8 : c ≠ 8) (h12 : c ≠ 12) (h10 : c ≠ 10) (h13 : c ≠ 13) (h9 : c ≠ 9) : cB c = [92, 117, 48, 48, hexD (c.toNat / 16), hexD (c.toNat % 16)] := by
  unfold cB
  have h34 : ¬ (c = 34 ∨ c = 92) := by rintro (rfl | rfl) <;> simp at h
  have h32 : c < 32 := by rw [UInt8.lt_iff_toNat_lt]; exact h
  rw [if_neg h34, if_neg h8, if_neg h12, if_neg h10, if_neg h13, if_neg h9, if_pos h32]

set_option maxRecDepth 100000 in
theorem idx_hex (k : Nat) (hk : k < 16) (w : World) : (Instr.index 9 (.string ⟨#[48, 49, 50, 51, 52, 53, 54, 55, 56, 57, 97, 98, 99, 100, 101, 102]⟩) (.int .u8 (k : Int))).run Tryz.prog w = .ok (.int .u8 (hexD k).toNat) w := by
  have : k = 0 ∨ k = 1 ∨ k = 2 ∨ k = 3 ∨ k = 4 ∨ k = 5 ∨ k = 6 ∨ k = 7 ∨ k = 8 ∨ k = 9 ∨ k = 10 ∨ k = 11 ∨ k = 12 ∨ k = 13 ∨ k = 14 ∨ k = 15 := by omega
  rcases this with rfl | rfl | rfl | rfl | rfl | rfl | rfl | rfl | rfl | rfl | rfl | rfl | rfl | rfl | rfl | rfl <;> rfl
theorem cells_new (w : World) (l : List Value) (t : TypeId) : ∀ (j : Nat) (u : Value), l[j]? = some u → (w.alloc (.cells l.toArray t)).cell? ((⟨w.heap.size, 0, none⟩ : Addr).add j) = some u := by
  intro j u h
  have ea : (⟨w.heap.size, 0, none⟩ : Addr).add j = ⟨w.heap.size, j, none⟩ := by
    unfold Addr.add
    by_cases h0 : j = 0 <;> simp [h0]
  rw [ea]
  have := heap_alloc_new w (.cells l.toArray t)
  simp only [World.cell?, this]
  simpa using h
theorem bytes_one (l : List UInt8) : ∀ u ∈ Lib.byteCells l, u.oneCell' = true := by
  intro u hu
  obtain ⟨x, _, rfl⟩ := List.mem_map.1 hu
  rfl
theorem and15 : ∀ k : Nat, k < 32 → bits BinOp.and IntKind.u8 (k : Int) 15 = ((k % 16 : Nat) : Int) := by decide
set_option maxRecDepth 20000 in
theorem appendControl_c (B : Nat) (w : World) (v : Value) (o : List UInt8) (c : UInt8) (hc : c.toNat < 32) (hr : Row B w v o) (hB : B ≤ w.heap.size) (ho : o.length ≤ 140000000000000) :
    Calls Tryz.prog 169 #[v, .int .u8 c.toNat] w fun e w' => WrR B w (o ++ cB c) e w' ∧ Kp (fun k => v.ownBlock = some k) w w' := by
  obtain ⟨i0, hi, hz0, hz1, hz2⟩ := info_parts info8
  by_cases h8 : c = 8
  · subst h8
    go_enter Tryz.func169, Tryz.ntmps169
    go_wp2_with (at_builtin; refine Lib.wpList_append_own_string _ rfl _ _ 124 9 rfl B 5 i0 Tryz.underlying124 Tryz.underlying9 hi hz0 hz1 hz2 _ _ _ rfl hr ⟨#[92, 98]⟩ rfl (by unfold maxLen; show o.length + 2 ≤ _; omega) (by show o.length + 2 ≤ _; omega) hB ?_; intro v' w1 y1 y2 _)
    go_ret
    obtain ⟨z1, z2⟩ := app_str (Wr.refl B w) hB hr y1 y2
    exact ⟨⟨_, rfl, z1, z2⟩, (Kp.refl _ _).grown y2 (fun k hk _ => hk)⟩
  by_cases h12 : c = 12
  · subst h12
    go_enter Tryz.func169, Tryz.ntmps169
    go_wp2_with (at_builtin; refine Lib.wpList_append_own_string _ rfl _ _ 124 9 rfl B 5 i0 Tryz.underlying124 Tryz.underlying9 hi hz0 hz1 hz2 _ _ _ rfl hr ⟨#[92, 102]⟩ rfl (by unfold maxLen; show o.length + 2 ≤ _; omega) (by show o.length + 2 ≤ _; omega) hB ?_; intro v' w1 y1 y2 _)
    go_ret
    obtain ⟨z1, z2⟩ := app_str (Wr.refl B w) hB hr y1 y2
    exact ⟨⟨_, rfl, z1, z2⟩, (Kp.refl _ _).grown y2 (fun k hk _ => hk)⟩
  by_cases h10 : c = 10
  · subst h10
    go_enter Tryz.func169, Tryz.ntmps169
    go_wp2_with (at_builtin; refine Lib.wpList_append_own_string _ rfl _ _ 124 9 rfl B 5 i0 Tryz.underlying124 Tryz.underlying9 hi hz0 hz1 hz2 _ _ _ rfl hr ⟨#[92, 110]⟩ rfl (by unfold maxLen; show o.length + 2 ≤ _; omega) (by show o.length + 2 ≤ _; omega) hB ?_; intro v' w1 y1 y2 _)
    go_ret
    obtain ⟨z1, z2⟩ := app_str (Wr.refl B w) hB hr y1 y2
    exact ⟨⟨_, rfl, z1, z2⟩, (Kp.refl _ _).grown y2 (fun k hk _ => hk)⟩
  by_cases h13 : c = 13
  · subst h13
    go_enter Tryz.func169, Tryz.ntmps169
    go_wp2_with (at_builtin; refine Lib.wpList_append_own_string _ rfl _ _ 124 9 rfl B 5 i0 Tryz.underlying124 Tryz.underlying9 hi hz0 hz1 hz2 _ _ _ rfl hr ⟨#[92, 114]⟩ rfl (by unfold maxLen; show o.length + 2 ≤ _; omega) (by show o.length + 2 ≤ _; omega) hB ?_; intro v' w1 y1 y2 _)
    go_ret
    obtain ⟨z1, z2⟩ := app_str (Wr.refl B w) hB hr y1 y2
    exact ⟨⟨_, rfl, z1, z2⟩, (Kp.refl _ _).grown y2 (fun k hk _ => hk)⟩
  by_cases h9 : c = 9
  · subst h9
    go_enter Tryz.func169, Tryz.ntmps169
    go_wp2_with (at_builtin; refine Lib.wpList_append_own_string _ rfl _ _ 124 9 rfl B 5 i0 Tryz.underlying124 Tryz.underlying9 hi hz0 hz1 hz2 _ _ _ rfl hr ⟨#[92, 116]⟩ rfl (by unfold maxLen; show o.length + 2 ≤ _; omega) (by show o.length + 2 ≤ _; omega) hB ?_; intro v' w1 y1 y2 _)
    go_ret
    obtain ⟨z1, z2⟩ := app_str (Wr.refl B w) hB hr y1 y2
    exact ⟨⟨_, rfl, z1, z2⟩, (Kp.refl _ _).grown y2 (fun k hk _ => hk)⟩
  have n8 : ((c.toNat : Int) == 8) = false := u8n h8
  have n12 : ((c.toNat : Int) == 12) = false := u8n h12
  have n10 : ((c.toNat : Int) == 10) = false := u8n h10
  have n13 : ((c.toNat : Int) == 13) = false := u8n h13
  have n9 : ((c.toNat : Int) == 9) = false := u8n h9
  have hcb := hide (cB_ctl hc h8 h12 h10 h13 h9)
  clear h8 h12 h10 h13 h9
  have hx1 : ∀ w, (Instr.index 9 (.string ⟨#[48, 49, 50, 51, 52, 53, 54, 55, 56, 57, 97, 98, 99, 100, 101, 102]⟩) (.int .u8 ((c.toNat : Int) / 16))).run Tryz.prog w = .ok (.int .u8 (hexD (c.toNat / 16)).toNat) w := fun w => idx_hex (c.toNat / 16) (by omega) w
  have hx2 : ∀ w, (Instr.index 9 (.string ⟨#[48, 49, 50, 51, 52, 53, 54, 55, 56, 57, 97, 98, 99, 100, 101, 102]⟩) (.int .u8 (bits BinOp.and IntKind.u8 (c.toNat : Int) 15))).run Tryz.prog w = .ok (.int .u8 (hexD (c.toNat % 16)).toNat) w := fun w => by
    rw [and15 c.toNat hc]; exact idx_hex (c.toNat % 16) (by omega) w
  have hrd : Row B w.drew v o := hr
  generalize hd1 : hexD (c.toNat / 16) = d1 at *
  generalize hd2 : hexD (c.toNat % 16) = d2 at *
  have HD := hide (And.intro hd1 hd2)
  clear hd1 hd2
  go_enter Tryz.func169, Tryz.ntmps169
  go_wp2_with fail
  go_region_law (refine step_append_own rfl (.tmp 26) (.tmp 33) 124 rfl B 5 i0 (.int .u8 0) 1 1 Tryz.underlying124 hi hz0 hz1 hz2 rfl (by decide) v o.length (Lib.byteCells o) (by simp [Act.eval]) (World.ownsRow.alloc hrd _) ⟨w.heap.size, 0, none⟩ 6 6 (Lib.byteCells [92, 117, 48, 48, d1, d2]) (by simp [Act.eval]) rfl (by exact cells_new w.drew _ _) (bytes_one _) (by unfold maxLen; omega) (by omega) (by simp; omega) ?_; intro v' w3 y1 y2 _)
  all_goals
    obtain ⟨z1, z2⟩ := app_bytes (l := [92, 117, 48, 48, d1, d2]) (w1 := w.drew) (w := w) ⟨(Below.refl _ _).drew, Lib.OthersKept.refl _ _ _⟩ hB hrd y1 y2
    have K9 : Kp (fun k => v.ownBlock = some k) w w3 := (((Kp.refl _ w).drew).alloc _).grown y2 (fun k hk _ => hk)
    have Z := hide (And.intro z1 z2)
    clear z1 z2 y1 y2
    go_wp2
    go_ret
    refine ⟨⟨_, rfl, ?_, Z.out.2⟩, K9⟩
    rw [hcb.out]
    exact Z.out.1
end Go.Proofs.YtocligpfmfmihaaGreatDoor

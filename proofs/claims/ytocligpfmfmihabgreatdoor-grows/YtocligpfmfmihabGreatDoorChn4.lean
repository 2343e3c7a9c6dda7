import Derived.Test.YtocligpfmfmihabGreatDoorChnG
namespace Go.Proofs.YtocligpfmfmihabGreatDoor
open Go Go.RowKit Go.Extern.Stop Go.Stop Go.Extern
theorem aV_doc (t : Addr) (w : World) : (callFunc 75 #[.iface 134 (.pointer (some t))]).run Tryz.prog w = .ok (.value ((Value.agg #[Value.pointer (some (Addr.mk 31 134 none)), Value.pointer (some ⟨w.heap.size, 0, none⟩), Value.int IntKind.u64 150]))) (w.alloc (.cells #[.pointer (some t)] 134)) := by
  rw [@run_callFunc_extern Tryz.prog 75 _ (fun args => ReflectliteValue.unpack (args.getD 0 (.tuple #[]))) Tryz.func75 (by kernel_rfl) (by kernel_rfl) (by kernel_rfl) (by kernel_rfl)]
  kernel_rfl
theorem aW_doc (t : Addr) (w : World) : (callFunc 75 #[.iface 131 (.pointer (some t))]).run Tryz.prog w = .ok (.value ((Value.agg #[Value.pointer (some (Addr.mk 31 131 none)), Value.pointer (some ⟨w.heap.size, 0, none⟩), Value.int IntKind.u64 150]))) (w.alloc (.cells #[.pointer (some t)] 131)) := by
  rw [@run_callFunc_extern Tryz.prog 75 _ (fun args => ReflectliteValue.unpack (args.getD 0 (.tuple #[]))) Tryz.func75 (by kernel_rfl) (by kernel_rfl) (by kernel_rfl) (by kernel_rfl)]
  kernel_rfl
theorem aTy_doc (a : Addr) (w : World) : (callFunc 76 #[(Value.agg #[Value.pointer (some (Addr.mk 31 134 none)), Value.pointer (some a), Value.int IntKind.u64 150])]).run Tryz.prog w = .ok (.value (.iface 237 ((Value.agg #[Value.pointer (some (Addr.mk 31 134 none))])))) w := by
  rw [@run_callFunc_extern Tryz.prog 76 _ (ReflectliteValue.methodAny (ReflectliteValue.valueError "reflectlite.Value.Type" 0) (fun t _ _ _ => ReflectliteType.toType t)) Tryz.func76 (by kernel_rfl) (by kernel_rfl) (by kernel_rfl) (by kernel_rfl)]
  kernel_rfl
theorem aK1_doc (w : World) : (callFunc 249 #[.pointer (some ⟨31, 134, none⟩)]).run Tryz.prog w = .ok (.value (.int .u8 22)) w := by
  rw [@run_callFunc_extern Tryz.prog 249 _ (ReflectliteType.abiMethod fun t => do pure (.int .u8 (← Rtype.kind t))) Tryz.func249 (by kernel_rfl) (by kernel_rfl) (by kernel_rfl) (by kernel_rfl)]
  kernel_rfl
theorem aK2_doc (w : World) : (callFunc 249 #[.pointer (some ⟨31, 131, none⟩)]).run Tryz.prog w = .ok (.value (.int .u8 22)) w := by
  rw [@run_callFunc_extern Tryz.prog 249 _ (ReflectliteType.abiMethod fun t => do pure (.int .u8 (← Rtype.kind t))) Tryz.func249 (by kernel_rfl) (by kernel_rfl) (by kernel_rfl) (by kernel_rfl)]
  kernel_rfl
theorem aEl_doc (w : World) : (callFunc 274 #[(Value.agg #[Value.pointer (some (Addr.mk 31 134 none))])]).run Tryz.prog w = .ok (.value (.iface 237 ((Value.agg #[Value.pointer (some (Addr.mk 31 131 none))])))) w := by
  rw [@run_callFunc_extern Tryz.prog 274 _ (ReflectliteType.method ReflectliteType.elem) Tryz.func274 (by kernel_rfl) (by kernel_rfl) (by kernel_rfl) (by kernel_rfl)]
  kernel_rfl
theorem aIm_doc (w : World) : (callFunc 275 #[(Value.agg #[Value.pointer (some (Addr.mk 31 131 none))]), .iface 237 ((Value.agg #[Value.pointer (some (Addr.mk 31 58 none))]))]).run Tryz.prog w = .ok (.value (.bool true)) w := by
  rw [@run_callFunc_extern Tryz.prog 275 _ (ReflectliteType.relation "Implements" ReflectliteType.implements_) Tryz.func275 (by kernel_rfl) (by kernel_rfl) (by kernel_rfl) (by kernel_rfl)]
  kernel_rfl
theorem aAs_doc_err (w : World) : (callFunc 272 #[(Value.agg #[Value.pointer (some (Addr.mk 31 350 none))]), .iface 237 ((Value.agg #[Value.pointer (some (Addr.mk 31 131 none))]))]).run Tryz.prog w = .ok (.value (.bool false)) w := by
  rw [@run_callFunc_extern Tryz.prog 272 _ (ReflectliteType.relation "AssignableTo" ReflectliteType.assignableTo) Tryz.func272 (by kernel_rfl) (by kernel_rfl) (by kernel_rfl) (by kernel_rfl)]
  kernel_rfl
theorem aAs_doc_mem (w : World) : (callFunc 272 #[(Value.agg #[Value.pointer (some (Addr.mk 31 188 none))]), .iface 237 ((Value.agg #[Value.pointer (some (Addr.mk 31 131 none))]))]).run Tryz.prog w = .ok (.value (.bool false)) w := by
  rw [@run_callFunc_extern Tryz.prog 272 _ (ReflectliteType.relation "AssignableTo" ReflectliteType.assignableTo) Tryz.func272 (by kernel_rfl) (by kernel_rfl) (by kernel_rfl) (by kernel_rfl)]
  kernel_rfl
theorem aAs_doc_doc (w : World) : (callFunc 272 #[(Value.agg #[Value.pointer (some (Addr.mk 31 131 none))]), .iface 237 ((Value.agg #[Value.pointer (some (Addr.mk 31 131 none))]))]).run Tryz.prog w = .ok (.value (.bool true)) w := by
  rw [@run_callFunc_extern Tryz.prog 272 _ (ReflectliteType.relation "AssignableTo" ReflectliteType.assignableTo) Tryz.func272 (by kernel_rfl) (by kernel_rfl) (by kernel_rfl) (by kernel_rfl)]
  kernel_rfl
theorem aAs_doc_evt (w : World) : (callFunc 272 #[(Value.agg #[Value.pointer (some (Addr.mk 31 111 none))]), .iface 237 ((Value.agg #[Value.pointer (some (Addr.mk 31 131 none))]))]).run Tryz.prog w = .ok (.value (.bool false)) w := by
  rw [@run_callFunc_extern Tryz.prog 272 _ (ReflectliteType.relation "AssignableTo" ReflectliteType.assignableTo) Tryz.func272 (by kernel_rfl) (by kernel_rfl) (by kernel_rfl) (by kernel_rfl)]
  kernel_rfl
theorem aAs_doc_srv (w : World) : (callFunc 272 #[(Value.agg #[Value.pointer (some (Addr.mk 31 114 none))]), .iface 237 ((Value.agg #[Value.pointer (some (Addr.mk 31 131 none))]))]).run Tryz.prog w = .ok (.value (.bool false)) w := by
  rw [@run_callFunc_extern Tryz.prog 272 _ (ReflectliteType.relation "AssignableTo" ReflectliteType.assignableTo) Tryz.func272 (by kernel_rfl) (by kernel_rfl) (by kernel_rfl) (by kernel_rfl)]
  kernel_rfl
theorem rp1_doc (a : Addr) (w : World) : (ReflectliteValue.parts ((Value.agg #[Value.pointer (some (Addr.mk 31 134 none)), Value.pointer (some a), Value.int IntKind.u64 150]))).run Tryz.prog w = .ok (some (134, a, 150)) w := by kernel_rfl
theorem rp2_doc (a : Addr) (w : World) : (ReflectliteValue.parts ((Value.agg #[Value.pointer (some (Addr.mk 31 131 none)), Value.pointer (some a), Value.int IntKind.u64 150]))).run Tryz.prog w = .ok (some (131, a, 150)) w := by kernel_rfl
theorem rp3_doc (a : Addr) (w : World) : (ReflectliteValue.parts ((Value.agg #[Value.pointer (some (Addr.mk 31 131 none)), Value.pointer (some a), Value.int IntKind.u64 406]))).run Tryz.prog w = .ok (some (131, a, 406)) w := by kernel_rfl
theorem rEl_doc (w : World) : (Rtype.elem? 134).run Tryz.prog w = .ok (some 131) w := by kernel_rfl
theorem rMk_doc (p : Addr) (w : World) : (ReflectliteValue.mk 131 p ReflectliteValue.flagAddr).run Tryz.prog w = .ok ((Value.agg #[Value.pointer (some (Addr.mk 31 131 none)), Value.pointer (some p), Value.int IntKind.u64 406])) w := by kernel_rfl
theorem rDi_doc (w : World) : (Rtype.directlyAssignable 131 131).run Tryz.prog w = .ok true w := by kernel_rfl
theorem aNil_doc (a p : Addr) (W : World) (ha : W.cell? a = some (.pointer (some p))) : (callFunc 77 #[(Value.agg #[Value.pointer (some (Addr.mk 31 134 none)), Value.pointer (some a), Value.int IntKind.u64 150])]).run Tryz.prog W = .ok (.value (.bool false)) W := by
  rw [@run_callFunc_extern Tryz.prog 77 _ (ReflectliteValue.method (ReflectliteValue.valueError "reflectlite.Value.IsNil" 0) ReflectliteValue.isNil) Tryz.func77 (by kernel_rfl) (by kernel_rfl) (by kernel_rfl) (by kernel_rfl)]
  rw [rlm]
  simp only [Sem.run_bind, rp1_doc, Result.andThen]
  simp [ReflectliteValue.isNil, loadVar, isAgg, underlying, Tryz.underlying134, ha, Result.andThen]
theorem aElV_doc (a p : Addr) (W : World) (ha : W.cell? a = some (.pointer (some p))) : (callFunc 119 #[(Value.agg #[Value.pointer (some (Addr.mk 31 134 none)), Value.pointer (some a), Value.int IntKind.u64 150])]).run Tryz.prog W = .ok (.value ((Value.agg #[Value.pointer (some (Addr.mk 31 131 none)), Value.pointer (some p), Value.int IntKind.u64 406]))) W := by
  rw [@run_callFunc_extern Tryz.prog 119 _ (ReflectliteValue.method (ReflectliteValue.valueError "reflectlite.Value.Elem" 0) ReflectliteValue.elem) Tryz.func119 (by kernel_rfl) (by kernel_rfl) (by kernel_rfl) (by kernel_rfl)]
  rw [rlm]
  simp only [Sem.run_bind, rp1_doc, Result.andThen]
  simp [ReflectliteValue.elem, loadVar, isAgg, underlying, Tryz.underlying134, ha, Result.andThen, rEl_doc, rMk_doc]
theorem aSet_doc (ta b e : Addr) (old : Value) (W : World) (hb : W.cell? b = some (.pointer (some e))) (ht : W.cell? ta = some old) (hf : W.frozen? ta = false) :
    (callFunc 120 #[(Value.agg #[Value.pointer (some (Addr.mk 31 131 none)), Value.pointer (some ta), Value.int IntKind.u64 406]), (Value.agg #[Value.pointer (some (Addr.mk 31 131 none)), Value.pointer (some b), Value.int IntKind.u64 150])]).run Tryz.prog W = .ok (.value (.tuple #[])) (W.setCell ta (.pointer (some e))) := by
  rw [@run_callFunc_extern Tryz.prog 120 _ ReflectliteValue.set Tryz.func120 (by kernel_rfl) (by kernel_rfl) (by kernel_rfl) (by kernel_rfl)]
  rw [rls]
  simp only [Sem.run_bind, rp2_doc, rp3_doc, Result.andThen]
  simp [ReflectliteValue.flagAddr, loadVar, isAgg, underlying, Tryz.underlying131, hb, Result.andThen, rDi_doc, storeVar, Value.cells, storeCells, Addr.add]
  rw [run_store Tryz.prog W ta _ _ (by rfl)]
  simp [ht, hf]

end Go.Proofs.YtocligpfmfmihabGreatDoor

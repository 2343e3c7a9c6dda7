import Derived.Test.YtocligpfmfmihabGreatDoorChnG
namespace Go.Proofs.YtocligpfmfmihabGreatDoor
open Go Go.RowKit Go.Extern.Stop Go.Stop Go.Extern
theorem aV_flt (t : Addr) (w : World) : (callFunc 75 #[.iface 133 (.pointer (some t))]).run Tryz.prog w = .ok (.value ((Value.agg #[Value.pointer (some (Addr.mk 31 133 none)), Value.pointer (some ⟨w.heap.size, 0, none⟩), Value.int IntKind.u64 150]))) (w.alloc (.cells #[.pointer (some t)] 133)) := by
  rw [@run_callFunc_extern Tryz.prog 75 _ (fun args => ReflectliteValue.unpack (args.getD 0 (.tuple #[]))) Tryz.func75 (by kernel_rfl) (by kernel_rfl) (by kernel_rfl) (by kernel_rfl)]
  kernel_rfl
theorem aW_flt (t : Addr) (w : World) : (callFunc 75 #[.iface 130 (.pointer (some t))]).run Tryz.prog w = .ok (.value ((Value.agg #[Value.pointer (some (Addr.mk 31 130 none)), Value.pointer (some ⟨w.heap.size, 0, none⟩), Value.int IntKind.u64 150]))) (w.alloc (.cells #[.pointer (some t)] 130)) := by
  rw [@run_callFunc_extern Tryz.prog 75 _ (fun args => ReflectliteValue.unpack (args.getD 0 (.tuple #[]))) Tryz.func75 (by kernel_rfl) (by kernel_rfl) (by kernel_rfl) (by kernel_rfl)]
  kernel_rfl
theorem aTy_flt (a : Addr) (w : World) : (callFunc 76 #[(Value.agg #[Value.pointer (some (Addr.mk 31 133 none)), Value.pointer (some a), Value.int IntKind.u64 150])]).run Tryz.prog w = .ok (.value (.iface 237 ((Value.agg #[Value.pointer (some (Addr.mk 31 133 none))])))) w := by
  rw [@run_callFunc_extern Tryz.prog 76 _ (ReflectliteValue.methodAny (ReflectliteValue.valueError "reflectlite.Value.Type" 0) (fun t _ _ _ => ReflectliteType.toType t)) Tryz.func76 (by kernel_rfl) (by kernel_rfl) (by kernel_rfl) (by kernel_rfl)]
  kernel_rfl
theorem aK1_flt (w : World) : (callFunc 249 #[.pointer (some ⟨31, 133, none⟩)]).run Tryz.prog w = .ok (.value (.int .u8 22)) w := by
  rw [@run_callFunc_extern Tryz.prog 249 _ (ReflectliteType.abiMethod fun t => do pure (.int .u8 (← Rtype.kind t))) Tryz.func249 (by kernel_rfl) (by kernel_rfl) (by kernel_rfl) (by kernel_rfl)]
  kernel_rfl
theorem aK2_flt (w : World) : (callFunc 249 #[.pointer (some ⟨31, 130, none⟩)]).run Tryz.prog w = .ok (.value (.int .u8 22)) w := by
  rw [@run_callFunc_extern Tryz.prog 249 _ (ReflectliteType.abiMethod fun t => do pure (.int .u8 (← Rtype.kind t))) Tryz.func249 (by kernel_rfl) (by kernel_rfl) (by kernel_rfl) (by kernel_rfl)]
  kernel_rfl
theorem aEl_flt (w : World) : (callFunc 274 #[(Value.agg #[Value.pointer (some (Addr.mk 31 133 none))])]).run Tryz.prog w = .ok (.value (.iface 237 ((Value.agg #[Value.pointer (some (Addr.mk 31 130 none))])))) w := by
  rw [@run_callFunc_extern Tryz.prog 274 _ (ReflectliteType.method ReflectliteType.elem) Tryz.func274 (by kernel_rfl) (by kernel_rfl) (by kernel_rfl) (by kernel_rfl)]
  kernel_rfl
theorem aIm_flt (w : World) : (callFunc 275 #[(Value.agg #[Value.pointer (some (Addr.mk 31 130 none))]), .iface 237 ((Value.agg #[Value.pointer (some (Addr.mk 31 58 none))]))]).run Tryz.prog w = .ok (.value (.bool true)) w := by
  rw [@run_callFunc_extern Tryz.prog 275 _ (ReflectliteType.relation "Implements" ReflectliteType.implements_) Tryz.func275 (by kernel_rfl) (by kernel_rfl) (by kernel_rfl) (by kernel_rfl)]
  kernel_rfl
theorem aAs_flt_err (w : World) : (callFunc 272 #[(Value.agg #[Value.pointer (some (Addr.mk 31 350 none))]), .iface 237 ((Value.agg #[Value.pointer (some (Addr.mk 31 130 none))]))]).run Tryz.prog w = .ok (.value (.bool false)) w := by
  rw [@run_callFunc_extern Tryz.prog 272 _ (ReflectliteType.relation "AssignableTo" ReflectliteType.assignableTo) Tryz.func272 (by kernel_rfl) (by kernel_rfl) (by kernel_rfl) (by kernel_rfl)]
  kernel_rfl
theorem aAs_flt_mem (w : World) : (callFunc 272 #[(Value.agg #[Value.pointer (some (Addr.mk 31 188 none))]), .iface 237 ((Value.agg #[Value.pointer (some (Addr.mk 31 130 none))]))]).run Tryz.prog w = .ok (.value (.bool false)) w := by
  rw [@run_callFunc_extern Tryz.prog 272 _ (ReflectliteType.relation "AssignableTo" ReflectliteType.assignableTo) Tryz.func272 (by kernel_rfl) (by kernel_rfl) (by kernel_rfl) (by kernel_rfl)]
  kernel_rfl
theorem aAs_flt_doc (w : World) : (callFunc 272 #[(Value.agg #[Value.pointer (some (Addr.mk 31 131 none))]), .iface 237 ((Value.agg #[Value.pointer (some (Addr.mk 31 130 none))]))]).run Tryz.prog w = .ok (.value (.bool false)) w := by
  rw [@run_callFunc_extern Tryz.prog 272 _ (ReflectliteType.relation "AssignableTo" ReflectliteType.assignableTo) Tryz.func272 (by kernel_rfl) (by kernel_rfl) (by kernel_rfl) (by kernel_rfl)]
  kernel_rfl
theorem aAs_flt_evt (w : World) : (callFunc 272 #[(Value.agg #[Value.pointer (some (Addr.mk 31 111 none))]), .iface 237 ((Value.agg #[Value.pointer (some (Addr.mk 31 130 none))]))]).run Tryz.prog w = .ok (.value (.bool false)) w := by
  rw [@run_callFunc_extern Tryz.prog 272 _ (ReflectliteType.relation "AssignableTo" ReflectliteType.assignableTo) Tryz.func272 (by kernel_rfl) (by kernel_rfl) (by kernel_rfl) (by kernel_rfl)]
  kernel_rfl
theorem aAs_flt_srv (w : World) : (callFunc 272 #[(Value.agg #[Value.pointer (some (Addr.mk 31 114 none))]), .iface 237 ((Value.agg #[Value.pointer (some (Addr.mk 31 130 none))]))]).run Tryz.prog w = .ok (.value (.bool false)) w := by
  rw [@run_callFunc_extern Tryz.prog 272 _ (ReflectliteType.relation "AssignableTo" ReflectliteType.assignableTo) Tryz.func272 (by kernel_rfl) (by kernel_rfl) (by kernel_rfl) (by kernel_rfl)]
  kernel_rfl
theorem rp1_flt (a : Addr) (w : World) : (ReflectliteValue.parts ((Value.agg #[Value.pointer (some (Addr.mk 31 133 none)), Value.pointer (some a), Value.int IntKind.u64 150]))).run Tryz.prog w = .ok (some (133, a, 150)) w := by kernel_rfl
theorem aNil_flt (a p : Addr) (W : World) (ha : W.cell? a = some (.pointer (some p))) : (callFunc 77 #[(Value.agg #[Value.pointer (some (Addr.mk 31 133 none)), Value.pointer (some a), Value.int IntKind.u64 150])]).run Tryz.prog W = .ok (.value (.bool false)) W := by
  rw [@run_callFunc_extern Tryz.prog 77 _ (ReflectliteValue.method (ReflectliteValue.valueError "reflectlite.Value.IsNil" 0) ReflectliteValue.isNil) Tryz.func77 (by kernel_rfl) (by kernel_rfl) (by kernel_rfl) (by kernel_rfl)]
  rw [rlm]
  simp only [Sem.run_bind, rp1_flt, Result.andThen]
  simp [ReflectliteValue.isNil, loadVar, isAgg, underlying, Tryz.underlying133, ha, Result.andThen]
end Go.Proofs.YtocligpfmfmihabGreatDoor

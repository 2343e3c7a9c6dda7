import Derived.Test.YtocligpfmfmihaaGreatDoorPn2G
namespace Go.Proofs.YtocligpfmfmihaaGreatDoor
open Go Go.RowKit Go.Extern.Stop Go.Stop Go.Extern
def AsR (T : Lk) (pt : TypeId) (w : World) (tb : Nat) (o : Option (Lk × ByteArray)) (e : Ending) (w' : World) : Prop := Kp (fun k => k = tb) w w' ∧ match o with
 | none => e = .returned (.bool false)
 | some p => e = .returned (.bool true) ∧ ∃ b ev, w'.heap[tb]? = some (.cells #[.pointer (some ⟨b, 0, none⟩)] pt) ∧ w'.heap[b]? = some (.cells (T.cs p.2 ev) T.bt)
theorem AsR.ret {T : Lk} {pt : TypeId} {w w' : World} {tb : Nat} {o : Option (Lk × ByteArray)} {e : Ending} (h : AsR T pt w tb o e w') : ∃ b, e = .returned (.bool b) := by
 cases o with
 | none => exact ⟨_, h.2⟩
 | some p => exact ⟨_, h.2.1⟩
theorem AsR.before {T : Lk} {pt : TypeId} {w0 w w' : World} {tb : Nat} {o : Option (Lk × ByteArray)} {e : Ending} (h : AsR T pt w tb o e w') (hk : Kp (fun _ => False) w0 w) : AsR T pt w0 tb o e w' :=
 ⟨(hk.mono (fun _ _ h => h.elim)).trans h.1, h.2⟩
theorem AsR.none {T : Lk} {pt : TypeId} {w w' : World} {tb : Nat} {o : Option (Lk × ByteArray)} (hk : Kp (fun k => k = tb) w w') (ho : o = Option.none) : AsR T pt w tb o (.returned (.bool false)) w' := by
 rw [ho]
 exact ⟨hk, rfl⟩
theorem set_alloc0 {X : World} {q : Nat} {v : Value} {o : Obj} (h : q < X.heap.size) : (X.setCell ⟨q, 0, Option.none⟩ v).alloc o = (X.alloc o).setCell ⟨q, 0, Option.none⟩ v := by
 unfold World.setCell World.alloc
 congr 1
 apply Array.ext_getElem?
 intro j
 simp only [Array.getElem?_push, Array.getElem?_modify, Array.size_modify]
 by_cases hj : j = X.heap.size
 ·subst hj
  have : q ≠ X.heap.size := by omega
  simp [this]
 ·simp [hj]
theorem AsR.hit {T : Lk} {pt U : TypeId} {w w1 : World} {tb b : Nat} {old : Value} {o : Option (Lk × ByteArray)} {s : ByteArray} {ev : Value} {ks : List (Lk × ByteArray)} (hk : Kp (fun k => k = tb) w w1) (ho : ((T, s) :: ks).find? (fun p => p.1 == T) = o) (hb : w1.heap[b]? = some (.cells (T.cs s ev) T.bt)) (ht : (w1.alloc (.cells #[.pointer (some ⟨b, 0, Option.none⟩)] U)).heap[tb]? = some (.cells #[old] pt)) (hne : T.bt ≠ pt) (_ : pt = U) : AsR T pt w tb o (.returned (.bool true)) ((w1.alloc (.cells #[.pointer (some ⟨b, 0, Option.none⟩)] U)).setCell ⟨tb, 0, Option.none⟩ (.pointer (some ⟨b, 0, Option.none⟩))) := by
 have e1 : o = some (T, s) := by rw [← ho]; simp
 have hb1 : (w1.alloc (.cells #[.pointer (some ⟨b, 0, Option.none⟩)] U)).heap[b]? = some (.cells (T.cs s ev) T.bt) := by rw [Below.heap_alloc _ _ _ (lt_heap hb)]; exact hb
 have hbt : b ≠ tb := by
  rintro rfl
  rw [hb1] at ht
  injection ht with ht
  injection ht with _ h2 _
  exact hne h2
 rw [e1]
 refine ⟨(hk.alloc _).setCell (fun _ => rfl) _, rfl, b, ev, one_set ht _, ?_⟩
 rw [heap_set_other (by exact hbt)]
 exact hb1
end Go.Proofs.YtocligpfmfmihaaGreatDoor
namespace Go.Proofs.YtocligpfmfmihaaGreatDoor
open Go Go.RowKit Go.Extern.Stop Go.Stop Go.Extern
theorem aV_flt (t : Addr) (w : World) : (callFunc 114 #[.iface 121 (.pointer (some t))]).run Tryz.prog w = .ok (.value ((Value.agg #[Value.pointer (some (Addr.mk 31 121 none)), Value.pointer (some ⟨w.heap.size, 0, none⟩), Value.int IntKind.u64 150]))) (w.alloc (.cells #[.pointer (some t)] 121)) := by
 rw [@run_callFunc_extern Tryz.prog 114 _ (fun args => ReflectliteValue.unpack (args.getD 0 (.tuple #[]))) Tryz.func114 (by kernel_rfl) (by kernel_rfl) (by kernel_rfl) (by kernel_rfl)]
 kernel_rfl
theorem aW_flt (t : Addr) (w : World) : (callFunc 114 #[.iface 116 (.pointer (some t))]).run Tryz.prog w = .ok (.value ((Value.agg #[Value.pointer (some (Addr.mk 31 116 none)), Value.pointer (some ⟨w.heap.size, 0, none⟩), Value.int IntKind.u64 150]))) (w.alloc (.cells #[.pointer (some t)] 116)) := by
 rw [@run_callFunc_extern Tryz.prog 114 _ (fun args => ReflectliteValue.unpack (args.getD 0 (.tuple #[]))) Tryz.func114 (by kernel_rfl) (by kernel_rfl) (by kernel_rfl) (by kernel_rfl)]
 kernel_rfl
theorem aTy_flt (a : Addr) (w : World) : (callFunc 115 #[(Value.agg #[Value.pointer (some (Addr.mk 31 121 none)), Value.pointer (some a), Value.int IntKind.u64 150])]).run Tryz.prog w = .ok (.value (.iface 289 ((Value.agg #[Value.pointer (some (Addr.mk 31 121 none))])))) w := by
 rw [@run_callFunc_extern Tryz.prog 115 _ (ReflectliteValue.methodAny (ReflectliteValue.valueError "reflectlite.Value.Type" 0) (fun t _ _ _ => ReflectliteType.toType t)) Tryz.func115 (by kernel_rfl) (by kernel_rfl) (by kernel_rfl) (by kernel_rfl)]
 kernel_rfl
theorem aK1_flt (w : World) : (callFunc 317 #[.pointer (some ⟨31, 121, none⟩)]).run Tryz.prog w = .ok (.value (.int .u8 22)) w := by
 rw [@run_callFunc_extern Tryz.prog 317 _ (ReflectliteType.abiMethod fun t => do pure (.int .u8 (← Rtype.kind t))) Tryz.func317 (by kernel_rfl) (by kernel_rfl) (by kernel_rfl) (by kernel_rfl)]
 kernel_rfl
theorem aK2_flt (w : World) : (callFunc 317 #[.pointer (some ⟨31, 116, none⟩)]).run Tryz.prog w = .ok (.value (.int .u8 22)) w := by
 rw [@run_callFunc_extern Tryz.prog 317 _ (ReflectliteType.abiMethod fun t => do pure (.int .u8 (← Rtype.kind t))) Tryz.func317 (by kernel_rfl) (by kernel_rfl) (by kernel_rfl) (by kernel_rfl)]
 kernel_rfl
theorem aEl_flt (w : World) : (callFunc 342 #[(Value.agg #[Value.pointer (some (Addr.mk 31 121 none))])]).run Tryz.prog w = .ok (.value (.iface 289 ((Value.agg #[Value.pointer (some (Addr.mk 31 116 none))])))) w := by
 rw [@run_callFunc_extern Tryz.prog 342 _ (ReflectliteType.method ReflectliteType.elem) Tryz.func342 (by kernel_rfl) (by kernel_rfl) (by kernel_rfl) (by kernel_rfl)]
 kernel_rfl
theorem aIm_flt (w : World) : (callFunc 343 #[(Value.agg #[Value.pointer (some (Addr.mk 31 116 none))]), .iface 289 ((Value.agg #[Value.pointer (some (Addr.mk 31 61 none))]))]).run Tryz.prog w = .ok (.value (.bool true)) w := by
 rw [@run_callFunc_extern Tryz.prog 343 _ (ReflectliteType.relation "Implements" ReflectliteType.implements_) Tryz.func343 (by kernel_rfl) (by kernel_rfl) (by kernel_rfl) (by kernel_rfl)]
 kernel_rfl
theorem aAs_flt_err (w : World) : (callFunc 340 #[(Value.agg #[Value.pointer (some (Addr.mk 31 415 none))]), .iface 289 ((Value.agg #[Value.pointer (some (Addr.mk 31 116 none))]))]).run Tryz.prog w = .ok (.value (.bool false)) w := by
 rw [@run_callFunc_extern Tryz.prog 340 _ (ReflectliteType.relation "AssignableTo" ReflectliteType.assignableTo) Tryz.func340 (by kernel_rfl) (by kernel_rfl) (by kernel_rfl) (by kernel_rfl)]
 kernel_rfl
theorem aAs_flt_mem (w : World) : (callFunc 340 #[(Value.agg #[Value.pointer (some (Addr.mk 31 250 none))]), .iface 289 ((Value.agg #[Value.pointer (some (Addr.mk 31 116 none))]))]).run Tryz.prog w = .ok (.value (.bool false)) w := by
 rw [@run_callFunc_extern Tryz.prog 340 _ (ReflectliteType.relation "AssignableTo" ReflectliteType.assignableTo) Tryz.func340 (by kernel_rfl) (by kernel_rfl) (by kernel_rfl) (by kernel_rfl)]
 kernel_rfl
theorem aAs_flt_doc (w : World) : (callFunc 340 #[(Value.agg #[Value.pointer (some (Addr.mk 31 117 none))]), .iface 289 ((Value.agg #[Value.pointer (some (Addr.mk 31 116 none))]))]).run Tryz.prog w = .ok (.value (.bool false)) w := by
 rw [@run_callFunc_extern Tryz.prog 340 _ (ReflectliteType.relation "AssignableTo" ReflectliteType.assignableTo) Tryz.func340 (by kernel_rfl) (by kernel_rfl) (by kernel_rfl) (by kernel_rfl)]
 kernel_rfl
theorem aAs_flt_evt (w : World) : (callFunc 340 #[(Value.agg #[Value.pointer (some (Addr.mk 31 118 none))]), .iface 289 ((Value.agg #[Value.pointer (some (Addr.mk 31 116 none))]))]).run Tryz.prog w = .ok (.value (.bool false)) w := by
 rw [@run_callFunc_extern Tryz.prog 340 _ (ReflectliteType.relation "AssignableTo" ReflectliteType.assignableTo) Tryz.func340 (by kernel_rfl) (by kernel_rfl) (by kernel_rfl) (by kernel_rfl)]
 kernel_rfl
theorem aAs_flt_srv (w : World) : (callFunc 340 #[(Value.agg #[Value.pointer (some (Addr.mk 31 188 none))]), .iface 289 ((Value.agg #[Value.pointer (some (Addr.mk 31 116 none))]))]).run Tryz.prog w = .ok (.value (.bool false)) w := by
 rw [@run_callFunc_extern Tryz.prog 340 _ (ReflectliteType.relation "AssignableTo" ReflectliteType.assignableTo) Tryz.func340 (by kernel_rfl) (by kernel_rfl) (by kernel_rfl) (by kernel_rfl)]
 kernel_rfl
theorem rp1_flt (a : Addr) (w : World) : (ReflectliteValue.parts ((Value.agg #[Value.pointer (some (Addr.mk 31 121 none)), Value.pointer (some a), Value.int IntKind.u64 150]))).run Tryz.prog w = .ok (some (121, a, 150)) w := by kernel_rfl
theorem aNil_flt (a p : Addr) (W : World) (ha : W.cell? a = some (.pointer (some p))) : (callFunc 116 #[(Value.agg #[Value.pointer (some (Addr.mk 31 121 none)), Value.pointer (some a), Value.int IntKind.u64 150])]).run Tryz.prog W = .ok (.value (.bool false)) W := by
 rw [@run_callFunc_extern Tryz.prog 116 _ (ReflectliteValue.method (ReflectliteValue.valueError "reflectlite.Value.IsNil" 0) ReflectliteValue.isNil) Tryz.func116 (by kernel_rfl) (by kernel_rfl) (by kernel_rfl) (by kernel_rfl)]
 rw [rlm]
 simp only [Sem.run_bind, rp1_flt, Result.andThen]
 simp [ReflectliteValue.isNil, loadVar, isAgg, underlying, Tryz.underlying121, ha, Result.andThen]
end Go.Proofs.YtocligpfmfmihaaGreatDoor
namespace Go.Proofs.YtocligpfmfmihaaGreatDoor
open Go Go.RowKit Go.Extern.Stop Go.Stop Go.Extern
set_option maxRecDepth 20000 in
set_option maxHeartbeats 4000000 in
theorem asl_flt (w : World) (a : Addr) (ks : List (Lk × ByteArray)) (ev : Value) (hch : Chn w a ks ev) (tb : Nat) (old : Value) (va : Addr) (hva : w.cell? va = some (.pointer (some ⟨tb, 0, none⟩))) (ht0 : w.heap[tb]? = some (.cells #[old] 116)) :
  Calls Tryz.prog 117 #[ev, .iface 121 (.pointer (some ⟨tb, 0, none⟩)), (Value.agg #[Value.pointer (some (Addr.mk 31 121 none)), Value.pointer (some va), Value.int IntKind.u64 150]), .iface 289 ((Value.agg #[Value.pointer (some (Addr.mk 31 116 none))]))] w fun e w' => AsR Lk.mem 116 w tb none e w' := by
 have g1 := aW_flt
 have g2 := m_assign
 have g3 := aAs_flt_err
 have g4 := noAsE
 have g5 := noUnwrapE
 have g6 := noUnwrapsE
 have g7 := callTypeOf
 have KB : Kp (fun k => k = tb) w (w.alloc (.cells #[.pointer (some ⟨31, 121, none⟩), .pointer (some va), .int .u64 150] 214)) := (Kp.refl _ w).alloc _
 have hlv := lt_cell hva
 have htl := lt_heap ht0
 have hva1 : (w.alloc (.cells #[.pointer (some ⟨31, 121, none⟩), .pointer (some va), .int .u64 150] 214)).cell? va = some (.pointer (some ⟨tb, 0, none⟩)) := by rw [World.cell?_alloc_lt _ _ va hlv]; exact hva
 have ht1 : (w.alloc (.cells #[.pointer (some ⟨31, 121, none⟩), .pointer (some va), .int .u64 150] 214)).heap[tb]? = some (.cells #[old] 116) := by rw [Below.heap_alloc _ _ _ htl]; exact ht0
 have hch1 : Chn (w.alloc (.cells #[.pointer (some ⟨31, 121, none⟩), .pointer (some va), .int .u64 150] 214)) a ks ev := hch.kp ((Kp.refl _ w).alloc _)
 have HC := hide hch1
 obtain ⟨t0, u0, rfl⟩ := hch.iface
 clear hch hch1 hva ht0 hlv
 go_enter Tryz.func117, Tryz.ntmps117
 go_wp2
 have HK := hide KB
 clear KB
 have hsz : (w.alloc (.cells #[.pointer (some ⟨31, 121, none⟩), .pointer (some va), .int .u64 150] 214)).heap.size = w.heap.size + 1 := by simp
 have hx0 : (w.alloc (.cells #[.pointer (some ⟨31, 121, none⟩), .pointer (some va), .int .u64 150] 214)).cell? ⟨w.heap.size, 0, none⟩ = some (.pointer (some ⟨31, 121, none⟩)) := by simp
 have hx1 : (w.alloc (.cells #[.pointer (some ⟨31, 121, none⟩), .pointer (some va), .int .u64 150] 214)).cell? ⟨w.heap.size, 1, none⟩ = some (.pointer (some va)) := by simp
 have hx2 : (w.alloc (.cells #[.pointer (some ⟨31, 121, none⟩), .pointer (some va), .int .u64 150] 214)).cell? ⟨w.heap.size, 2, none⟩ = some (.int .u64 150) := by simp
 generalize w.alloc (.cells #[.pointer (some ⟨31, 121, none⟩), .pointer (some va), .int .u64 150] 214) = w1 at *
 go_loopg [0] ks.length (fun gg v wr => ∃ ks' : List (Lk × ByteArray), gg = ks'.length ∧ Chn w1 a ks' v ∧ True ∧ wr = w1)
 case atStart => exact ⟨ks, rfl, HC.out, trivial, rfl⟩
 case round =>
  obtain ⟨ks', hgg, hc, hfi, rfl⟩ := hrel
  clear HC
  cases hc with
  | nil =>
   have HF := hide hfi
   clear hgg hfi
   unfold errV
   go_wp2
   go_ret
   exact AsR.none HK.out rfl
  | cons k ks2 b2 s ev2 hb2 hc2 =>
   have hcell := chn_cell hb2
   have HG := hide hgg
   have HB := hide hb2
   have HF := hide hfi
   have HC2 := hide hc2
   obtain ⟨t2, u2, rfl⟩ := hc2.iface
   clear hgg hc2 hb2 hfi
   cases k with
   | mem =>
    have h1 := callTypeOf_mem
    have h2 := aAs_flt_mem
    have nW := noAs_mem
    have uW := hasUnwrap_mem
    have mU := methodUnwrap_mem
    simp only [Lk.off] at hcell
    simp only [Lk.t]
    go_wp2
    go_roundg ks2.length
    case measure => rw [HG.out]; exact Nat.lt_succ_self _
    case rel => exact ⟨ks2, rfl, HC2.out, trivial, rfl⟩
   | doc =>
    have h1 := callTypeOf_doc
    have h2 := aAs_flt_doc
    have nW := noAs_doc
    have uW := hasUnwrap_doc
    have mU := methodUnwrap_doc
    simp only [Lk.off] at hcell
    simp only [Lk.t]
    go_wp2
    go_roundg ks2.length
    case measure => rw [HG.out]; exact Nat.lt_succ_self _
    case rel => exact ⟨ks2, rfl, HC2.out, trivial, rfl⟩
   | evt =>
    have h1 := callTypeOf_evt
    have h2 := aAs_flt_evt
    have nW := noAs_evt
    have uW := hasUnwrap_evt
    have mU := methodUnwrap_evt
    simp only [Lk.off] at hcell
    simp only [Lk.t]
    go_wp2
    go_roundg ks2.length
    case measure => rw [HG.out]; exact Nat.lt_succ_self _
    case rel => exact ⟨ks2, rfl, HC2.out, trivial, rfl⟩
   | srv =>
    have h1 := callTypeOf_srv
    have h2 := aAs_flt_srv
    have nW := noAs_srv
    have uW := hasUnwrap_srv
    have mU := methodUnwrap_srv
    simp only [Lk.off] at hcell
    simp only [Lk.t]
    go_wp2
    go_roundg ks2.length
    case measure => rw [HG.out]; exact Nat.lt_succ_self _
    case rel => exact ⟨ks2, rfl, HC2.out, trivial, rfl⟩
set_option maxRecDepth 20000 in
set_option maxHeartbeats 4000000 in
theorem as_flt (w : World) (a : Addr) (ks : List (Lk × ByteArray)) (ev : Value) (hch : Chn w a ks ev) (tb : Nat) (old : Value) (hg : w.cell? ⟨9, 0, none⟩ = some (.iface 289 ((Value.agg #[Value.pointer (some (Addr.mk 31 61 none))])))) (ht0 : w.heap[tb]? = some (.cells #[old] 116)) :
  Calls Tryz.prog 67 #[ev, .iface 121 (.pointer (some ⟨tb, 0, none⟩))] w fun e w' => AsR Lk.mem 116 w tb none e w' := by
 have KA : Kp (fun _ => False) w ((w.alloc (.cells #[.pointer (some ⟨tb, 0, none⟩)] 121)).alloc (.cells #[.pointer (some ⟨31, 121, none⟩), .pointer (some ⟨w.heap.size, 0, none⟩), .int .u64 150] 214)) := ((Kp.refl _ w).alloc _).alloc _
 have h1 := aV_flt
 have h2 := aTy_flt
 have h3 := m_kind
 have h4 := m_elem
 have h5 := m_impl
 have h7 := aK1_flt
 have h8 := aK2_flt
 have h9 := aEl_flt
 have h10 := aIm_flt
 have hlt := lt_cell hg
 have hcv : ((w.alloc (.cells #[.pointer (some ⟨tb, 0, none⟩)] 121)).alloc (.cells #[.pointer (some ⟨31, 121, none⟩), .pointer (some ⟨w.heap.size, 0, none⟩), .int .u64 150] 214)).cell? ⟨w.heap.size, 0, none⟩ = some (.pointer (some ⟨tb, 0, none⟩)) := by simp
 have h13 := aNil_flt ⟨w.heap.size, 0, none⟩ ⟨tb, 0, none⟩ _ hcv
 have hg2 : ((w.alloc (.cells #[.pointer (some ⟨tb, 0, none⟩)] 121)).alloc (.cells #[.pointer (some ⟨31, 121, none⟩), .pointer (some ⟨w.heap.size, 0, none⟩), .int .u64 150] 214)).cell? ⟨9, 0, none⟩ = some (.iface 289 ((Value.agg #[Value.pointer (some (Addr.mk 31 61 none))]))) := by
  rw [World.cell?_alloc_lt _ _ ⟨9, 0, none⟩ (by simp at hlt ⊢; omega), World.cell?_alloc_lt _ _ ⟨9, 0, none⟩ hlt]; exact hg
 have HL := hide (asl_flt _ a ks ev (hch.kp KA) tb old ⟨w.heap.size, 0, none⟩ hcv ((KA.block _ (lt_heap ht0) (by simp)).trans ht0))
 have HK := hide KA
 obtain ⟨t0, u0, rfl⟩ := hch.iface
 clear hch KA hcv hlt ht0 hg
 go_enter Tryz.func67, Tryz.ntmps67
 go_wp2_with fail
 refine HL.out.mono ?_
 rintro e w' hr
 obtain ⟨r, rfl⟩ := hr.ret
 go_wp2
 go_ret
 exact hr.before HK.out
end Go.Proofs.YtocligpfmfmihaaGreatDoor
namespace Go.Proofs.YtocligpfmfmihaaGreatDoor
open Go Go.RowKit Go.Extern.Stop Go.Stop Go.Extern
theorem aV_doc (t : Addr) (w : World) : (callFunc 114 #[.iface 122 (.pointer (some t))]).run Tryz.prog w = .ok (.value ((Value.agg #[Value.pointer (some (Addr.mk 31 122 none)), Value.pointer (some ⟨w.heap.size, 0, none⟩), Value.int IntKind.u64 150]))) (w.alloc (.cells #[.pointer (some t)] 122)) := by
 rw [@run_callFunc_extern Tryz.prog 114 _ (fun args => ReflectliteValue.unpack (args.getD 0 (.tuple #[]))) Tryz.func114 (by kernel_rfl) (by kernel_rfl) (by kernel_rfl) (by kernel_rfl)]
 kernel_rfl
theorem aW_doc (t : Addr) (w : World) : (callFunc 114 #[.iface 117 (.pointer (some t))]).run Tryz.prog w = .ok (.value ((Value.agg #[Value.pointer (some (Addr.mk 31 117 none)), Value.pointer (some ⟨w.heap.size, 0, none⟩), Value.int IntKind.u64 150]))) (w.alloc (.cells #[.pointer (some t)] 117)) := by
 rw [@run_callFunc_extern Tryz.prog 114 _ (fun args => ReflectliteValue.unpack (args.getD 0 (.tuple #[]))) Tryz.func114 (by kernel_rfl) (by kernel_rfl) (by kernel_rfl) (by kernel_rfl)]
 kernel_rfl
theorem aTy_doc (a : Addr) (w : World) : (callFunc 115 #[(Value.agg #[Value.pointer (some (Addr.mk 31 122 none)), Value.pointer (some a), Value.int IntKind.u64 150])]).run Tryz.prog w = .ok (.value (.iface 289 ((Value.agg #[Value.pointer (some (Addr.mk 31 122 none))])))) w := by
 rw [@run_callFunc_extern Tryz.prog 115 _ (ReflectliteValue.methodAny (ReflectliteValue.valueError "reflectlite.Value.Type" 0) (fun t _ _ _ => ReflectliteType.toType t)) Tryz.func115 (by kernel_rfl) (by kernel_rfl) (by kernel_rfl) (by kernel_rfl)]
 kernel_rfl
theorem aK1_doc (w : World) : (callFunc 317 #[.pointer (some ⟨31, 122, none⟩)]).run Tryz.prog w = .ok (.value (.int .u8 22)) w := by
 rw [@run_callFunc_extern Tryz.prog 317 _ (ReflectliteType.abiMethod fun t => do pure (.int .u8 (← Rtype.kind t))) Tryz.func317 (by kernel_rfl) (by kernel_rfl) (by kernel_rfl) (by kernel_rfl)]
 kernel_rfl
theorem aK2_doc (w : World) : (callFunc 317 #[.pointer (some ⟨31, 117, none⟩)]).run Tryz.prog w = .ok (.value (.int .u8 22)) w := by
 rw [@run_callFunc_extern Tryz.prog 317 _ (ReflectliteType.abiMethod fun t => do pure (.int .u8 (← Rtype.kind t))) Tryz.func317 (by kernel_rfl) (by kernel_rfl) (by kernel_rfl) (by kernel_rfl)]
 kernel_rfl
theorem aEl_doc (w : World) : (callFunc 342 #[(Value.agg #[Value.pointer (some (Addr.mk 31 122 none))])]).run Tryz.prog w = .ok (.value (.iface 289 ((Value.agg #[Value.pointer (some (Addr.mk 31 117 none))])))) w := by
 rw [@run_callFunc_extern Tryz.prog 342 _ (ReflectliteType.method ReflectliteType.elem) Tryz.func342 (by kernel_rfl) (by kernel_rfl) (by kernel_rfl) (by kernel_rfl)]
 kernel_rfl
theorem aIm_doc (w : World) : (callFunc 343 #[(Value.agg #[Value.pointer (some (Addr.mk 31 117 none))]), .iface 289 ((Value.agg #[Value.pointer (some (Addr.mk 31 61 none))]))]).run Tryz.prog w = .ok (.value (.bool true)) w := by
 rw [@run_callFunc_extern Tryz.prog 343 _ (ReflectliteType.relation "Implements" ReflectliteType.implements_) Tryz.func343 (by kernel_rfl) (by kernel_rfl) (by kernel_rfl) (by kernel_rfl)]
 kernel_rfl
theorem aAs_doc_err (w : World) : (callFunc 340 #[(Value.agg #[Value.pointer (some (Addr.mk 31 415 none))]), .iface 289 ((Value.agg #[Value.pointer (some (Addr.mk 31 117 none))]))]).run Tryz.prog w = .ok (.value (.bool false)) w := by
 rw [@run_callFunc_extern Tryz.prog 340 _ (ReflectliteType.relation "AssignableTo" ReflectliteType.assignableTo) Tryz.func340 (by kernel_rfl) (by kernel_rfl) (by kernel_rfl) (by kernel_rfl)]
 kernel_rfl
theorem aAs_doc_mem (w : World) : (callFunc 340 #[(Value.agg #[Value.pointer (some (Addr.mk 31 250 none))]), .iface 289 ((Value.agg #[Value.pointer (some (Addr.mk 31 117 none))]))]).run Tryz.prog w = .ok (.value (.bool false)) w := by
 rw [@run_callFunc_extern Tryz.prog 340 _ (ReflectliteType.relation "AssignableTo" ReflectliteType.assignableTo) Tryz.func340 (by kernel_rfl) (by kernel_rfl) (by kernel_rfl) (by kernel_rfl)]
 kernel_rfl
theorem aAs_doc_doc (w : World) : (callFunc 340 #[(Value.agg #[Value.pointer (some (Addr.mk 31 117 none))]), .iface 289 ((Value.agg #[Value.pointer (some (Addr.mk 31 117 none))]))]).run Tryz.prog w = .ok (.value (.bool true)) w := by
 rw [@run_callFunc_extern Tryz.prog 340 _ (ReflectliteType.relation "AssignableTo" ReflectliteType.assignableTo) Tryz.func340 (by kernel_rfl) (by kernel_rfl) (by kernel_rfl) (by kernel_rfl)]
 kernel_rfl
theorem aAs_doc_evt (w : World) : (callFunc 340 #[(Value.agg #[Value.pointer (some (Addr.mk 31 118 none))]), .iface 289 ((Value.agg #[Value.pointer (some (Addr.mk 31 117 none))]))]).run Tryz.prog w = .ok (.value (.bool false)) w := by
 rw [@run_callFunc_extern Tryz.prog 340 _ (ReflectliteType.relation "AssignableTo" ReflectliteType.assignableTo) Tryz.func340 (by kernel_rfl) (by kernel_rfl) (by kernel_rfl) (by kernel_rfl)]
 kernel_rfl
theorem aAs_doc_srv (w : World) : (callFunc 340 #[(Value.agg #[Value.pointer (some (Addr.mk 31 188 none))]), .iface 289 ((Value.agg #[Value.pointer (some (Addr.mk 31 117 none))]))]).run Tryz.prog w = .ok (.value (.bool false)) w := by
 rw [@run_callFunc_extern Tryz.prog 340 _ (ReflectliteType.relation "AssignableTo" ReflectliteType.assignableTo) Tryz.func340 (by kernel_rfl) (by kernel_rfl) (by kernel_rfl) (by kernel_rfl)]
 kernel_rfl
theorem rp1_doc (a : Addr) (w : World) : (ReflectliteValue.parts ((Value.agg #[Value.pointer (some (Addr.mk 31 122 none)), Value.pointer (some a), Value.int IntKind.u64 150]))).run Tryz.prog w = .ok (some (122, a, 150)) w := by kernel_rfl
theorem rp2_doc (a : Addr) (w : World) : (ReflectliteValue.parts ((Value.agg #[Value.pointer (some (Addr.mk 31 117 none)), Value.pointer (some a), Value.int IntKind.u64 150]))).run Tryz.prog w = .ok (some (117, a, 150)) w := by kernel_rfl
theorem rp3_doc (a : Addr) (w : World) : (ReflectliteValue.parts ((Value.agg #[Value.pointer (some (Addr.mk 31 117 none)), Value.pointer (some a), Value.int IntKind.u64 406]))).run Tryz.prog w = .ok (some (117, a, 406)) w := by kernel_rfl
theorem rEl_doc (w : World) : (Rtype.elem? 122).run Tryz.prog w = .ok (some 117) w := by kernel_rfl
theorem rMk_doc (p : Addr) (w : World) : (ReflectliteValue.mk 117 p ReflectliteValue.flagAddr).run Tryz.prog w = .ok ((Value.agg #[Value.pointer (some (Addr.mk 31 117 none)), Value.pointer (some p), Value.int IntKind.u64 406])) w := by kernel_rfl
theorem rDi_doc (w : World) : (Rtype.directlyAssignable 117 117).run Tryz.prog w = .ok true w := by kernel_rfl
theorem aNil_doc (a p : Addr) (W : World) (ha : W.cell? a = some (.pointer (some p))) : (callFunc 116 #[(Value.agg #[Value.pointer (some (Addr.mk 31 122 none)), Value.pointer (some a), Value.int IntKind.u64 150])]).run Tryz.prog W = .ok (.value (.bool false)) W := by
 rw [@run_callFunc_extern Tryz.prog 116 _ (ReflectliteValue.method (ReflectliteValue.valueError "reflectlite.Value.IsNil" 0) ReflectliteValue.isNil) Tryz.func116 (by kernel_rfl) (by kernel_rfl) (by kernel_rfl) (by kernel_rfl)]
 rw [rlm]
 simp only [Sem.run_bind, rp1_doc, Result.andThen]
 simp [ReflectliteValue.isNil, loadVar, isAgg, underlying, Tryz.underlying122, ha, Result.andThen]
theorem aElV_doc (a p : Addr) (W : World) (ha : W.cell? a = some (.pointer (some p))) : (callFunc 165 #[(Value.agg #[Value.pointer (some (Addr.mk 31 122 none)), Value.pointer (some a), Value.int IntKind.u64 150])]).run Tryz.prog W = .ok (.value ((Value.agg #[Value.pointer (some (Addr.mk 31 117 none)), Value.pointer (some p), Value.int IntKind.u64 406]))) W := by
 rw [@run_callFunc_extern Tryz.prog 165 _ (ReflectliteValue.method (ReflectliteValue.valueError "reflectlite.Value.Elem" 0) ReflectliteValue.elem) Tryz.func165 (by kernel_rfl) (by kernel_rfl) (by kernel_rfl) (by kernel_rfl)]
 rw [rlm]
 simp only [Sem.run_bind, rp1_doc, Result.andThen]
 simp [ReflectliteValue.elem, loadVar, isAgg, underlying, Tryz.underlying122, ha, Result.andThen, rEl_doc, rMk_doc]
theorem aSet_doc (ta b e : Addr) (old : Value) (W : World) (hb : W.cell? b = some (.pointer (some e))) (ht : W.cell? ta = some old) (hf : W.frozen? ta = false) :
  (callFunc 166 #[(Value.agg #[Value.pointer (some (Addr.mk 31 117 none)), Value.pointer (some ta), Value.int IntKind.u64 406]), (Value.agg #[Value.pointer (some (Addr.mk 31 117 none)), Value.pointer (some b), Value.int IntKind.u64 150])]).run Tryz.prog W = .ok (.value (.tuple #[])) (W.setCell ta (.pointer (some e))) := by
 rw [@run_callFunc_extern Tryz.prog 166 _ ReflectliteValue.set Tryz.func166 (by kernel_rfl) (by kernel_rfl) (by kernel_rfl) (by kernel_rfl)]
 rw [rls]
 simp only [Sem.run_bind, rp2_doc, rp3_doc, Result.andThen]
 simp [ReflectliteValue.flagAddr, loadVar, isAgg, underlying, Tryz.underlying117, hb, Result.andThen, rDi_doc, storeVar, Value.cells, storeCells, Addr.add]
 rw [run_store Tryz.prog W ta _ _ (by rfl)]
 simp [ht, hf]
end Go.Proofs.YtocligpfmfmihaaGreatDoor
namespace Go.Proofs.YtocligpfmfmihaaGreatDoor
open Go Go.RowKit Go.Extern.Stop Go.Stop Go.Extern
set_option maxRecDepth 20000 in
set_option maxHeartbeats 4000000 in
theorem asl_doc (w : World) (a : Addr) (ks : List (Lk × ByteArray)) (ev : Value) (hch : Chn w a ks ev) (tb : Nat) (old : Value) (va : Addr) (hva : w.cell? va = some (.pointer (some ⟨tb, 0, none⟩))) (ht0 : w.heap[tb]? = some (.cells #[old] 117)) :
  Calls Tryz.prog 117 #[ev, .iface 122 (.pointer (some ⟨tb, 0, none⟩)), (Value.agg #[Value.pointer (some (Addr.mk 31 122 none)), Value.pointer (some va), Value.int IntKind.u64 150]), .iface 289 ((Value.agg #[Value.pointer (some (Addr.mk 31 117 none))]))] w fun e w' => AsR Lk.doc 117 w tb (ks.find? (fun p => p.1 == Lk.doc)) e w' := by
 have g1 := aW_doc
 have g2 := m_assign
 have g3 := aAs_doc_err
 have g4 := noAsE
 have g5 := noUnwrapE
 have g6 := noUnwrapsE
 have g7 := callTypeOf
 have KB : Kp (fun k => k = tb) w (w.alloc (.cells #[.pointer (some ⟨31, 122, none⟩), .pointer (some va), .int .u64 150] 214)) := (Kp.refl _ w).alloc _
 have hlv := lt_cell hva
 have htl := lt_heap ht0
 have hva1 : (w.alloc (.cells #[.pointer (some ⟨31, 122, none⟩), .pointer (some va), .int .u64 150] 214)).cell? va = some (.pointer (some ⟨tb, 0, none⟩)) := by rw [World.cell?_alloc_lt _ _ va hlv]; exact hva
 have ht1 : (w.alloc (.cells #[.pointer (some ⟨31, 122, none⟩), .pointer (some va), .int .u64 150] 214)).heap[tb]? = some (.cells #[old] 117) := by rw [Below.heap_alloc _ _ _ htl]; exact ht0
 have hch1 : Chn (w.alloc (.cells #[.pointer (some ⟨31, 122, none⟩), .pointer (some va), .int .u64 150] 214)) a ks ev := hch.kp ((Kp.refl _ w).alloc _)
 have HC := hide hch1
 obtain ⟨t0, u0, rfl⟩ := hch.iface
 clear hch hch1 hva ht0 hlv
 go_enter Tryz.func117, Tryz.ntmps117
 go_wp2
 have HK := hide KB
 clear KB
 have hsz : (w.alloc (.cells #[.pointer (some ⟨31, 122, none⟩), .pointer (some va), .int .u64 150] 214)).heap.size = w.heap.size + 1 := by simp
 have hx0 : (w.alloc (.cells #[.pointer (some ⟨31, 122, none⟩), .pointer (some va), .int .u64 150] 214)).cell? ⟨w.heap.size, 0, none⟩ = some (.pointer (some ⟨31, 122, none⟩)) := by simp
 have hx1 : (w.alloc (.cells #[.pointer (some ⟨31, 122, none⟩), .pointer (some va), .int .u64 150] 214)).cell? ⟨w.heap.size, 1, none⟩ = some (.pointer (some va)) := by simp
 have hx2 : (w.alloc (.cells #[.pointer (some ⟨31, 122, none⟩), .pointer (some va), .int .u64 150] 214)).cell? ⟨w.heap.size, 2, none⟩ = some (.int .u64 150) := by simp
 generalize w.alloc (.cells #[.pointer (some ⟨31, 122, none⟩), .pointer (some va), .int .u64 150] 214) = w1 at *
 go_loopg [0] ks.length (fun gg v wr => ∃ ks' : List (Lk × ByteArray), gg = ks'.length ∧ Chn w1 a ks' v ∧ ks'.find? (fun p => p.1 == Lk.doc) = ks.find? (fun p => p.1 == Lk.doc) ∧ wr = w1)
 case atStart => exact ⟨ks, rfl, HC.out, rfl, rfl⟩
 case round =>
  obtain ⟨ks', hgg, hc, hfi, rfl⟩ := hrel
  clear HC
  cases hc with
  | nil =>
   have HF := hide hfi
   clear hgg hfi
   unfold errV
   go_wp2
   go_ret
   exact AsR.none HK.out HF.out.symm
  | cons k ks2 b2 s ev2 hb2 hc2 =>
   have hcell := chn_cell hb2
   have HG := hide hgg
   have HB := hide hb2
   have HF := hide hfi
   have HC2 := hide hc2
   obtain ⟨t2, u2, rfl⟩ := hc2.iface
   clear hgg hc2 hb2 hfi
   cases k with
   | mem =>
    have h1 := callTypeOf_mem
    have h2 := aAs_doc_mem
    have nW := noAs_mem
    have uW := hasUnwrap_mem
    have mU := methodUnwrap_mem
    simp only [Lk.off] at hcell
    simp only [Lk.t]
    go_wp2
    go_roundg ks2.length
    case measure => rw [HG.out]; exact Nat.lt_succ_self _
    case rel => exact ⟨ks2, rfl, HC2.out, HF.out, rfl⟩
   | doc =>
    have h1 := callTypeOf_doc
    have h2 := aAs_doc_doc
    have h3 := aElV_doc va ⟨tb, 0, none⟩ wr hva1
    have hs2 : (wr.alloc (.cells #[.pointer (some ⟨b2, 0, none⟩)] 117)).heap[tb]? = some (.cells #[old] 117) := by rw [Below.heap_alloc _ _ _ (by omega)]; exact ht1
    obtain ⟨tc, tf⟩ := one_cells hs2
    have h4 := aSet_doc ⟨tb, 0, none⟩ ⟨w.heap.size + 1, 0, none⟩ ⟨b2, 0, none⟩ old (wr.alloc (.cells #[.pointer (some ⟨b2, 0, none⟩)] 117)) (by rw [← hsz]; simp) tc tf
    clear tc tf
    simp only [Lk.off] at hcell
    simp only [Lk.t]
    go_wp2
    go_ret
    rw [set_alloc0 (lt_heap ht1)]
    exact AsR.hit HK.out HF.out HB.out hs2 (by decide) (by decide)
   | evt =>
    have h1 := callTypeOf_evt
    have h2 := aAs_doc_evt
    have nW := noAs_evt
    have uW := hasUnwrap_evt
    have mU := methodUnwrap_evt
    simp only [Lk.off] at hcell
    simp only [Lk.t]
    go_wp2
    go_roundg ks2.length
    case measure => rw [HG.out]; exact Nat.lt_succ_self _
    case rel => exact ⟨ks2, rfl, HC2.out, HF.out, rfl⟩
   | srv =>
    have h1 := callTypeOf_srv
    have h2 := aAs_doc_srv
    have nW := noAs_srv
    have uW := hasUnwrap_srv
    have mU := methodUnwrap_srv
    simp only [Lk.off] at hcell
    simp only [Lk.t]
    go_wp2
    go_roundg ks2.length
    case measure => rw [HG.out]; exact Nat.lt_succ_self _
    case rel => exact ⟨ks2, rfl, HC2.out, HF.out, rfl⟩
set_option maxRecDepth 20000 in
set_option maxHeartbeats 4000000 in
theorem as_doc (w : World) (a : Addr) (ks : List (Lk × ByteArray)) (ev : Value) (hch : Chn w a ks ev) (tb : Nat) (old : Value) (hg : w.cell? ⟨9, 0, none⟩ = some (.iface 289 ((Value.agg #[Value.pointer (some (Addr.mk 31 61 none))])))) (ht0 : w.heap[tb]? = some (.cells #[old] 117)) :
  Calls Tryz.prog 67 #[ev, .iface 122 (.pointer (some ⟨tb, 0, none⟩))] w fun e w' => AsR Lk.doc 117 w tb (ks.find? (fun p => p.1 == Lk.doc)) e w' := by
 have KA : Kp (fun _ => False) w ((w.alloc (.cells #[.pointer (some ⟨tb, 0, none⟩)] 122)).alloc (.cells #[.pointer (some ⟨31, 122, none⟩), .pointer (some ⟨w.heap.size, 0, none⟩), .int .u64 150] 214)) := ((Kp.refl _ w).alloc _).alloc _
 have h1 := aV_doc
 have h2 := aTy_doc
 have h3 := m_kind
 have h4 := m_elem
 have h5 := m_impl
 have h7 := aK1_doc
 have h8 := aK2_doc
 have h9 := aEl_doc
 have h10 := aIm_doc
 have hlt := lt_cell hg
 have hcv : ((w.alloc (.cells #[.pointer (some ⟨tb, 0, none⟩)] 122)).alloc (.cells #[.pointer (some ⟨31, 122, none⟩), .pointer (some ⟨w.heap.size, 0, none⟩), .int .u64 150] 214)).cell? ⟨w.heap.size, 0, none⟩ = some (.pointer (some ⟨tb, 0, none⟩)) := by simp
 have h13 := aNil_doc ⟨w.heap.size, 0, none⟩ ⟨tb, 0, none⟩ _ hcv
 have hg2 : ((w.alloc (.cells #[.pointer (some ⟨tb, 0, none⟩)] 122)).alloc (.cells #[.pointer (some ⟨31, 122, none⟩), .pointer (some ⟨w.heap.size, 0, none⟩), .int .u64 150] 214)).cell? ⟨9, 0, none⟩ = some (.iface 289 ((Value.agg #[Value.pointer (some (Addr.mk 31 61 none))]))) := by
  rw [World.cell?_alloc_lt _ _ ⟨9, 0, none⟩ (by simp at hlt ⊢; omega), World.cell?_alloc_lt _ _ ⟨9, 0, none⟩ hlt]; exact hg
 have HL := hide (asl_doc _ a ks ev (hch.kp KA) tb old ⟨w.heap.size, 0, none⟩ hcv ((KA.block _ (lt_heap ht0) (by simp)).trans ht0))
 have HK := hide KA
 obtain ⟨t0, u0, rfl⟩ := hch.iface
 clear hch KA hcv hlt ht0 hg
 go_enter Tryz.func67, Tryz.ntmps67
 go_wp2_with fail
 refine HL.out.mono ?_
 rintro e w' hr
 obtain ⟨r, rfl⟩ := hr.ret
 go_wp2
 go_ret
 exact hr.before HK.out
end Go.Proofs.YtocligpfmfmihaaGreatDoor

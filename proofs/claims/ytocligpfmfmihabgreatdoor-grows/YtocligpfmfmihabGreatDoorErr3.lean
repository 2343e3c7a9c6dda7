import Derived.Test.YtocligpfmfmihabGreatDoorRef10G
import Derived.Test.YtocligpfmfmihabGreatDoorPar
namespace Go.Proofs.YtocligpfmfmihabGreatDoor
open Go Go.RowKit Go.Extern.Stop Go.Stop Go.Extern

theorem rls (v x : Value) : ReflectliteValue.set #[v, x] = (do
    let (some (dst, a, fl), some (src, b, _)) := (← ReflectliteValue.parts v, ← ReflectliteValue.parts x)
      | unsupported (.noEntry "extern/(internal/reflectlite.Value).Set.zeroValue")
    if fl / ReflectliteValue.flagAddr % 2 == 0 then unsupported (.noEntry "extern/(internal/reflectlite.Value).Set.unaddressable")
    let val ← loadVar src b
    if ← Rtype.directlyAssignable dst src then storeVar dst a val
    else if ← Rtype.implements dst src then
      if (← Rtype.kind src) == 20 then
        match val with
        | .nilIface => unsupported (.noEntry "extern/reflectlite: a nil value of one interface type handed on as a value of another")
        | _ => storeVar dst a val
      else storeVar dst a (.iface src val)
    else panicString ("reflectlite.Set: value of type " ++ (← Rtype.spelt src) ++ " is not assignable to type " ++ (← Rtype.spelt dst))
    pure (.tuple #[])) := rfl
theorem c_set (ta b e : Addr) (old : Value) (W : World) (hb : W.cell? b = some (.pointer (some e))) (ht : W.cell? ta = some old) (hf : W.frozen? ta = false) :
    (callFunc 120 #[(Value.agg #[Value.pointer (some (Addr.mk 31 130 none)), Value.pointer (some ta), Value.int IntKind.u64 406]), (Value.agg #[Value.pointer (some (Addr.mk 31 130 none)), Value.pointer (some b), Value.int IntKind.u64 150])]).run Tryz.prog W = .ok (.value (.tuple #[])) (W.setCell ta (.pointer (some e))) := by
  rw [@run_callFunc_extern Tryz.prog 120 _ ReflectliteValue.set Tryz.func120 (by kernel_rfl) (by kernel_rfl) (by kernel_rfl) (by kernel_rfl)]
  rw [rls]
  simp only [Sem.run_bind, r_parts2, r_parts3, Result.andThen]
  simp [ReflectliteValue.flagAddr, loadVar, isAgg, underlying, Tryz.underlying130, hb, Result.andThen, r_direct, storeVar, Value.cells, storeCells, Addr.add]
  rw [run_store Tryz.prog W ta _ _ (by rfl)]
  simp [ht, hf]

theorem lt_cell {w : World} {a : Addr} {v : Value} (h : w.cell? a = some v) : a.block < w.heap.size := by
  rcases Nat.lt_or_ge a.block w.heap.size with h1 | h1
  · exact h1
  · simp [World.cell?, Array.getElem?_eq_none h1] at h
/-- What errors.As lays before it looks at the error. -/
def asW (t : Addr) (w : World) : World := ((w.alloc (.cells #[.pointer (some t)] 133)).alloc (.cells #[.pointer (some ⟨31, 133, none⟩), .pointer (some ⟨w.heap.size, 0, none⟩), .int .u64 150] 178))
set_option maxRecDepth 20000 in
set_option maxHeartbeats 4000000 in
theorem as_hit (fb tb : Nat) (old : Value) (w : World) (hg : w.cell? ⟨6, 0, none⟩ = some (.iface 237 ((Value.agg #[Value.pointer (some (Addr.mk 31 58 none))])))) (ht0 : w.heap[tb]? = some (.cells #[old] 130)) :
    Calls Tryz.prog 46 #[.iface 130 (.pointer (some ⟨fb, 0, none⟩)), .iface 133 (.pointer (some ⟨tb, 0, none⟩))] w fun ev w' => ev = .returned (.bool true) ∧ Kp (fun k => k = tb) w w' := by
  have h1 := c_valueOf
  have h1' := c_valueOfF
  have h2 := c_type
  have h3 := m_kind
  have h4 := m_elem
  have h5 := m_impl
  have h6 := m_assign
  have h7 := c_kind1
  have h8 := c_kind2
  have h9 := c_elem
  have h10 := c_impl
  have h11 := c_assF
  have h12 := c_typeOfF
  have h13 := c_isNil ⟨w.heap.size, 0, none⟩ ⟨tb, 0, none⟩ (asW ⟨tb, 0, none⟩ w) (by unfold asW; simp)
  have hlt := lt_cell hg
  have htl := lt_heap ht0
  have hg2 : (asW ⟨tb, 0, none⟩ w).cell? ⟨6, 0, none⟩ = some (.iface 237 ((Value.agg #[Value.pointer (some (Addr.mk 31 58 none))]))) := by
    unfold asW
    rw [World.cell?_alloc_lt _ _ ⟨6, 0, none⟩ (by simp at hlt ⊢; omega), World.cell?_alloc_lt _ _ ⟨6, 0, none⟩ hlt]; exact hg
  have hsz : (asW ⟨tb, 0, none⟩ w).heap.size = w.heap.size + 2 := by unfold asW; simp
  have hK : Kp (fun k => k = tb) w (asW ⟨tb, 0, none⟩ w) := by unfold asW; exact ((Kp.refl _ _).alloc _).alloc _
  have h14 := c_elemV ⟨w.heap.size, 0, none⟩ ⟨tb, 0, none⟩ ((asW ⟨tb, 0, none⟩ w).alloc (.cells #[.pointer (some ⟨31, 133, none⟩), .pointer (some ⟨w.heap.size, 0, none⟩), .int .u64 150] 178)) (by rw [World.cell?_alloc_lt _ _ ⟨w.heap.size, 0, none⟩ (by rw [hsz]; simp)]; unfold asW; simp)
  have hK3 : Kp (fun k => k = tb) w (((asW ⟨tb, 0, none⟩ w).alloc (.cells #[.pointer (some ⟨31, 133, none⟩), .pointer (some ⟨w.heap.size, 0, none⟩), .int .u64 150] 178)).alloc (.cells #[.pointer (some ⟨fb, 0, none⟩)] 130)) := (hK.alloc _).alloc _
  have hsz3 : (((asW ⟨tb, 0, none⟩ w).alloc (.cells #[.pointer (some ⟨31, 133, none⟩), .pointer (some ⟨w.heap.size, 0, none⟩), .int .u64 150] 178)).alloc (.cells #[.pointer (some ⟨fb, 0, none⟩)] 130)).heap.size = w.heap.size + 4 := by simp [hsz]
  have ht1 : (((asW ⟨tb, 0, none⟩ w).alloc (.cells #[.pointer (some ⟨31, 133, none⟩), .pointer (some ⟨w.heap.size, 0, none⟩), .int .u64 150] 178)).alloc (.cells #[.pointer (some ⟨fb, 0, none⟩)] 130)).heap[tb]? = some (.cells #[old] 130) := by
    rw [Below.heap_alloc _ _ _ (by simp [hsz]; omega), Below.heap_alloc _ _ _ (by omega)]
    unfold asW
    rw [Below.heap_alloc _ _ _ (by simp; omega), Below.heap_alloc _ _ _ htl]
    exact ht0
  obtain ⟨tc, tf⟩ := one_cells ht1
  have h15 := c_set ⟨tb, 0, none⟩ ⟨w.heap.size + 1 + 1 + 1, 0, none⟩ ⟨fb, 0, none⟩ old (((asW ⟨tb, 0, none⟩ w).alloc (.cells #[.pointer (some ⟨31, 133, none⟩), .pointer (some ⟨w.heap.size, 0, none⟩), .int .u64 150] 178)).alloc (.cells #[.pointer (some ⟨fb, 0, none⟩)] 130)) (by rw [World.cell?_alloc_at _ _ _ _ (by simp [hsz])]; rfl) tc tf
  clear ht1 tc tf hsz
  have HK := hide hK3
  clear hK hK3 hsz3
  unfold asW at h13 hg2 h14 h15 HK
  go_enter Tryz.func46, Tryz.ntmps46
  go_wp2
  refine wp_loop_rounds 1 ?_
  rw [rounds_succ]
  go_wp2
  go_ret
  exact ⟨rfl, HK.out.setCell (fun _ => rfl) _⟩
set_option maxRecDepth 20000 in
set_option maxHeartbeats 4000000 in
theorem as_miss (eb : Addr) (tb : Nat) (old : Value) (w : World) (hg : w.cell? ⟨6, 0, none⟩ = some (.iface 237 ((Value.agg #[Value.pointer (some (Addr.mk 31 58 none))])))) (ht0 : w.heap[tb]? = some (.cells #[old] 130)) :
    Calls Tryz.prog 46 #[errV eb, .iface 133 (.pointer (some ⟨tb, 0, none⟩))] w fun ev w' => ev = .returned (.bool false) ∧ Kp (fun _ => False) w w' := by
  have h1 := c_valueOf
  have h1' := c_valueOfF
  have h2 := c_type
  have h3 := m_kind
  have h4 := m_elem
  have h5 := m_impl
  have h6 := m_assign
  have h7 := c_kind1
  have h8 := c_kind2
  have h9 := c_elem
  have h10 := c_impl
  have h11 := c_assF
  have h12 := c_typeOfF
  have h13 := c_isNil ⟨w.heap.size, 0, none⟩ ⟨tb, 0, none⟩ (asW ⟨tb, 0, none⟩ w) (by unfold asW; simp)
  have hlt := lt_cell hg
  have htl := lt_heap ht0
  have hg2 : (asW ⟨tb, 0, none⟩ w).cell? ⟨6, 0, none⟩ = some (.iface 237 ((Value.agg #[Value.pointer (some (Addr.mk 31 58 none))]))) := by
    unfold asW
    rw [World.cell?_alloc_lt _ _ ⟨6, 0, none⟩ (by simp at hlt ⊢; omega), World.cell?_alloc_lt _ _ ⟨6, 0, none⟩ hlt]; exact hg
  have h14 := c_assE
  have h15 := callTypeOf
  have h16 := noAsE
  have h17 := noUnwrapE
  have h18 := noUnwrapsE
  unfold asW at h13 hg2
  unfold errV
  go_enter Tryz.func46, Tryz.ntmps46
  go_wp2
  refine wp_loop_rounds 1 ?_
  rw [rounds_succ]
  go_wp2
  go_ret
  exact ⟨rfl, (((Kp.refl _ _).alloc _).alloc _).alloc _⟩
end Go.Proofs.YtocligpfmfmihabGreatDoor

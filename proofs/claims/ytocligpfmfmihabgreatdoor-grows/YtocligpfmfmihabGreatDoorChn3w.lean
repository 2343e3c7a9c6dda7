import Derived.Test.YtocligpfmfmihabGreatDoorChn3
namespace Go.Proofs.YtocligpfmfmihabGreatDoor
open Go Go.RowKit Go.Extern.Stop Go.Stop Go.Extern

set_option maxRecDepth 20000 in
set_option maxHeartbeats 4000000 in
/-- errors.as on a chain, at *value.Fault. -/
theorem asl_flt (w : World) (a : Addr) (ks : List (Lk × ByteArray)) (ev : Value) (hch : Chn w a ks ev) (tb : Nat) (old : Value) (va : Addr) (hva : w.cell? va = some (.pointer (some ⟨tb, 0, none⟩))) (ht0 : w.heap[tb]? = some (.cells #[old] 130)) :
    Calls Tryz.prog 78 #[ev, .iface 133 (.pointer (some ⟨tb, 0, none⟩)), (Value.agg #[Value.pointer (some (Addr.mk 31 133 none)), Value.pointer (some va), Value.int IntKind.u64 150]), .iface 237 ((Value.agg #[Value.pointer (some (Addr.mk 31 130 none))]))] w fun e w' => AsR Lk.mem 130 w tb none e w' := by
  have g1 := aW_flt
  have g2 := m_assign
  have g3 := aAs_flt_err
  have g4 := noAsE
  have g5 := noUnwrapE
  have g6 := noUnwrapsE
  have g7 := callTypeOf
  have KB : Kp (fun k => k = tb) w (w.alloc (.cells #[.pointer (some ⟨31, 133, none⟩), .pointer (some va), .int .u64 150] 178)) := (Kp.refl _ w).alloc _
  have hlv := lt_cell hva
  have htl := lt_heap ht0
  have hva1 : (w.alloc (.cells #[.pointer (some ⟨31, 133, none⟩), .pointer (some va), .int .u64 150] 178)).cell? va = some (.pointer (some ⟨tb, 0, none⟩)) := by rw [World.cell?_alloc_lt _ _ va hlv]; exact hva
  have ht1 : (w.alloc (.cells #[.pointer (some ⟨31, 133, none⟩), .pointer (some va), .int .u64 150] 178)).heap[tb]? = some (.cells #[old] 130) := by rw [Below.heap_alloc _ _ _ htl]; exact ht0
  have hch1 : Chn (w.alloc (.cells #[.pointer (some ⟨31, 133, none⟩), .pointer (some va), .int .u64 150] 178)) a ks ev := hch.kp ((Kp.refl _ w).alloc _)
  have HC := hide hch1
  obtain ⟨t0, u0, rfl⟩ := hch.iface
  clear hch hch1 hva ht0 hlv
  go_enter Tryz.func78, Tryz.ntmps78
  go_wp2
  have HK := hide KB
  clear KB
  have hsz : (w.alloc (.cells #[.pointer (some ⟨31, 133, none⟩), .pointer (some va), .int .u64 150] 178)).heap.size = w.heap.size + 1 := by simp
  have hx0 : (w.alloc (.cells #[.pointer (some ⟨31, 133, none⟩), .pointer (some va), .int .u64 150] 178)).cell? ⟨w.heap.size, 0, none⟩ = some (.pointer (some ⟨31, 133, none⟩)) := by simp
  have hx1 : (w.alloc (.cells #[.pointer (some ⟨31, 133, none⟩), .pointer (some va), .int .u64 150] 178)).cell? ⟨w.heap.size, 1, none⟩ = some (.pointer (some va)) := by simp
  have hx2 : (w.alloc (.cells #[.pointer (some ⟨31, 133, none⟩), .pointer (some va), .int .u64 150] 178)).cell? ⟨w.heap.size, 2, none⟩ = some (.int .u64 150) := by simp
  generalize w.alloc (.cells #[.pointer (some ⟨31, 133, none⟩), .pointer (some va), .int .u64 150] 178) = w1 at *
  go_loopg [0] ks.length (fun gg v wr => ∃ ks' : List (Lk × ByteArray), gg = ks'.length ∧ Chn w1 a ks' v ∧ True ∧ wr = w1)
  case atStart => exact ⟨ks, rfl, HC.out, trivial, rfl⟩
  case round =>
    obtain ⟨ks', hgg, hc, hfi, rfl⟩ := hrel
    clear HC
    cases hc with
    | nil =>
      have HF := hide hfi
      clear hgg hfi
      unfold errV
      go_wp2
      go_ret
      exact AsR.none HK.out rfl
    | cons k ks2 b2 s ev2 hb2 hc2 =>
      have hcell := chn_cell hb2
      have HG := hide hgg
      have HB := hide hb2
      have HF := hide hfi
      have HC2 := hide hc2
      obtain ⟨t2, u2, rfl⟩ := hc2.iface
      clear hgg hc2 hb2 hfi
      cases k with
      | mem =>
        have h1 := callTypeOf_mem
        have h2 := aAs_flt_mem
        have nW := noAs_mem
        have uW := hasUnwrap_mem
        have mU := methodUnwrap_mem
        simp only [Lk.off] at hcell
        simp only [Lk.t]
        go_wp2
        go_roundg ks2.length
        case measure => rw [HG.out]; exact Nat.lt_succ_self _
        case rel => exact ⟨ks2, rfl, HC2.out, trivial, rfl⟩
      | doc =>
        have h1 := callTypeOf_doc
        have h2 := aAs_flt_doc
        have nW := noAs_doc
        have uW := hasUnwrap_doc
        have mU := methodUnwrap_doc
        simp only [Lk.off] at hcell
        simp only [Lk.t]
        go_wp2
        go_roundg ks2.length
        case measure => rw [HG.out]; exact Nat.lt_succ_self _
        case rel => exact ⟨ks2, rfl, HC2.out, trivial, rfl⟩
      | evt =>
        have h1 := callTypeOf_evt
        have h2 := aAs_flt_evt
        have nW := noAs_evt
        have uW := hasUnwrap_evt
        have mU := methodUnwrap_evt
        simp only [Lk.off] at hcell
        simp only [Lk.t]
        go_wp2
        go_roundg ks2.length
        case measure => rw [HG.out]; exact Nat.lt_succ_self _
        case rel => exact ⟨ks2, rfl, HC2.out, trivial, rfl⟩
      | srv =>
        have h1 := callTypeOf_srv
        have h2 := aAs_flt_srv
        have nW := noAs_srv
        have uW := hasUnwrap_srv
        have mU := methodUnwrap_srv
        simp only [Lk.off] at hcell
        simp only [Lk.t]
        go_wp2
        go_roundg ks2.length
        case measure => rw [HG.out]; exact Nat.lt_succ_self _
        case rel => exact ⟨ks2, rfl, HC2.out, trivial, rfl⟩
set_option maxRecDepth 20000 in
set_option maxHeartbeats 4000000 in
/-- errors.As on a chain, at *value.Fault. -/
theorem as_flt (w : World) (a : Addr) (ks : List (Lk × ByteArray)) (ev : Value) (hch : Chn w a ks ev) (tb : Nat) (old : Value) (hg : w.cell? ⟨6, 0, none⟩ = some (.iface 237 ((Value.agg #[Value.pointer (some (Addr.mk 31 58 none))])))) (ht0 : w.heap[tb]? = some (.cells #[old] 130)) :
    Calls Tryz.prog 46 #[ev, .iface 133 (.pointer (some ⟨tb, 0, none⟩))] w fun e w' => AsR Lk.mem 130 w tb none e w' := by
  have KA : Kp (fun _ => False) w ((w.alloc (.cells #[.pointer (some ⟨tb, 0, none⟩)] 133)).alloc (.cells #[.pointer (some ⟨31, 133, none⟩), .pointer (some ⟨w.heap.size, 0, none⟩), .int .u64 150] 178)) := ((Kp.refl _ w).alloc _).alloc _
  have h1 := aV_flt
  have h2 := aTy_flt
  have h3 := m_kind
  have h4 := m_elem
  have h5 := m_impl
  have h7 := aK1_flt
  have h8 := aK2_flt
  have h9 := aEl_flt
  have h10 := aIm_flt
  have hlt := lt_cell hg
  have hcv : ((w.alloc (.cells #[.pointer (some ⟨tb, 0, none⟩)] 133)).alloc (.cells #[.pointer (some ⟨31, 133, none⟩), .pointer (some ⟨w.heap.size, 0, none⟩), .int .u64 150] 178)).cell? ⟨w.heap.size, 0, none⟩ = some (.pointer (some ⟨tb, 0, none⟩)) := by simp
  have h13 := aNil_flt ⟨w.heap.size, 0, none⟩ ⟨tb, 0, none⟩ _ hcv
  have hg2 : ((w.alloc (.cells #[.pointer (some ⟨tb, 0, none⟩)] 133)).alloc (.cells #[.pointer (some ⟨31, 133, none⟩), .pointer (some ⟨w.heap.size, 0, none⟩), .int .u64 150] 178)).cell? ⟨6, 0, none⟩ = some (.iface 237 ((Value.agg #[Value.pointer (some (Addr.mk 31 58 none))]))) := by
    rw [World.cell?_alloc_lt _ _ ⟨6, 0, none⟩ (by simp at hlt ⊢; omega), World.cell?_alloc_lt _ _ ⟨6, 0, none⟩ hlt]; exact hg
  have HL := hide (asl_flt _ a ks ev (hch.kp KA) tb old ⟨w.heap.size, 0, none⟩ hcv ((KA.block _ (lt_heap ht0) (by simp)).trans ht0))
  have HK := hide KA
  obtain ⟨t0, u0, rfl⟩ := hch.iface
  clear hch KA hcv hlt ht0 hg
  go_enter Tryz.func46, Tryz.ntmps46
  go_wp2_with fail
  refine HL.out.mono ?_
  rintro e w' hr
  obtain ⟨r, rfl⟩ := hr.ret
  go_wp2
  go_ret
  exact hr.before HK.out
end Go.Proofs.YtocligpfmfmihabGreatDoor

import Derived.Test.YtocligpfmfmihabGreatDoorChn6
import Derived.Test.YtocligpfmfmihabGreatDoorErr3
import Derived.Test.YtocligpfmfmihabGreatDoorPr2G
import Derived.Test.YtocligpfmfmihabGreatDoorPn8G
import Derived.Test.YtocligpfmfmihabGreatDoorRea8G
import Derived.Test.YtocligpfmfmihabGreatDoorHon5G
import Derived.Test.YtocligpfmfmihabGreatDoorSgn2G
import Derived.Test.YtocligpfmfmihabGreatDoorSemG
namespace Go.Proofs.YtocligpfmfmihabGreatDoor
open Go Go.RowKit Go.Extern.Stop Go.Stop Go.Extern

set_option maxRecDepth 20000 in
set_option maxHeartbeats 4000000 in
/-- errors.as on a chain, at *notary.serverFault. -/
theorem asl_srv (w : World) (a : Addr) (ks : List (Lk × ByteArray)) (ev : Value) (hch : Chn w a ks ev) (tb : Nat) (old : Value) (va : Addr) (hva : w.cell? va = some (.pointer (some ⟨tb, 0, none⟩))) (ht0 : w.heap[tb]? = some (.cells #[old] 114)) :
    Calls Tryz.prog 78 #[ev, .iface 116 (.pointer (some ⟨tb, 0, none⟩)), (Value.agg #[Value.pointer (some (Addr.mk 31 116 none)), Value.pointer (some va), Value.int IntKind.u64 150]), .iface 237 ((Value.agg #[Value.pointer (some (Addr.mk 31 114 none))]))] w fun e w' => AsR Lk.srv 114 w tb (ks.find? (fun p => p.1 == Lk.srv)) e w' := by
  have g1 := aW_srv
  have g2 := m_assign
  have g3 := aAs_srv_err
  have g4 := noAsE
  have g5 := noUnwrapE
  have g6 := noUnwrapsE
  have g7 := callTypeOf
  have KB : Kp (fun k => k = tb) w (w.alloc (.cells #[.pointer (some ⟨31, 116, none⟩), .pointer (some va), .int .u64 150] 178)) := (Kp.refl _ w).alloc _
  have hlv := lt_cell hva
  have htl := lt_heap ht0
  have hva1 : (w.alloc (.cells #[.pointer (some ⟨31, 116, none⟩), .pointer (some va), .int .u64 150] 178)).cell? va = some (.pointer (some ⟨tb, 0, none⟩)) := by rw [World.cell?_alloc_lt _ _ va hlv]; exact hva
  have ht1 : (w.alloc (.cells #[.pointer (some ⟨31, 116, none⟩), .pointer (some va), .int .u64 150] 178)).heap[tb]? = some (.cells #[old] 114) := by rw [Below.heap_alloc _ _ _ htl]; exact ht0
  have hch1 : Chn (w.alloc (.cells #[.pointer (some ⟨31, 116, none⟩), .pointer (some va), .int .u64 150] 178)) a ks ev := hch.kp ((Kp.refl _ w).alloc _)
  have HC := hide hch1
  obtain ⟨t0, u0, rfl⟩ := hch.iface
  clear hch hch1 hva ht0 hlv
  go_enter Tryz.func78, Tryz.ntmps78
  go_wp2
  have HK := hide KB
  clear KB
  have hsz : (w.alloc (.cells #[.pointer (some ⟨31, 116, none⟩), .pointer (some va), .int .u64 150] 178)).heap.size = w.heap.size + 1 := by simp
  have hx0 : (w.alloc (.cells #[.pointer (some ⟨31, 116, none⟩), .pointer (some va), .int .u64 150] 178)).cell? ⟨w.heap.size, 0, none⟩ = some (.pointer (some ⟨31, 116, none⟩)) := by simp
  have hx1 : (w.alloc (.cells #[.pointer (some ⟨31, 116, none⟩), .pointer (some va), .int .u64 150] 178)).cell? ⟨w.heap.size, 1, none⟩ = some (.pointer (some va)) := by simp
  have hx2 : (w.alloc (.cells #[.pointer (some ⟨31, 116, none⟩), .pointer (some va), .int .u64 150] 178)).cell? ⟨w.heap.size, 2, none⟩ = some (.int .u64 150) := by simp
  generalize w.alloc (.cells #[.pointer (some ⟨31, 116, none⟩), .pointer (some va), .int .u64 150] 178) = w1 at *
  go_loopg [0] ks.length (fun gg v wr => ∃ ks' : List (Lk × ByteArray), gg = ks'.length ∧ Chn w1 a ks' v ∧ ks'.find? (fun p => p.1 == Lk.srv) = ks.find? (fun p => p.1 == Lk.srv) ∧ wr = w1)
  case atStart => exact ⟨ks, rfl, HC.out, rfl, rfl⟩
  case round =>
    obtain ⟨ks', hgg, hc, hfi, rfl⟩ := hrel
    clear HC
    cases hc with
    | nil =>
      have HF := hide hfi
      clear hgg hfi
      unfold errV
      go_wp2
      go_ret
      exact AsR.none HK.out HF.out.symm
    | cons k ks2 b2 s ev2 hb2 hc2 =>
      have hcell := chn_cell hb2
      have HG := hide hgg
      have HB := hide hb2
      have HF := hide hfi
      have HC2 := hide hc2
      obtain ⟨t2, u2, rfl⟩ := hc2.iface
      clear hgg hc2 hb2 hfi
      cases k with
      | mem =>
        have h1 := callTypeOf_mem
        have h2 := aAs_srv_mem
        have nW := noAs_mem
        have uW := hasUnwrap_mem
        have mU := methodUnwrap_mem
        simp only [Lk.off] at hcell
        simp only [Lk.t]
        go_wp2
        go_roundg ks2.length
        case measure => rw [HG.out]; exact Nat.lt_succ_self _
        case rel => exact ⟨ks2, rfl, HC2.out, HF.out, rfl⟩
      | doc =>
        have h1 := callTypeOf_doc
        have h2 := aAs_srv_doc
        have nW := noAs_doc
        have uW := hasUnwrap_doc
        have mU := methodUnwrap_doc
        simp only [Lk.off] at hcell
        simp only [Lk.t]
        go_wp2
        go_roundg ks2.length
        case measure => rw [HG.out]; exact Nat.lt_succ_self _
        case rel => exact ⟨ks2, rfl, HC2.out, HF.out, rfl⟩
      | evt =>
        have h1 := callTypeOf_evt
        have h2 := aAs_srv_evt
        have nW := noAs_evt
        have uW := hasUnwrap_evt
        have mU := methodUnwrap_evt
        simp only [Lk.off] at hcell
        simp only [Lk.t]
        go_wp2
        go_roundg ks2.length
        case measure => rw [HG.out]; exact Nat.lt_succ_self _
        case rel => exact ⟨ks2, rfl, HC2.out, HF.out, rfl⟩
      | srv =>
        have h1 := callTypeOf_srv
        have h2 := aAs_srv_srv
        have h3 := aElV_srv va ⟨tb, 0, none⟩ wr hva1
        have hs2 : (wr.alloc (.cells #[.pointer (some ⟨b2, 0, none⟩)] 114)).heap[tb]? = some (.cells #[old] 114) := by rw [Below.heap_alloc _ _ _ (by omega)]; exact ht1
        obtain ⟨tc, tf⟩ := one_cells hs2
        have h4 := aSet_srv ⟨tb, 0, none⟩ ⟨w.heap.size + 1, 0, none⟩ ⟨b2, 0, none⟩ old (wr.alloc (.cells #[.pointer (some ⟨b2, 0, none⟩)] 114)) (by rw [← hsz]; simp) tc tf
        clear tc tf
        simp only [Lk.off] at hcell
        simp only [Lk.t]
        go_wp2
        go_ret
        rw [set_alloc0 (lt_heap ht1)]
        exact AsR.hit HK.out HF.out HB.out hs2 (by decide) (by decide)
set_option maxRecDepth 20000 in
set_option maxHeartbeats 4000000 in
/-- errors.As on a chain, at *notary.serverFault. -/
theorem as_srv (w : World) (a : Addr) (ks : List (Lk × ByteArray)) (ev : Value) (hch : Chn w a ks ev) (tb : Nat) (old : Value) (hg : w.cell? ⟨6, 0, none⟩ = some (.iface 237 ((Value.agg #[Value.pointer (some (Addr.mk 31 58 none))])))) (ht0 : w.heap[tb]? = some (.cells #[old] 114)) :
    Calls Tryz.prog 46 #[ev, .iface 116 (.pointer (some ⟨tb, 0, none⟩))] w fun e w' => AsR Lk.srv 114 w tb (ks.find? (fun p => p.1 == Lk.srv)) e w' := by
  have KA : Kp (fun _ => False) w ((w.alloc (.cells #[.pointer (some ⟨tb, 0, none⟩)] 116)).alloc (.cells #[.pointer (some ⟨31, 116, none⟩), .pointer (some ⟨w.heap.size, 0, none⟩), .int .u64 150] 178)) := ((Kp.refl _ w).alloc _).alloc _
  have h1 := aV_srv
  have h2 := aTy_srv
  have h3 := m_kind
  have h4 := m_elem
  have h5 := m_impl
  have h7 := aK1_srv
  have h8 := aK2_srv
  have h9 := aEl_srv
  have h10 := aIm_srv
  have hlt := lt_cell hg
  have hcv : ((w.alloc (.cells #[.pointer (some ⟨tb, 0, none⟩)] 116)).alloc (.cells #[.pointer (some ⟨31, 116, none⟩), .pointer (some ⟨w.heap.size, 0, none⟩), .int .u64 150] 178)).cell? ⟨w.heap.size, 0, none⟩ = some (.pointer (some ⟨tb, 0, none⟩)) := by simp
  have h13 := aNil_srv ⟨w.heap.size, 0, none⟩ ⟨tb, 0, none⟩ _ hcv
  have hg2 : ((w.alloc (.cells #[.pointer (some ⟨tb, 0, none⟩)] 116)).alloc (.cells #[.pointer (some ⟨31, 116, none⟩), .pointer (some ⟨w.heap.size, 0, none⟩), .int .u64 150] 178)).cell? ⟨6, 0, none⟩ = some (.iface 237 ((Value.agg #[Value.pointer (some (Addr.mk 31 58 none))]))) := by
    rw [World.cell?_alloc_lt _ _ ⟨6, 0, none⟩ (by simp at hlt ⊢; omega), World.cell?_alloc_lt _ _ ⟨6, 0, none⟩ hlt]; exact hg
  have HL := hide (asl_srv _ a ks ev (hch.kp KA) tb old ⟨w.heap.size, 0, none⟩ hcv ((KA.block _ (lt_heap ht0) (by simp)).trans ht0))
  have HK := hide KA
  obtain ⟨t0, u0, rfl⟩ := hch.iface
  clear hch KA hcv hlt ht0 hg
  go_enter Tryz.func46, Tryz.ntmps46
  go_wp2_with fail
  refine HL.out.mono ?_
  rintro e w' hr
  obtain ⟨r, rfl⟩ := hr.ret
  go_wp2
  go_ret
  exact hr.before HK.out
end Go.Proofs.YtocligpfmfmihabGreatDoor
namespace Go.Proofs.YtocligpfmfmihabGreatDoor
open Go Go.RowKit Go.Extern.Stop Go.Stop Go.Extern
theorem aAs_srv_flt (w : World) : (callFunc 272 #[(Value.agg #[Value.pointer (some (Addr.mk 31 130 none))]), .iface 237 ((Value.agg #[Value.pointer (some (Addr.mk 31 114 none))]))]).run Tryz.prog w = .ok (.value (.bool false)) w := by
  rw [@run_callFunc_extern Tryz.prog 272 _ (ReflectliteType.relation "AssignableTo" ReflectliteType.assignableTo) Tryz.func272 (by kernel_rfl) (by kernel_rfl) (by kernel_rfl) (by kernel_rfl)]
  kernel_rfl
theorem noAs_flt (v : Value) (xT : TypeId) (w : World) : (Instr.typeAssert (.iface 130 v) xT 241 true).run Tryz.prog w = .ok (.tuple #[.nilIface, .bool false]) w := run_typeAssert_lacksB Tryz.underlying241 (by kernel_rfl) (by kernel_rfl) v xT w
set_option maxRecDepth 20000 in
set_option maxHeartbeats 4000000 in
/-- errors.as on a chain, at *notary.serverFault. -/
theorem asl_srvF (w : World) (fb : Nat) (kv : Value) (cb : Addr) (hf : w.heap[fb]? = some (.cells #[kv, errV cb] 228)) (tb : Nat) (old : Value) (va : Addr) (hva : w.cell? va = some (.pointer (some ⟨tb, 0, none⟩))) (ht0 : w.heap[tb]? = some (.cells #[old] 114)) :
    Calls Tryz.prog 78 #[.iface 130 (.pointer (some ⟨fb, 0, none⟩)), .iface 116 (.pointer (some ⟨tb, 0, none⟩)), (Value.agg #[Value.pointer (some (Addr.mk 31 116 none)), Value.pointer (some va), Value.int IntKind.u64 150]), .iface 237 ((Value.agg #[Value.pointer (some (Addr.mk 31 114 none))]))] w fun e w' => AsR Lk.srv 114 w tb none e w' := by
  have g1 := aW_srv
  have g2 := m_assign
  have g3 := aAs_srv_err
  have g4 := noAsE
  have g5 := noUnwrapE
  have g6 := noUnwrapsE
  have g7 := callTypeOf
  have KB : Kp (fun k => k = tb) w (w.alloc (.cells #[.pointer (some ⟨31, 116, none⟩), .pointer (some va), .int .u64 150] 178)) := (Kp.refl _ w).alloc _
  have hlv := lt_cell hva
  have htl := lt_heap ht0
  have hva1 : (w.alloc (.cells #[.pointer (some ⟨31, 116, none⟩), .pointer (some va), .int .u64 150] 178)).cell? va = some (.pointer (some ⟨tb, 0, none⟩)) := by rw [World.cell?_alloc_lt _ _ va hlv]; exact hva
  have ht1 : (w.alloc (.cells #[.pointer (some ⟨31, 116, none⟩), .pointer (some va), .int .u64 150] 178)).heap[tb]? = some (.cells #[old] 114) := by rw [Below.heap_alloc _ _ _ htl]; exact ht0
  have hf1 := ((Kp.refl (fun _ => False) w).alloc (.cells #[.pointer (some ⟨31, 116, none⟩), .pointer (some va), .int .u64 150] 178)).heap hf
  have HC := hide hf1
  clear hf hf1 hva ht0 hlv
  go_enter Tryz.func78, Tryz.ntmps78
  go_wp2
  have HK := hide KB
  clear KB
  have hsz : (w.alloc (.cells #[.pointer (some ⟨31, 116, none⟩), .pointer (some va), .int .u64 150] 178)).heap.size = w.heap.size + 1 := by simp
  have hx0 : (w.alloc (.cells #[.pointer (some ⟨31, 116, none⟩), .pointer (some va), .int .u64 150] 178)).cell? ⟨w.heap.size, 0, none⟩ = some (.pointer (some ⟨31, 116, none⟩)) := by simp
  have hx1 : (w.alloc (.cells #[.pointer (some ⟨31, 116, none⟩), .pointer (some va), .int .u64 150] 178)).cell? ⟨w.heap.size, 1, none⟩ = some (.pointer (some va)) := by simp
  have hx2 : (w.alloc (.cells #[.pointer (some ⟨31, 116, none⟩), .pointer (some va), .int .u64 150] 178)).cell? ⟨w.heap.size, 2, none⟩ = some (.int .u64 150) := by simp
  generalize w.alloc (.cells #[.pointer (some ⟨31, 116, none⟩), .pointer (some va), .int .u64 150] 178) = w1 at *
  have hcell : w1.cell? ⟨fb, 1, none⟩ = some (errV cb) := by simp [World.cell?, HC.out]
  unfold errV at hcell
  go_loopg [0] 1 (fun gg v wr => wr = w1 ∧ ((gg = 1 ∧ v = .iface 130 (.pointer (some ⟨fb, 0, none⟩))) ∨ (gg = 0 ∧ v = .iface 350 (.pointer (some cb)))))
  case atStart => exact ⟨rfl, Or.inl ⟨rfl, rfl⟩⟩
  case round =>
    obtain ⟨rfl, ⟨hgg, rfl⟩ | ⟨hgg, rfl⟩⟩ := hrel
    · have h1 := c_typeOfF
      have h2 := aAs_srv_flt
      have nW := noAs_flt
      have uW := hasUnwrapF
      have mU := methodUnwrap
      have HG := hide hgg
      clear hgg
      go_wp2
      go_roundg 0
      case measure => rw [HG.out]; omega
      case rel => exact ⟨rfl, Or.inr ⟨rfl, rfl⟩⟩
    · clear hgg
      go_wp2
      go_ret
      exact AsR.none HK.out rfl
set_option maxRecDepth 20000 in
set_option maxHeartbeats 4000000 in
/-- errors.As on a chain, at *notary.serverFault. -/
theorem as_srvF (w : World) (fb : Nat) (kv : Value) (cb : Addr) (hf : w.heap[fb]? = some (.cells #[kv, errV cb] 228)) (tb : Nat) (old : Value) (hg : w.cell? ⟨6, 0, none⟩ = some (.iface 237 ((Value.agg #[Value.pointer (some (Addr.mk 31 58 none))])))) (ht0 : w.heap[tb]? = some (.cells #[old] 114)) :
    Calls Tryz.prog 46 #[.iface 130 (.pointer (some ⟨fb, 0, none⟩)), .iface 116 (.pointer (some ⟨tb, 0, none⟩))] w fun e w' => AsR Lk.srv 114 w tb none e w' := by
  have KA : Kp (fun _ => False) w ((w.alloc (.cells #[.pointer (some ⟨tb, 0, none⟩)] 116)).alloc (.cells #[.pointer (some ⟨31, 116, none⟩), .pointer (some ⟨w.heap.size, 0, none⟩), .int .u64 150] 178)) := ((Kp.refl _ w).alloc _).alloc _
  have h1 := aV_srv
  have h2 := aTy_srv
  have h3 := m_kind
  have h4 := m_elem
  have h5 := m_impl
  have h7 := aK1_srv
  have h8 := aK2_srv
  have h9 := aEl_srv
  have h10 := aIm_srv
  have hlt := lt_cell hg
  have hcv : ((w.alloc (.cells #[.pointer (some ⟨tb, 0, none⟩)] 116)).alloc (.cells #[.pointer (some ⟨31, 116, none⟩), .pointer (some ⟨w.heap.size, 0, none⟩), .int .u64 150] 178)).cell? ⟨w.heap.size, 0, none⟩ = some (.pointer (some ⟨tb, 0, none⟩)) := by simp
  have h13 := aNil_srv ⟨w.heap.size, 0, none⟩ ⟨tb, 0, none⟩ _ hcv
  have hg2 : ((w.alloc (.cells #[.pointer (some ⟨tb, 0, none⟩)] 116)).alloc (.cells #[.pointer (some ⟨31, 116, none⟩), .pointer (some ⟨w.heap.size, 0, none⟩), .int .u64 150] 178)).cell? ⟨6, 0, none⟩ = some (.iface 237 ((Value.agg #[Value.pointer (some (Addr.mk 31 58 none))]))) := by
    rw [World.cell?_alloc_lt _ _ ⟨6, 0, none⟩ (by simp at hlt ⊢; omega), World.cell?_alloc_lt _ _ ⟨6, 0, none⟩ hlt]; exact hg
  have HL := hide (asl_srvF _ fb kv cb (KA.heap hf) tb old ⟨w.heap.size, 0, none⟩ hcv ((KA.block _ (lt_heap ht0) (by simp)).trans ht0))
  have HK := hide KA
  clear hf KA hcv hlt ht0 hg
  go_enter Tryz.func46, Tryz.ntmps46
  go_wp2_with fail
  refine HL.out.mono ?_
  rintro e w' hr
  obtain ⟨r, rfl⟩ := hr.ret
  go_wp2
  go_ret
  exact hr.before HK.out
end Go.Proofs.YtocligpfmfmihabGreatDoor
namespace Go.Proofs.YtocligpfmfmihabGreatDoor
open Go Go.RowKit Go.Maps Go.WideMaps Go.MuLone
attribute [local go_sem] Oper.semAt_some

theorem u64_diff {a t : Int} (h : ¬ a < t) (h0 : -9223372036854775808 ≤ a) (h1 : a ≤ 9223372036854775807) (t0 : -9223372036854775808 ≤ t) : IntKind.u64.wrap (IntKind.u64.wrap a - IntKind.u64.wrap t) = a - t := by
  simp only [IntKind.wrap, IntKind.signed, IntKind.bits, Bool.false_and, Bool.false_eq_true, if_false]
  rw [← Int.sub_emod]
  exact Int.emod_eq_of_lt (by omega) (by omega)
set_option maxRecDepth 20000 in
set_option maxHeartbeats 4000000 in
theorem tooSoon_c (w : World) (F : Nat → Prop) (kb : Nat) (st : Ldg) (c : Nat) (h : KN w F kb st c) (s : Bs) (hs : s.length ≤ 2000000) (now : Int) (h0 : -9223372036854775808 ≤ now) (h1 : now ≤ 9223372036854775807) (hat : ∀ s t, st.asked s = some t → -9223372036854775808 ≤ t ∧ t ≤ 9223372036854775807) :
    Calls Tryz.prog 48 #[.pointer (some ⟨kb, 0, none⟩), .string ⟨s.toArray⟩, .int .i64 now] w fun e w' => e = .returned (.bool (soonS st s now)) ∧ Kp (fun _ => False) w w' := by
  obtain ⟨mb, ib, sm, im, Bf, Qf, qm, hk⟩ := h
  obtain ⟨c0, c2, c3, f0⟩ := kn_facts hk.kblk
  obtain ⟨d0, d2, d3, g0⟩ := held_facts hk.kblk
  have hlk := mlook Tryz.underlying101 zMom (held kb w) im ib im.length s (by omega) (ownsMap_heap hk.mi (held_heap (mapT_ne hk.mi hk.kblk)))
  rw [hk.vain s] at hlk
  have HB := hide (fun X (hX : Kp (fun _ => False) (held kb w) X) => lock_frame hk.kblk hX)
  clear hk
  cases ha : st.asked s with
  | none =>
    rw [ha] at hlk
    replace hlk : (Instr.lookup 101 (.map (some ib)) (.string ⟨s.toArray⟩) true).run Tryz.prog (held kb w) = .ok (.tuple #[.int .i64 0, .bool false]) (held kb w) := hlk
    have HE : Hid (soonS st s now = false) := by show _ = _; unfold soonS; rw [ha]
    unfold held at *
    clear ha hat
    go_enter_defers Tryz.func48, Tryz.ntmps48
    go_wp2_with (go_at_call 52; refine (lock_free Tryz.muLib ⟨kb, 0, none⟩ _ c0 f0).mono ?_; rintro e w' ⟨rfl, rfl⟩)
    refine leaves_cons (f := 53) (args := #[.pointer (some ⟨kb, 0, none⟩)]) (by simp) (by simp [go_sem]) ?_
    refine (unlock_deferred Tryz.muLib ⟨kb, 0, none⟩ .returning _ (HB.out _ (Kp.refl _ _)).1 (HB.out _ (Kp.refl _ _)).2.1).mono ?_
    rintro e u' w'' ⟨rfl, rfl, rfl⟩
    rw [HE.out]
    exact ⟨_, results_tmp rfl _ _ _, rfl, (HB.out _ (Kp.refl _ _)).2.2⟩
  | some t =>
    rw [ha] at hlk
    replace hlk : (Instr.lookup 101 (.map (some ib)) (.string ⟨s.toArray⟩) true).run Tryz.prog (held kb w) = .ok (.tuple #[.int .i64 t, .bool true]) (held kb w) := hlk
    obtain ⟨t0, t1⟩ := hat s t ha
    have HE : Hid (soonS st s now = decide (now < t + 50)) := by show _ = _; unfold soonS; rw [ha]
    unfold held at *
    clear ha hat
    by_cases hg : now < t
    · have hg' : t > now := hg
      go_enter_defers Tryz.func48, Tryz.ntmps48
      go_wp2_with (go_at_call 52; refine (lock_free Tryz.muLib ⟨kb, 0, none⟩ _ c0 f0).mono ?_; rintro e w' ⟨rfl, rfl⟩)
      refine leaves_cons (f := 53) (args := #[.pointer (some ⟨kb, 0, none⟩)]) (by simp) (by simp [go_sem]) ?_
      refine (unlock_deferred Tryz.muLib ⟨kb, 0, none⟩ .returning _ (HB.out _ (Kp.refl _ _)).1 (HB.out _ (Kp.refl _ _)).2.1).mono ?_
      rintro e u' w'' ⟨rfl, rfl, rfl⟩
      rw [HE.out]
      refine ⟨_, results_tmp rfl _ _ _, ?_, (HB.out _ (Kp.refl _ _)).2.2⟩
      simp
      omega
    · have hg' : ¬ t > now := hg
      go_enter_defers Tryz.func48, Tryz.ntmps48
      go_wp2_with (go_at_call 52; refine (lock_free Tryz.muLib ⟨kb, 0, none⟩ _ c0 f0).mono ?_; rintro e w' ⟨rfl, rfl⟩)
      refine leaves_cons (f := 53) (args := #[.pointer (some ⟨kb, 0, none⟩)]) (by simp) (by simp [go_sem]) ?_
      refine (unlock_deferred Tryz.muLib ⟨kb, 0, none⟩ .returning _ (HB.out _ (Kp.refl _ _)).1 (HB.out _ (Kp.refl _ _)).2.1).mono ?_
      rintro e u' w'' ⟨rfl, rfl, rfl⟩
      rw [HE.out]
      refine ⟨_, results_tmp rfl _ _ _, ?_, (HB.out _ (Kp.refl _ _)).2.2⟩
      show Ending.returned (.bool (decide (now < t) || decide (IntKind.u64.wrap (IntKind.u64.wrap now - IntKind.u64.wrap t) < 50))) = _
      rw [u64_diff (Int.not_lt.2 hg) h0 h1 t0]
      have e1 : decide (now < t) = false := by simpa using hg
      rw [e1]
      congr 2
      simp
      omega
/-- What is known, behind an asking in vain. -/
theorem KNs.vained {w w' : World} {F : Nat → Prop} {kb mb ib : Nat} {sm im : List (Bs × Value)} {Bf Qf : Bs → Nat} {qm : Bs → List (Bs × Value)} {st : Ldg} {c n : Nat} {s : Bs} {now : Int} (h : KNs w F kb mb ib sm im Bf Qf qm st c)
    (hK : ∀ k, k < w.heap.size → k ≠ ib → w'.heap[k]? = w.heap[k]?) (hm : w'.ownsMap Tryz.prog 9 Rv ib n (dm (insK s (.int .i64 now) im))) : KN w' F kb (vainS st s now) (c + 1) := by
  have hl := h.lt
  have hki : kb ≠ ib := fun e => mapT_ne h.mi h.kblk e.symm
  have hli := insK_len s (.int .i64 now) im
  refine ⟨mb, ib, sm, insK s (.int .i64 now) im, Bf, Qf, qm, (hK kb hl.1 hki).trans h.kblk, ownsMap_heap h.ms (hK mb hl.2.1 h.mbib), ownsMap_tight hm, h.ss, srt_insK _ _ _ h.si, h.look, ?_, ?_, h.non, h.inj, h.off, h.mbib, by have := h.lsm; omega, by have := h.lim; omega, h.fk, h.fm, h.fi, h.fs⟩
  · intro s'
    rw [lookK_ins]
    show _ = (if s' = s then some now else st.asked s').map _
    by_cases he : s' = s
    · simp [he]
    · simp only [if_neg he]
      exact h.vain s'
  · intro s' t hd
    have h3 := hl.2.2.2 s' t hd
    have hb := (h.srv s' t hd).1
    refine ⟨hb.frame (hK _ h3.1 (fun e => mapT_ne h.mi hb.blk e.symm)) (hK _ h3.2 (h.off s' t hd).2), by have := (h.srv s' t hd).2; omega⟩
set_option maxRecDepth 20000 in
set_option maxHeartbeats 4000000 in
theorem inVain_c (w : World) (F : Nat → Prop) (kb : Nat) (st : Ldg) (c : Nat) (h : KN w F kb st c) (s : Bs) (hs : s.length ≤ 2000000) (now : Int) (hc : c ≤ 900000000) :
    Calls Tryz.prog 51 #[.pointer (some ⟨kb, 0, none⟩), .string ⟨s.toArray⟩, .int .i64 now] w fun e w' => e = .returned (.tuple #[]) ∧ Kp F w w' ∧ KN w' F kb (vainS st s now) (c + 1) := by
  obtain ⟨mb, ib, sm, im, Bf, Qf, qm, hk⟩ := h
  obtain ⟨c0, c2, c3, f0⟩ := kn_facts hk.kblk
  obtain ⟨d0, d2, d3, g0⟩ := held_facts hk.kblk
  have hlim := hk.lim
  have mi1 : (held kb w).ownsMap Tryz.prog 9 Rv ib im.length (dm im) := ownsMap_heap hk.mi (held_heap (mapT_ne hk.mi hk.kblk))
  obtain ⟨w9, hup, o9, g9⟩ := mi1.update keyed Tryz.underlying101 (by unfold maxLen; omega) (key_mk2 (show s.length ≤ 139000000000000 by omega)) (show Rv (.int .i64 now) = some (.held (.int .i64 now), []) from rfl)
  rw [dm_put s _ im hk.si] at o9
  have hkm : kb ≠ ib := fun e => mapT_ne hk.mi hk.kblk e.symm
  have K9 : Kp (fun j => j = ib) (held kb w) w9 := (Kp.refl _ _).grown g9 (fun j e _ => by cases e; rfl)
  have lf := lock_frameS hk.kblk (S := fun j => j = ib) (by exact hkm) K9
  have hend : KN (w9.setCell ⟨kb, 0, none⟩ (.int .i32 0)) F kb (vainS st s now) (c + 1) := hk.vained (fun k h1 h2 => lf.2.2.block k h1 h2) (ownsMap_heap o9 (heap_set_other (by exact Ne.symm hkm)))
  have HL := hide (And.intro lf (And.intro hend hk.fi))
  clear hk mi1 o9 g9 K9 lf hend hlim hkm
  unfold held at *
  go_enter_defers Tryz.func51, Tryz.ntmps51
  go_wp2_with (go_at_call 52; refine (lock_free Tryz.muLib ⟨kb, 0, none⟩ _ c0 f0).mono ?_; rintro e w' ⟨rfl, rfl⟩)
  refine leaves_cons (f := 53) (args := #[.pointer (some ⟨kb, 0, none⟩)]) (by simp) (by simp [go_sem]) ?_
  refine (unlock_deferred Tryz.muLib ⟨kb, 0, none⟩ .returning _ HL.out.1.1 HL.out.1.2.1).mono ?_
  rintro e u' w'' ⟨rfl, rfl, rfl⟩
  refine ⟨_, results_none rfl _ _ _, rfl, HL.out.1.2.2.mono (fun j _ e => by rw [e]; exact HL.out.2.2), HL.out.2.1⟩
end Go.Proofs.YtocligpfmfmihabGreatDoor
namespace Go.Proofs.YtocligpfmfmihabGreatDoor
open Go Go.RowKit
/-- A piece of code that ends in one state, in a world of some kind, and does not panic. -/
theorem wp_md {P : Program} {c : Code} {Q : Exit → Act → World → Prop} {a : Act} {w : World} (A : Act) (C : World → Prop) (h : Code.wp P c (noP fun ex a' w' => ex = .normal ∧ a' = A ∧ C w') a w) (hq : ∀ X, C X → Q .normal A X) : Code.wp P c Q a w :=
  wp_noP (Code.wp_mono (fun e _ _ h => by
    cases e <;> first
      | exact h.elim
      | (obtain ⟨h1, rfl, h2⟩ := h; exact hq _ h2)
      | exact absurd h.1 (by intro h; cases h)) h)
theorem md_normal {A : Act} {X : World} {C : World → Prop} (h : C X) : noP (fun ex a' w' => ex = .normal ∧ a' = A ∧ C w') .normal A X := ⟨rfl, rfl, h⟩
/-- A call of a function, and of nothing else, under a guard that holds. -/
theorem step_callG {P : Program} {ops : Array Oper} {o : Oper} {a : Act} {w : World} {K : Act → World → Prop} {Q : Exit → Act → World → Prop} {E : Prop} (hw : Region.wanted o (yielded ops a.tmps) = true) (f : FuncId) (xs : Array Operand) (ts : Array TypeId) (_ : o.op = .call { callee := .value (.func f), args := xs, argTypes := ts }) (args : Array Value)
    (hrun : (execOp a.eval o).run P w = .ok (.enter f args) w)
    (h : Calls P f args w fun | .returned v, w'' => K (a.put o.dst v) w'' | .panicked chain, w'' => Q (.panic chain) a w'' | .outgrown, _ => LetsOut Q) :
    if Region.wanted o (yielded ops a.tmps) = true then Oper.wp P o a w K Q else E := by
  rw [if_pos hw]
  unfold Oper.wp
  rw [hrun, Oper.upon_enter]
  exact h
end Go.Proofs.YtocligpfmfmihabGreatDoor
namespace Go.Proofs.YtocligpfmfmihabGreatDoor
open Go Go.RowKit Go.Maps Go.WideMaps Go.MuLone
attribute [local go_sem] Oper.semAt_some

/-- The cells of a signature. -/
def sgC (p : Bs × Bs) : List Value := [.string ⟨p.1.toArray⟩, .string ⟨p.2.toArray⟩]
theorem sg_cells {w : World} {B : Nat} {g n c : Nat} {ks : List (Bs × Bs)} (h : w.ownsRow B 120 2 (.slice (some ⟨g, 0, none⟩) n c) n (ks.flatMap sgC)) (i : Nat) (k : Bs × Bs) (hk : ks[i]? = some k) :
    w.cell? ⟨g, i * 2, none⟩ = some (.string ⟨k.1.toArray⟩) ∧ w.cell? ⟨g, i * 2 + 1, none⟩ = some (.string ⟨k.2.toArray⟩) :=
  ⟨row_cell (f := sgC) (fun _ => rfl) h i k hk 0 (by omega) _ rfl, row_cell (f := sgC) (fun _ => rfl) h i k hk 1 (by omega) _ rfl⟩
/-- A claim as a value. -/
def clV (c : Clm) (sv : Value) : Value := .agg #[.string ⟨c.server.toArray⟩, .int .i64 c.ts, .string ⟨c.msg.toArray⟩, sv]
def clObj (c : Clm) (sv : Value) : Obj := .cells #[.string ⟨c.server.toArray⟩, .int .i64 c.ts, .string ⟨c.msg.toArray⟩, sv] 67
theorem cl_facts {w : World} {b : Nat} {c : Clm} {sv : Value} (h : w.heap[b]? = some (clObj c sv)) :
    w.cell? ⟨b, 0, none⟩ = some (.string ⟨c.server.toArray⟩) ∧ w.cell? ⟨b, 1, none⟩ = some (.int .i64 c.ts) ∧ w.cell? ⟨b, 2, none⟩ = some (.string ⟨c.msg.toArray⟩) ∧ w.cell? ⟨b, 3, none⟩ = some sv ∧ b < w.heap.size := by
  unfold clObj at h
  refine ⟨?_, ?_, ?_, ?_, lt_heap h⟩ <;> simp [World.cell?, h]
/-- What a claim is not longer than. -/
structure ClK (c : Clm) : Prop where
  srv : c.server.length ≤ 1000
  msg : c.msg.length ≤ 1000
  ids : ∀ p ∈ c.sigs, p.1.length ≤ 1000
  num : c.sigs.length ≤ 1000
theorem KN.kp2 {w w' : World} {F : Nat → Prop} {kb : Nat} {st : Ldg} {c : Nat} (h : KN w F kb st c) (K : Kp (fun _ => False) w w') : KN w' F kb st c := by
  obtain ⟨mb, ib, sm, im, Bf, Qf, qm, h⟩ := h
  have hl := h.lt
  exact ⟨mb, ib, sm, im, Bf, Qf, qm, (K.block kb hl.1 (by simp)).trans h.kblk, ownsMap_heap h.ms (K.block mb hl.2.1 (by simp)), ownsMap_heap h.mi (K.block ib hl.2.2.1 (by simp)), h.ss, h.si, h.look, h.vain, fun s t hs => ⟨(h.srv s t hs).1.kp K, (h.srv s t hs).2⟩, h.non, h.inj, h.off, h.mbib, h.lsm, h.lim, h.fk, h.fm, h.fi, h.fs⟩
set_option maxRecDepth 20000 in
set_option maxHeartbeats 4000000 in
theorem wants_c (w : World) (F : Nat → Prop) (kb : Nat) (st : Ldg) (c : Nat) (h : KN w F kb st c) (cl : Clm) (hcl : ClK cl) (B : Nat) (sv : Value) (row : w.ownsRow B 120 2 sv cl.sigs.length (cl.sigs.flatMap sgC)) :
    Calls Tryz.prog 25 #[.pointer (some ⟨kb, 0, none⟩), clV cl sv] w fun e w' => e = .returned (.bool (wantS st cl)) ∧ Kp (fun _ => False) w w' := by
  obtain ⟨sa, sc, rfl, hsm, hsa⟩ := own_sl row
  have K0 : Kp (fun _ => False) w (w.alloc (clObj cl (.slice sa cl.sigs.length sc))) := (Kp.refl _ _).alloc _
  have I0 := heap_alloc_new w (clObj cl (.slice sa cl.sigs.length sc))
  have HR := hide (And.intro row (And.intro hsa (And.intro h hcl)))
  have HK0 := hide (And.intro K0 I0)
  clear row hsa h hcl K0 I0
  unfold clV
  unfold clObj at HK0
  go_enter Tryz.func25, Tryz.ntmps25
  go_wp2_with fail
  generalize (w.alloc (.cells #[.string ⟨cl.server.toArray⟩, .int .i64 cl.ts, .string ⟨cl.msg.toArray⟩, .slice sa cl.sigs.length sc] 67)) = w0 at *
  go_loopg [12] cl.sigs.length (fun gg a wx => ∃ (i : Nat), gg = cl.sigs.length - i ∧ i ≤ cl.sigs.length ∧ a = .int .i64 (i : Int) ∧ Kp (fun _ => False) w0 wx ∧ ∀ (j : Nat) (p : Bs × Bs), j < i → cl.sigs[j]? = some p → mayS st cl.server p.1 cl.ts = none)
  case atStart => exact ⟨0, rfl, by omega, rfl, Kp.refl _ _, fun _ _ h => absurd h (by omega)⟩
  case round =>
    obtain ⟨i, hgg, hin, rfl, Kr, hall⟩ := hrel
    have Kw := HK0.out.1.trans Kr
    have HG := hide (And.intro hgg (And.intro hall (And.intro Kr Kw)))
    obtain ⟨e0, e1, e2, e3, heb⟩ := cl_facts (c := cl) (sv := .slice sa cl.sigs.length sc) (Kr.heap HK0.out.2)
    clear hgg hall
    by_cases hlt : i < cl.sigs.length
    · have hlt' : (i : Int) < (cl.sigs.length : Int) := by omega
      obtain ⟨p, hp⟩ : ∃ p, cl.sigs[i]? = some p := ⟨cl.sigs[i], List.getElem?_eq_getElem hlt⟩
      obtain ⟨g, rfl, hg⟩ := HR.out.2.1 (by omega)
      obtain ⟨s0, s1⟩ := sg_cells (ownsRow_kp HR.out.1 Kw (by simp)) i p hp
      have Ka : Kp (fun _ => False) wr (wr.alloc (.cells #[.string ⟨p.1.toArray⟩, .string ⟨p.2.toArray⟩] 120)) := (Kp.refl _ _).alloc _
      have Ia := heap_alloc_new wr (.cells #[.string ⟨p.1.toArray⟩, .string ⟨p.2.toArray⟩] 120)
      have a0 := Ka.cel e0
      have a1 := Ka.cel e1
      have HF := hide HR.out.2.2.1
      have HM := hide (keyAt_c (wr.alloc (.cells #[.string ⟨p.1.toArray⟩, .string ⟨p.2.toArray⟩] 120)) F kb st c (HF.out.kp2 (Kw.trans Ka)) cl.server p.1 (by have := HR.out.2.2.2.srv; omega) (by have := HR.out.2.2.2.ids p (List.mem_of_getElem? hp); omega) cl.ts)
      have HP := hide (And.intro hp Ka)
      clear hp Kr Kw
      go_wp2_with fail
      generalize (wr.alloc (.cells #[.string ⟨p.1.toArray⟩, .string ⟨p.2.toArray⟩] 120)) = wa at *
      have b0 : wa.cell? ⟨wr.heap.size, 0, none⟩ = some (.string ⟨p.1.toArray⟩) := by simp [World.cell?, Ia]
      clear Ka
      refine HM.out.mono ?_
      rintro e X ⟨rfl, KX⟩
      have HX := hide (And.intro (HP.out.2.trans KX) (HG.out.2.2.1.trans (HP.out.2.trans KX)))
      clear KX
      cases hm : mayS st cl.server p.1 cl.ts with
      | none =>
        have HN : Hid (∀ (j : Nat) (q : Bs × Bs), j < i + 1 → cl.sigs[j]? = some q → mayS st cl.server q.1 cl.ts = none) := by
          show ∀ (j : Nat) (q : Bs × Bs), j < i + 1 → cl.sigs[j]? = some q → mayS st cl.server q.1 cl.ts = none
          intro j q hj hq
          rcases Nat.lt_or_ge j i with h | h
          · exact HG.out.2.1 j q h hq
          · have : j = i := by omega
            subst this
            rw [HP.out.1] at hq
            injection hq with hq
            subst hq
            exact hm
        clear hm
        simp only [Option.isSome_none]
        go_wp2
        go_roundg (cl.sigs.length - (i + 1))
        case measure => rw [HG.out.1]; omega
        case rel => exact ⟨i + 1, rfl, by omega, int_i64 (by omega), HX.out.2, HN.out⟩
      | some k =>
        have HN : Hid (wantS st cl = false) := by
          show _ = _
          have : hasS st cl = true := by
            unfold hasS
            rw [List.any_eq_true]
            exact ⟨p, List.mem_of_getElem? HP.out.1, by simp [hm]⟩
          unfold wantS
          rw [this]
          simp
        clear hm
        simp only [Option.isSome_some]
        go_wp2
        go_ret
        exact ⟨by rw [HN.out]; rfl, HG.out.2.2.2.trans HX.out.1⟩
    · have hlt' : ¬ (i : Int) < (cl.sigs.length : Int) := by omega
      have HN : Hid (wantS st cl = decide (0 < cl.sigs.length)) := by
        show _ = _
        have : hasS st cl = false := by
          unfold hasS
          rw [List.any_eq_false]
          intro p hp
          obtain ⟨j, hj, he⟩ := List.mem_iff_getElem.1 hp
          have := HG.out.2.1 j p (by omega) (by rw [List.getElem?_eq_getElem hj, he])
          simp [this]
        unfold wantS
        rw [this]
        simp
      clear Kr Kw
      go_wp2
      go_ret
      exact ⟨by rw [HN.out]; simp [*], HG.out.2.2.2⟩
end Go.Proofs.YtocligpfmfmihabGreatDoor

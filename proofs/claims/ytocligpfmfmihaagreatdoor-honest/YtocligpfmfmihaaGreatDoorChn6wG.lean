import Derived.Test.YtocligpfmfmihaaGreatDoorChn6
import Derived.Test.YtocligpfmfmihaaGreatDoorErr3
import Derived.Test.YtocligpfmfmihaaGreatDoorPr2G
import Derived.Test.YtocligpfmfmihaaGreatDoorPn8G
import Derived.Test.YtocligpfmfmihaaGreatDoorRea8G
namespace Go.Proofs.YtocligpfmfmihaaGreatDoor
open Go Go.RowKit Go.Extern.Stop Go.Stop Go.Extern
set_option maxRecDepth 20000 in
set_option maxHeartbeats 4000000 in
theorem asl_srv (w : World) (a : Addr) (ks : List (Lk × ByteArray)) (ev : Value) (hch : Chn w a ks ev) (tb : Nat) (old : Value) (va : Addr) (hva : w.cell? va = some (.pointer (some ⟨tb, 0, none⟩))) (ht0 : w.heap[tb]? = some (.cells #[old] 188)) :
  Calls Tryz.prog 117 #[ev, .iface 189 (.pointer (some ⟨tb, 0, none⟩)), (Value.agg #[Value.pointer (some (Addr.mk 31 189 none)), Value.pointer (some va), Value.int IntKind.u64 150]), .iface 289 ((Value.agg #[Value.pointer (some (Addr.mk 31 188 none))]))] w fun e w' => AsR Lk.srv 188 w tb (ks.find? (fun p => p.1 == Lk.srv)) e w' := by
 have g1 := aW_srv
 have g2 := m_assign
 have g3 := aAs_srv_err
 have g4 := noAsE
 have g5 := noUnwrapE
 have g6 := noUnwrapsE
 have g7 := callTypeOf
 have KB : Kp (fun k => k = tb) w (w.alloc (.cells #[.pointer (some ⟨31, 189, none⟩), .pointer (some va), .int .u64 150] 214)) := (Kp.refl _ w).alloc _
 have hlv := lt_cell hva
 have htl := lt_heap ht0
 have hva1 : (w.alloc (.cells #[.pointer (some ⟨31, 189, none⟩), .pointer (some va), .int .u64 150] 214)).cell? va = some (.pointer (some ⟨tb, 0, none⟩)) := by rw [World.cell?_alloc_lt _ _ va hlv]; exact hva
 have ht1 : (w.alloc (.cells #[.pointer (some ⟨31, 189, none⟩), .pointer (some va), .int .u64 150] 214)).heap[tb]? = some (.cells #[old] 188) := by rw [Below.heap_alloc _ _ _ htl]; exact ht0
 have hch1 : Chn (w.alloc (.cells #[.pointer (some ⟨31, 189, none⟩), .pointer (some va), .int .u64 150] 214)) a ks ev := hch.kp ((Kp.refl _ w).alloc _)
 have HC := hide hch1
 obtain ⟨t0, u0, rfl⟩ := hch.iface
 clear hch hch1 hva ht0 hlv
 go_enter Tryz.func117, Tryz.ntmps117
 go_wp2
 have HK := hide KB
 clear KB
 have hsz : (w.alloc (.cells #[.pointer (some ⟨31, 189, none⟩), .pointer (some va), .int .u64 150] 214)).heap.size = w.heap.size + 1 := by simp
 have hx0 : (w.alloc (.cells #[.pointer (some ⟨31, 189, none⟩), .pointer (some va), .int .u64 150] 214)).cell? ⟨w.heap.size, 0, none⟩ = some (.pointer (some ⟨31, 189, none⟩)) := by simp
 have hx1 : (w.alloc (.cells #[.pointer (some ⟨31, 189, none⟩), .pointer (some va), .int .u64 150] 214)).cell? ⟨w.heap.size, 1, none⟩ = some (.pointer (some va)) := by simp
 have hx2 : (w.alloc (.cells #[.pointer (some ⟨31, 189, none⟩), .pointer (some va), .int .u64 150] 214)).cell? ⟨w.heap.size, 2, none⟩ = some (.int .u64 150) := by simp
 generalize w.alloc (.cells #[.pointer (some ⟨31, 189, none⟩), .pointer (some va), .int .u64 150] 214) = w1 at *
 go_loopg [0] ks.length (fun gg v wr => ∃ ks' : List (Lk × ByteArray), gg = ks'.length ∧ Chn w1 a ks' v ∧ ks'.find? (fun p => p.1 == Lk.srv) = ks.find? (fun p => p.1 == Lk.srv) ∧ wr = w1)
 case atStart => exact ⟨ks, rfl, HC.out, rfl, rfl⟩
 case round =>
  obtain ⟨ks', hgg, hc, hfi, rfl⟩ := hrel
  clear HC
  cases hc with
  | nil =>
   have HF := hide hfi
   clear hgg hfi
   unfold errV
   go_wp2
   go_ret
   exact AsR.none HK.out HF.out.symm
  | cons k ks2 b2 s ev2 hb2 hc2 =>
   have hcell := chn_cell hb2
   have HG := hide hgg
   have HB := hide hb2
   have HF := hide hfi
   have HC2 := hide hc2
   obtain ⟨t2, u2, rfl⟩ := hc2.iface
   clear hgg hc2 hb2 hfi
   cases k with
   | mem =>
    have h1 := callTypeOf_mem
    have h2 := aAs_srv_mem
    have nW := noAs_mem
    have uW := hasUnwrap_mem
    have mU := methodUnwrap_mem
    simp only [Lk.off] at hcell
    simp only [Lk.t]
    go_wp2
    go_roundg ks2.length
    case measure => rw [HG.out]; exact Nat.lt_succ_self _
    case rel => exact ⟨ks2, rfl, HC2.out, HF.out, rfl⟩
   | doc =>
    have h1 := callTypeOf_doc
    have h2 := aAs_srv_doc
    have nW := noAs_doc
    have uW := hasUnwrap_doc
    have mU := methodUnwrap_doc
    simp only [Lk.off] at hcell
    simp only [Lk.t]
    go_wp2
    go_roundg ks2.length
    case measure => rw [HG.out]; exact Nat.lt_succ_self _
    case rel => exact ⟨ks2, rfl, HC2.out, HF.out, rfl⟩
   | evt =>
    have h1 := callTypeOf_evt
    have h2 := aAs_srv_evt
    have nW := noAs_evt
    have uW := hasUnwrap_evt
    have mU := methodUnwrap_evt
    simp only [Lk.off] at hcell
    simp only [Lk.t]
    go_wp2
    go_roundg ks2.length
    case measure => rw [HG.out]; exact Nat.lt_succ_self _
    case rel => exact ⟨ks2, rfl, HC2.out, HF.out, rfl⟩
   | srv =>
    have h1 := callTypeOf_srv
    have h2 := aAs_srv_srv
    have h3 := aElV_srv va ⟨tb, 0, none⟩ wr hva1
    have hs2 : (wr.alloc (.cells #[.pointer (some ⟨b2, 0, none⟩)] 188)).heap[tb]? = some (.cells #[old] 188) := by rw [Below.heap_alloc _ _ _ (by omega)]; exact ht1
    obtain ⟨tc, tf⟩ := one_cells hs2
    have h4 := aSet_srv ⟨tb, 0, none⟩ ⟨w.heap.size + 1, 0, none⟩ ⟨b2, 0, none⟩ old (wr.alloc (.cells #[.pointer (some ⟨b2, 0, none⟩)] 188)) (by rw [← hsz]; simp) tc tf
    clear tc tf
    simp only [Lk.off] at hcell
    simp only [Lk.t]
    go_wp2
    go_ret
    rw [set_alloc0 (lt_heap ht1)]
    exact AsR.hit HK.out HF.out HB.out hs2 (by decide) (by decide)
set_option maxRecDepth 20000 in
set_option maxHeartbeats 4000000 in
theorem as_srv (w : World) (a : Addr) (ks : List (Lk × ByteArray)) (ev : Value) (hch : Chn w a ks ev) (tb : Nat) (old : Value) (hg : w.cell? ⟨9, 0, none⟩ = some (.iface 289 ((Value.agg #[Value.pointer (some (Addr.mk 31 61 none))])))) (ht0 : w.heap[tb]? = some (.cells #[old] 188)) :
  Calls Tryz.prog 67 #[ev, .iface 189 (.pointer (some ⟨tb, 0, none⟩))] w fun e w' => AsR Lk.srv 188 w tb (ks.find? (fun p => p.1 == Lk.srv)) e w' := by
 have KA : Kp (fun _ => False) w ((w.alloc (.cells #[.pointer (some ⟨tb, 0, none⟩)] 189)).alloc (.cells #[.pointer (some ⟨31, 189, none⟩), .pointer (some ⟨w.heap.size, 0, none⟩), .int .u64 150] 214)) := ((Kp.refl _ w).alloc _).alloc _
 have h1 := aV_srv
 have h2 := aTy_srv
 have h3 := m_kind
 have h4 := m_elem
 have h5 := m_impl
 have h7 := aK1_srv
 have h8 := aK2_srv
 have h9 := aEl_srv
 have h10 := aIm_srv
 have hlt := lt_cell hg
 have hcv : ((w.alloc (.cells #[.pointer (some ⟨tb, 0, none⟩)] 189)).alloc (.cells #[.pointer (some ⟨31, 189, none⟩), .pointer (some ⟨w.heap.size, 0, none⟩), .int .u64 150] 214)).cell? ⟨w.heap.size, 0, none⟩ = some (.pointer (some ⟨tb, 0, none⟩)) := by simp
 have h13 := aNil_srv ⟨w.heap.size, 0, none⟩ ⟨tb, 0, none⟩ _ hcv
 have hg2 : ((w.alloc (.cells #[.pointer (some ⟨tb, 0, none⟩)] 189)).alloc (.cells #[.pointer (some ⟨31, 189, none⟩), .pointer (some ⟨w.heap.size, 0, none⟩), .int .u64 150] 214)).cell? ⟨9, 0, none⟩ = some (.iface 289 ((Value.agg #[Value.pointer (some (Addr.mk 31 61 none))]))) := by
  rw [World.cell?_alloc_lt _ _ ⟨9, 0, none⟩ (by simp at hlt ⊢; omega), World.cell?_alloc_lt _ _ ⟨9, 0, none⟩ hlt]; exact hg
 have HL := hide (asl_srv _ a ks ev (hch.kp KA) tb old ⟨w.heap.size, 0, none⟩ hcv ((KA.block _ (lt_heap ht0) (by simp)).trans ht0))
 have HK := hide KA
 obtain ⟨t0, u0, rfl⟩ := hch.iface
 clear hch KA hcv hlt ht0 hg
 go_enter Tryz.func67, Tryz.ntmps67
 go_wp2_with fail
 refine HL.out.mono ?_
 rintro e w' hr
 obtain ⟨r, rfl⟩ := hr.ret
 go_wp2
 go_ret
 exact hr.before HK.out
end Go.Proofs.YtocligpfmfmihaaGreatDoor
namespace Go.Proofs.YtocligpfmfmihaaGreatDoor
open Go Go.RowKit Go.Extern.Stop Go.Stop Go.Extern
theorem aAs_srv_flt (w : World) : (callFunc 340 #[(Value.agg #[Value.pointer (some (Addr.mk 31 116 none))]), .iface 289 ((Value.agg #[Value.pointer (some (Addr.mk 31 188 none))]))]).run Tryz.prog w = .ok (.value (.bool false)) w := by
 rw [@run_callFunc_extern Tryz.prog 340 _ (ReflectliteType.relation "AssignableTo" ReflectliteType.assignableTo) Tryz.func340 (by kernel_rfl) (by kernel_rfl) (by kernel_rfl) (by kernel_rfl)]
 kernel_rfl
theorem noAs_flt (v : Value) (xT : TypeId) (w : World) : (Instr.typeAssert (.iface 116 v) xT 301 true).run Tryz.prog w = .ok (.tuple #[.nilIface, .bool false]) w := run_typeAssert_lacksB Tryz.underlying301 (by kernel_rfl) (by kernel_rfl) v xT w
set_option maxRecDepth 20000 in
set_option maxHeartbeats 4000000 in
theorem asl_srvF (w : World) (fb : Nat) (kv : Value) (cb : Addr) (hf : w.heap[fb]? = some (.cells #[kv, errV cb] 239)) (tb : Nat) (old : Value) (va : Addr) (hva : w.cell? va = some (.pointer (some ⟨tb, 0, none⟩))) (ht0 : w.heap[tb]? = some (.cells #[old] 188)) :
  Calls Tryz.prog 117 #[.iface 116 (.pointer (some ⟨fb, 0, none⟩)), .iface 189 (.pointer (some ⟨tb, 0, none⟩)), (Value.agg #[Value.pointer (some (Addr.mk 31 189 none)), Value.pointer (some va), Value.int IntKind.u64 150]), .iface 289 ((Value.agg #[Value.pointer (some (Addr.mk 31 188 none))]))] w fun e w' => AsR Lk.srv 188 w tb none e w' := by
 have g1 := aW_srv
 have g2 := m_assign
 have g3 := aAs_srv_err
 have g4 := noAsE
 have g5 := noUnwrapE
 have g6 := noUnwrapsE
 have g7 := callTypeOf
 have KB : Kp (fun k => k = tb) w (w.alloc (.cells #[.pointer (some ⟨31, 189, none⟩), .pointer (some va), .int .u64 150] 214)) := (Kp.refl _ w).alloc _
 have hlv := lt_cell hva
 have htl := lt_heap ht0
 have hva1 : (w.alloc (.cells #[.pointer (some ⟨31, 189, none⟩), .pointer (some va), .int .u64 150] 214)).cell? va = some (.pointer (some ⟨tb, 0, none⟩)) := by rw [World.cell?_alloc_lt _ _ va hlv]; exact hva
 have ht1 : (w.alloc (.cells #[.pointer (some ⟨31, 189, none⟩), .pointer (some va), .int .u64 150] 214)).heap[tb]? = some (.cells #[old] 188) := by rw [Below.heap_alloc _ _ _ htl]; exact ht0
 have hf1 := ((Kp.refl (fun _ => False) w).alloc (.cells #[.pointer (some ⟨31, 189, none⟩), .pointer (some va), .int .u64 150] 214)).heap hf
 have HC := hide hf1
 clear hf hf1 hva ht0 hlv
 go_enter Tryz.func117, Tryz.ntmps117
 go_wp2
 have HK := hide KB
 clear KB
 have hsz : (w.alloc (.cells #[.pointer (some ⟨31, 189, none⟩), .pointer (some va), .int .u64 150] 214)).heap.size = w.heap.size + 1 := by simp
 have hx0 : (w.alloc (.cells #[.pointer (some ⟨31, 189, none⟩), .pointer (some va), .int .u64 150] 214)).cell? ⟨w.heap.size, 0, none⟩ = some (.pointer (some ⟨31, 189, none⟩)) := by simp
 have hx1 : (w.alloc (.cells #[.pointer (some ⟨31, 189, none⟩), .pointer (some va), .int .u64 150] 214)).cell? ⟨w.heap.size, 1, none⟩ = some (.pointer (some va)) := by simp
 have hx2 : (w.alloc (.cells #[.pointer (some ⟨31, 189, none⟩), .pointer (some va), .int .u64 150] 214)).cell? ⟨w.heap.size, 2, none⟩ = some (.int .u64 150) := by simp
 generalize w.alloc (.cells #[.pointer (some ⟨31, 189, none⟩), .pointer (some va), .int .u64 150] 214) = w1 at *
 have hcell : w1.cell? ⟨fb, 1, none⟩ = some (errV cb) := by simp [World.cell?, HC.out]
 unfold errV at hcell
 go_loopg [0] 1 (fun gg v wr => wr = w1 ∧ ((gg = 1 ∧ v = .iface 116 (.pointer (some ⟨fb, 0, none⟩))) ∨ (gg = 0 ∧ v = .iface 415 (.pointer (some cb)))))
 case atStart => exact ⟨rfl, Or.inl ⟨rfl, rfl⟩⟩
 case round =>
  obtain ⟨rfl, ⟨hgg, rfl⟩ | ⟨hgg, rfl⟩⟩ := hrel
  ·have h1 := c_typeOfF
   have h2 := aAs_srv_flt
   have nW := noAs_flt
   have uW := hasUnwrapF
   have mU := methodUnwrap
   have HG := hide hgg
   clear hgg
   go_wp2
   go_roundg 0
   case measure => rw [HG.out]; omega
   case rel => exact ⟨rfl, Or.inr ⟨rfl, rfl⟩⟩
  ·clear hgg
   go_wp2
   go_ret
   exact AsR.none HK.out rfl
set_option maxRecDepth 20000 in
set_option maxHeartbeats 4000000 in
theorem as_srvF (w : World) (fb : Nat) (kv : Value) (cb : Addr) (hf : w.heap[fb]? = some (.cells #[kv, errV cb] 239)) (tb : Nat) (old : Value) (hg : w.cell? ⟨9, 0, none⟩ = some (.iface 289 ((Value.agg #[Value.pointer (some (Addr.mk 31 61 none))])))) (ht0 : w.heap[tb]? = some (.cells #[old] 188)) :
  Calls Tryz.prog 67 #[.iface 116 (.pointer (some ⟨fb, 0, none⟩)), .iface 189 (.pointer (some ⟨tb, 0, none⟩))] w fun e w' => AsR Lk.srv 188 w tb none e w' := by
 have KA : Kp (fun _ => False) w ((w.alloc (.cells #[.pointer (some ⟨tb, 0, none⟩)] 189)).alloc (.cells #[.pointer (some ⟨31, 189, none⟩), .pointer (some ⟨w.heap.size, 0, none⟩), .int .u64 150] 214)) := ((Kp.refl _ w).alloc _).alloc _
 have h1 := aV_srv
 have h2 := aTy_srv
 have h3 := m_kind
 have h4 := m_elem
 have h5 := m_impl
 have h7 := aK1_srv
 have h8 := aK2_srv
 have h9 := aEl_srv
 have h10 := aIm_srv
 have hlt := lt_cell hg
 have hcv : ((w.alloc (.cells #[.pointer (some ⟨tb, 0, none⟩)] 189)).alloc (.cells #[.pointer (some ⟨31, 189, none⟩), .pointer (some ⟨w.heap.size, 0, none⟩), .int .u64 150] 214)).cell? ⟨w.heap.size, 0, none⟩ = some (.pointer (some ⟨tb, 0, none⟩)) := by simp
 have h13 := aNil_srv ⟨w.heap.size, 0, none⟩ ⟨tb, 0, none⟩ _ hcv
 have hg2 : ((w.alloc (.cells #[.pointer (some ⟨tb, 0, none⟩)] 189)).alloc (.cells #[.pointer (some ⟨31, 189, none⟩), .pointer (some ⟨w.heap.size, 0, none⟩), .int .u64 150] 214)).cell? ⟨9, 0, none⟩ = some (.iface 289 ((Value.agg #[Value.pointer (some (Addr.mk 31 61 none))]))) := by
  rw [World.cell?_alloc_lt _ _ ⟨9, 0, none⟩ (by simp at hlt ⊢; omega), World.cell?_alloc_lt _ _ ⟨9, 0, none⟩ hlt]; exact hg
 have HL := hide (asl_srvF _ fb kv cb (KA.heap hf) tb old ⟨w.heap.size, 0, none⟩ hcv ((KA.block _ (lt_heap ht0) (by simp)).trans ht0))
 have HK := hide KA
 clear hf KA hcv hlt ht0 hg
 go_enter Tryz.func67, Tryz.ntmps67
 go_wp2_with fail
 refine HL.out.mono ?_
 rintro e w' hr
 obtain ⟨r, rfl⟩ := hr.ret
 go_wp2
 go_ret
 exact hr.before HK.out
end Go.Proofs.YtocligpfmfmihaaGreatDoor
namespace Go.Proofs.YtocligpfmfmihaaGreatDoor
open Go Go.RowKit Go.Maps Go.WideMaps Go.MuLone
attribute [local go_sem] Oper.semAt_some
theorem u64_diff {a t : Int} (h : ¬ a < t) (h0 : -9223372036854775808 ≤ a) (h1 : a ≤ 9223372036854775807) (t0 : -9223372036854775808 ≤ t) : IntKind.u64.wrap (IntKind.u64.wrap a - IntKind.u64.wrap t) = a - t := by
 simp only [IntKind.wrap, IntKind.signed, IntKind.bits, Bool.false_and, Bool.false_eq_true, if_false]
 rw [← Int.sub_emod]
 exact Int.emod_eq_of_lt (by omega) (by omega)
set_option maxRecDepth 20000 in
set_option maxHeartbeats 4000000 in
theorem tooSoon_c (w : World) (F : Nat → Prop) (kb : Nat) (st : Ldg) (c : Nat) (h : KN w F kb st c) (s : Bs) (hs : s.length ≤ 2000000) (now : Int) (h0 : -9223372036854775808 ≤ now) (h1 : now ≤ 9223372036854775807) (hat : ∀ s t, st.asked s = some t → -9223372036854775808 ≤ t ∧ t ≤ 9223372036854775807) :
  Calls Tryz.prog 103 #[.pointer (some ⟨kb, 0, none⟩), .string ⟨s.toArray⟩, .int .i64 now] w fun e w' => e = .returned (.bool (soonS st s now)) ∧ Kp (fun _ => False) w w' := by
 obtain ⟨mb, ib, sm, im, Bf, Qf, qm, hk⟩ := h
 obtain ⟨c0, c2, c3, f0⟩ := kn_facts hk.kblk
 obtain ⟨d0, d2, d3, g0⟩ := held_facts hk.kblk
 have hlk := mlook Tryz.underlying169 zMom (held kb w) im ib im.length s (by omega) (ownsMap_heap hk.mi (held_heap (mapT_ne hk.mi hk.kblk)))
 rw [hk.vain s] at hlk
 have HB := hide (fun X (hX : Kp (fun _ => False) (held kb w) X) => lock_frame hk.kblk hX)
 clear hk
 cases ha : st.asked s with
 | none =>
  rw [ha] at hlk
  replace hlk : (Instr.lookup 169 (.map (some ib)) (.string ⟨s.toArray⟩) true).run Tryz.prog (held kb w) = .ok (.tuple #[.int .i64 0, .bool false]) (held kb w) := hlk
  have HE : Hid (soonS st s now = false) := by show _ = _; unfold soonS; rw [ha]
  unfold held at *
  clear ha hat
  go_enter_defers Tryz.func103, Tryz.ntmps103
  go_wp2_with (go_at_call 96; refine (lock_free Tryz.muLib ⟨kb, 0, none⟩ _ c0 f0).mono ?_; rintro e w' ⟨rfl, rfl⟩)
  refine leaves_cons (f := 97) (args := #[.pointer (some ⟨kb, 0, none⟩)]) (by simp) (by simp [go_sem]) ?_
  refine (unlock_deferred Tryz.muLib ⟨kb, 0, none⟩ .returning _ (HB.out _ (Kp.refl _ _)).1 (HB.out _ (Kp.refl _ _)).2.1).mono ?_
  rintro e u' w'' ⟨rfl, rfl, rfl⟩
  rw [HE.out]
  exact ⟨_, results_tmp rfl _ _ _, rfl, (HB.out _ (Kp.refl _ _)).2.2⟩
 | some t =>
  rw [ha] at hlk
  replace hlk : (Instr.lookup 169 (.map (some ib)) (.string ⟨s.toArray⟩) true).run Tryz.prog (held kb w) = .ok (.tuple #[.int .i64 t, .bool true]) (held kb w) := hlk
  obtain ⟨t0, t1⟩ := hat s t ha
  have HE : Hid (soonS st s now = decide (now < t + 50)) := by show _ = _; unfold soonS; rw [ha]
  unfold held at *
  clear ha hat
  by_cases hg : now < t
  ·have hg' : t > now := hg
   go_enter_defers Tryz.func103, Tryz.ntmps103
   go_wp2_with (go_at_call 96; refine (lock_free Tryz.muLib ⟨kb, 0, none⟩ _ c0 f0).mono ?_; rintro e w' ⟨rfl, rfl⟩)
   refine leaves_cons (f := 97) (args := #[.pointer (some ⟨kb, 0, none⟩)]) (by simp) (by simp [go_sem]) ?_
   refine (unlock_deferred Tryz.muLib ⟨kb, 0, none⟩ .returning _ (HB.out _ (Kp.refl _ _)).1 (HB.out _ (Kp.refl _ _)).2.1).mono ?_
   rintro e u' w'' ⟨rfl, rfl, rfl⟩
   rw [HE.out]
   refine ⟨_, results_tmp rfl _ _ _, ?_, (HB.out _ (Kp.refl _ _)).2.2⟩
   simp
   omega
  ·have hg' : ¬ t > now := hg
   go_enter_defers Tryz.func103, Tryz.ntmps103
   go_wp2_with (go_at_call 96; refine (lock_free Tryz.muLib ⟨kb, 0, none⟩ _ c0 f0).mono ?_; rintro e w' ⟨rfl, rfl⟩)
   refine leaves_cons (f := 97) (args := #[.pointer (some ⟨kb, 0, none⟩)]) (by simp) (by simp [go_sem]) ?_
   refine (unlock_deferred Tryz.muLib ⟨kb, 0, none⟩ .returning _ (HB.out _ (Kp.refl _ _)).1 (HB.out _ (Kp.refl _ _)).2.1).mono ?_
   rintro e u' w'' ⟨rfl, rfl, rfl⟩
   rw [HE.out]
   refine ⟨_, results_tmp rfl _ _ _, ?_, (HB.out _ (Kp.refl _ _)).2.2⟩
   show Ending.returned (.bool (decide (now < t) || decide (IntKind.u64.wrap (IntKind.u64.wrap now - IntKind.u64.wrap t) < 50))) = _
   rw [u64_diff (Int.not_lt.2 hg) h0 h1 t0]
   have e1 : decide (now < t) = false := by simpa using hg
   rw [e1]
   congr 2
   simp
   omega
theorem KNs.vained {w w' : World} {F : Nat → Prop} {kb mb ib : Nat} {sm im : List (Bs × Value)} {Bf Qf : Bs → Nat} {qm : Bs → List (Bs × Value)} {st : Ldg} {c n : Nat} {s : Bs} {now : Int} (h : KNs w F kb mb ib sm im Bf Qf qm st c)
  (hK : ∀ k, k < w.heap.size → k ≠ ib → w'.heap[k]? = w.heap[k]?) (hm : w'.ownsMap Tryz.prog 9 Rv ib n (dm (insK s (.int .i64 now) im))) : KN w' F kb (vainS st s now) (c + 1) := by
 have hl := h.lt
 have hki : kb ≠ ib := fun e => mapT_ne h.mi h.kblk e.symm
 have hli := insK_len s (.int .i64 now) im
 refine ⟨mb, ib, sm, insK s (.int .i64 now) im, Bf, Qf, qm, (hK kb hl.1 hki).trans h.kblk, ownsMap_heap h.ms (hK mb hl.2.1 h.mbib), ownsMap_tight hm, h.ss, srt_insK _ _ _ h.si, h.look, ?_, ?_, h.non, h.inj, h.off, h.mbib, by have := h.lsm; omega, by have := h.lim; omega, h.fk, h.fm, h.fi, h.fs⟩
 ·intro s'
  rw [lookK_ins]
  show _ = (if s' = s then some now else st.asked s').map _
  by_cases he : s' = s
  ·simp [he]
  ·simp only [if_neg he]
   exact h.vain s'
 ·intro s' t hd
  have h3 := hl.2.2.2 s' t hd
  have hb := (h.srv s' t hd).1
  refine ⟨hb.frame (hK _ h3.1 (fun e => mapT_ne h.mi hb.blk e.symm)) (hK _ h3.2 (h.off s' t hd).2), by have := (h.srv s' t hd).2; omega⟩
set_option maxRecDepth 20000 in
set_option maxHeartbeats 4000000 in
theorem inVain_c (w : World) (F : Nat → Prop) (kb : Nat) (st : Ldg) (c : Nat) (h : KN w F kb st c) (s : Bs) (hs : s.length ≤ 2000000) (now : Int) (hc : c ≤ 900000000) :
  Calls Tryz.prog 106 #[.pointer (some ⟨kb, 0, none⟩), .string ⟨s.toArray⟩, .int .i64 now] w fun e w' => e = .returned (.tuple #[]) ∧ Kp F w w' ∧ KN w' F kb (vainS st s now) (c + 1) := by
 obtain ⟨mb, ib, sm, im, Bf, Qf, qm, hk⟩ := h
 obtain ⟨c0, c2, c3, f0⟩ := kn_facts hk.kblk
 obtain ⟨d0, d2, d3, g0⟩ := held_facts hk.kblk
 have hlim := hk.lim
 have mi1 : (held kb w).ownsMap Tryz.prog 9 Rv ib im.length (dm im) := ownsMap_heap hk.mi (held_heap (mapT_ne hk.mi hk.kblk))
 obtain ⟨w9, hup, o9, g9⟩ := mi1.update keyed Tryz.underlying169 (by unfold maxLen; omega) (key_mk2 (show s.length ≤ 139000000000000 by omega)) (show Rv (.int .i64 now) = some (.held (.int .i64 now), []) from rfl)
 rw [dm_put s _ im hk.si] at o9
 have hkm : kb ≠ ib := fun e => mapT_ne hk.mi hk.kblk e.symm
 have K9 : Kp (fun j => j = ib) (held kb w) w9 := (Kp.refl _ _).grown g9 (fun j e _ => by cases e; rfl)
 have lf := lock_frameS hk.kblk (S := fun j => j = ib) (by exact hkm) K9
 have hend : KN (w9.setCell ⟨kb, 0, none⟩ (.int .i32 0)) F kb (vainS st s now) (c + 1) := hk.vained (fun k h1 h2 => lf.2.2.block k h1 h2) (ownsMap_heap o9 (heap_set_other (by exact Ne.symm hkm)))
 have HL := hide (And.intro lf (And.intro hend hk.fi))
 clear hk mi1 o9 g9 K9 lf hend hlim hkm
 unfold held at *
 go_enter_defers Tryz.func106, Tryz.ntmps106
 go_wp2_with (go_at_call 96; refine (lock_free Tryz.muLib ⟨kb, 0, none⟩ _ c0 f0).mono ?_; rintro e w' ⟨rfl, rfl⟩)
 refine leaves_cons (f := 97) (args := #[.pointer (some ⟨kb, 0, none⟩)]) (by simp) (by simp [go_sem]) ?_
 refine (unlock_deferred Tryz.muLib ⟨kb, 0, none⟩ .returning _ HL.out.1.1 HL.out.1.2.1).mono ?_
 rintro e u' w'' ⟨rfl, rfl, rfl⟩
 refine ⟨_, results_none rfl _ _ _, rfl, HL.out.1.2.2.mono (fun j _ e => by rw [e]; exact HL.out.2.2), HL.out.2.1⟩
end Go.Proofs.YtocligpfmfmihaaGreatDoor

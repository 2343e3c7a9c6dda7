import Derived.Test.YtocligpfmfmihaaGreatDoorRn1G
import Derived.Test.YtocligpfmfmihaaGreatDoorMpG
import Derived.Test.YtocligpfmfmihaaGreatDoorRea8G
import Derived.Test.YtocligpfmfmihaaGreatDoorRef12G
import Derived.Deep.LoopGhost
import Derived.Deep.QuietTactic
namespace Go.Proofs.YtocligpfmfmihaaGreatDoor
open Go Go.RowKit Go.Maps Go.WideMaps Go.MuLone
theorem srv_facts {w : World} {sb qb : Nat} {t : Bs} (h : w.heap[sb]? = some (srvObj qb t)) : w.cell? ⟨sb, 0, none⟩ = some (.map (some qb)) ∧ w.cell? ⟨sb, 1, none⟩ = some (.string ⟨t.toArray⟩) ∧ w.frozen? ⟨sb, 1, none⟩ = false := by
 unfold srvObj at h
 refine ⟨?_, ?_, ?_⟩ <;> simp [World.cell?, World.frozen?, h]
theorem srv_ne {w : World} {sb qb kb mb ib : Nat} {t : Bs} (h : w.heap[sb]? = some (srvObj qb t)) (hk : w.heap[kb]? = some (knObj mb ib)) : sb ≠ kb := by
 rintro rfl
 rw [hk] at h
 unfold srvObj knObj at h
 injection h with h
 injection h with _ h2 _
 revert h2
 decide
set_option maxRecDepth 20000 in
set_option maxHeartbeats 4000000 in
theorem keyAt_yes (w : World) (kb mb ib n sb qb qn : Nat) (t : Bs) (sm qm : List (Bs × Value)) (hk : w.heap[kb]? = some (knObj mb ib)) (hm : w.ownsMap Tryz.prog 9 Rv mb n (dm sm)) (s i : Bs) (hs : s.length ≤ 2000000) (hi : i.length ≤ 2000000) (at' : Int) (hl : lookK s sm = some (.pointer (some ⟨sb, 0, none⟩)))
  (hsv : w.heap[sb]? = some (srvObj qb t)) (hq : w.ownsMap Tryz.prog 9 Rv qb qn (dm qm)) (o : Option (Bs × Int)) (ho : lookK i qm = o.map kkV) :
  Calls Tryz.prog 64 #[.pointer (some ⟨kb, 0, none⟩), .string ⟨s.toArray⟩, .string ⟨i.toArray⟩, .int .i64 at'] w fun e w' => e = .returned (.tuple #[.string ⟨((o.bind fun p => if p.2 < at' then none else some p.1).getD []).toArray⟩, .bool (o.bind fun p => if p.2 < at' then none else some p.1).isSome]) ∧ Kp (fun _ => False) w w' := by
 obtain ⟨c0, c2, c3, f0⟩ := kn_facts hk
 obtain ⟨d0, d2, d3, g0⟩ := held_facts hk
 have hsv' : (held kb w).heap[sb]? = some (srvObj qb t) := (held_heap (srv_ne hsv hk)).trans hsv
 obtain ⟨s0, s1, _⟩ := srv_facts hsv'
 have hlk := mlook Tryz.underlying168 zSrv (held kb w) sm mb n s (by omega) (ownsMap_heap hm (held_heap (mapT_ne hm hk)))
 rw [hl] at hlk
 replace hlk : (Instr.lookup 168 (.map (some mb)) (.string ⟨s.toArray⟩) true).run Tryz.prog (held kb w) = .ok (.tuple #[.pointer (some ⟨sb, 0, none⟩), .bool true]) (held kb w) := hlk
 have hlq := mlook Tryz.underlying180 zKey (held kb w) qm qb qn i (by omega) (ownsMap_heap hq (held_heap (mapT_ne hq hk)))
 rw [ho] at hlq
 have HB := hide (fun o => lock_frame hk ((Kp.refl _ (held kb w)).alloc o))
 clear hk hm hq hsv hsv' hl ho
 cases o with
 | none =>
  replace hlq : (Instr.lookup 180 (.map (some qb)) (.string ⟨i.toArray⟩) true).run Tryz.prog (held kb w) = .ok (.tuple #[.agg #[.string ⟨#[]⟩, .int .i64 0], .bool false]) (held kb w) := hlq
  unfold held at *
  go_enter_defers Tryz.func64, Tryz.ntmps64
  go_wp2_with (go_at_call 96; refine (lock_free Tryz.muLib ⟨kb, 0, none⟩ _ c0 f0).mono ?_; rintro e w' ⟨rfl, rfl⟩)
  refine leaves_cons (f := 97) (args := #[.pointer (some ⟨kb, 0, none⟩)]) (by simp) (by simp [go_sem]) ?_
  refine (unlock_deferred Tryz.muLib ⟨kb, 0, none⟩ .returning _ (HB.out _).1 (HB.out _).2.1).mono ?_
  rintro e u' w'' ⟨rfl, rfl, rfl⟩
  exact ⟨_, results_tmp2 rfl _ _ _, rfl, (HB.out _).2.2⟩
 | some p =>
  obtain ⟨q, tl⟩ := p
  replace hlq : (Instr.lookup 180 (.map (some qb)) (.string ⟨i.toArray⟩) true).run Tryz.prog (held kb w) = .ok (.tuple #[.agg #[.string ⟨q.toArray⟩, .int .i64 tl], .bool true]) (held kb w) := hlq
  by_cases ht : tl < at'
  ·have ht' : decide (at' > tl) = true := by simpa using ht
   have hz := hide (show ((some (q, tl)).bind fun p : Bs × Int => if p.2 < at' then none else some p.1) = none by simp [ht])
   clear ht
   unfold held at *
   go_enter_defers Tryz.func64, Tryz.ntmps64
   go_wp2_with (go_at_call 96; refine (lock_free Tryz.muLib ⟨kb, 0, none⟩ _ c0 f0).mono ?_; rintro e w' ⟨rfl, rfl⟩)
   refine leaves_cons (f := 97) (args := #[.pointer (some ⟨kb, 0, none⟩)]) (by simp) (by simp [go_sem]) ?_
   refine (unlock_deferred Tryz.muLib ⟨kb, 0, none⟩ .returning _ (HB.out _).1 (HB.out _).2.1).mono ?_
   rintro e u' w'' ⟨rfl, rfl, rfl⟩
   rw [hz.out]
   exact ⟨_, results_tmp2 rfl _ _ _, rfl, (HB.out _).2.2⟩
  ·have ht' : decide (at' > tl) = false := by simpa using ht
   have hz := hide (show ((some (q, tl)).bind fun p : Bs × Int => if p.2 < at' then none else some p.1) = some q by simp [ht])
   clear ht
   unfold held at *
   go_enter_defers Tryz.func64, Tryz.ntmps64
   go_wp2_with (go_at_call 96; refine (lock_free Tryz.muLib ⟨kb, 0, none⟩ _ c0 f0).mono ?_; rintro e w' ⟨rfl, rfl⟩)
   refine leaves_cons (f := 97) (args := #[.pointer (some ⟨kb, 0, none⟩)]) (by simp) (by simp [go_sem]) ?_
   refine (unlock_deferred Tryz.muLib ⟨kb, 0, none⟩ .returning _ (HB.out _).1 (HB.out _).2.1).mono ?_
   rintro e u' w'' ⟨rfl, rfl, rfl⟩
   rw [hz.out]
   exact ⟨_, results_tmp2 rfl _ _ _, rfl, (HB.out _).2.2⟩
end Go.Proofs.YtocligpfmfmihaaGreatDoor
namespace Go.Proofs.YtocligpfmfmihaaGreatDoor
open Go Go.RowKit
theorem step_callF {P : Program} {ops : Array Oper} {o : Oper} {a : Act} {w : World} {K : Act → World → Prop} {Q : Exit → Act → World → Prop} {E : Prop} (hgd : o.guard = none) (f : FuncId) (xs : Array Operand) (ts : Array TypeId) (_ : o.op = .call { callee := .value (.func f), args := xs, argTypes := ts }) (args : Array Value)
  (hrun : (execOp a.eval o).run P w = .ok (.enter f args) w)
  (h : Calls P f args w fun | .returned v, w'' => K (a.put o.dst v) w'' | .panicked chain, w'' => Q (.panic chain) a w'' | .outgrown, _ => LetsOut Q) :
  if Region.wanted o (yielded ops a.tmps) = true then Oper.wp P o a w K Q else E := step_call hgd f args hrun h
def noP (Q : Exit → Act → World → Prop) : Exit → Act → World → Prop := fun ex a w => match ex with | .panic _ => False | e => Q e a w
theorem wp_noP {P : Program} {c : Code} {Q : Exit → Act → World → Prop} {a : Act} {w : World} (h : Code.wp P c (noP Q) a w) : Code.wp P c Q a w :=
 Code.wp_mono (fun e _ _ h => by cases e <;> first | exact h | exact h.elim) h
theorem noP_normal {Q : Exit → Act → World → Prop} {a : Act} {w : World} (h : Q .normal a w) : noP Q .normal a w := h
theorem step_append_run {P : Program} {ops : Array Oper} {o : Oper} {a : Act} {w : World} {K : Act → World → Prop} {Q : Exit → Act → World → Prop} {E : Prop} (hgd : o.guard = none) (s x : Operand) (t : TypeId)
  (ho : o.op = .call { callee := .builtin .append, args := #[s, x], argTypes := #[t, t] }) (v xv v' : Value) (w' : World) (hs : a.eval s = v) (hx : a.eval x = xv) (hr : (Builtin.append_ #[t, t] o.type #[v, xv]).run P w = .ok v' w') (h : K (a.put o.dst v') w') :
  if Region.wanted o (yielded ops a.tmps) = true then Oper.wp P o a w K Q else E := by
 have hw : Region.wanted o (yielded ops a.tmps) = true := by simp [Region.wanted, hgd]
 rw [if_pos hw]
 unfold Oper.wp execOp
 simp only [ho, resolve, invoke, builtin, Sem.run_bind, Sem.run_pure, Result.andThen_ok, List.map_toArray, List.map_cons, List.map_nil, hs, hx, hr]
 exact h
theorem wp_post {P : Program} {c : Code} {Q : Exit → Act → World → Prop} {a : Act} {w : World} (A : Act) (W : World) (h : Code.wp P c (noP fun ex a' w' => ex = .normal ∧ a' = A ∧ w' = W) a w) (hq : Q .normal A W) : Code.wp P c Q a w :=
 wp_noP (Code.wp_mono (fun e _ _ h => by
  cases e <;> first
   | exact h.elim
   | (obtain ⟨h1, rfl, rfl⟩ := h; exact hq)
   | exact absurd h.1 (by intro h; cases h)) h)
theorem post_normal {A : Act} {W : World} : noP (fun ex a' w' => ex = .normal ∧ a' = A ∧ w' = W) .normal A W := ⟨rfl, rfl, rfl⟩
end Go.Proofs.YtocligpfmfmihaaGreatDoor
namespace Go.Proofs.YtocligpfmfmihaaGreatDoor
open Go Go.RowKit Go.Maps Go.WideMaps Go.MuLone
attribute [local go_sem] Oper.semAt_some
theorem trusted_c (now : Int) (h0 : -9223372036854775808 ≤ now) (w : World) : Calls Tryz.prog 155 #[.int .i64 now] w fun e w' => e = .returned (.int .i64 (capF now)) ∧ w' = w := by
 unfold capF
 by_cases h : 9223372036854774807 < now
 ·have h' : decide (now > 9223372036854774807) = true := by simpa using h
  rw [if_pos h]
  clear h
  go_enter Tryz.func155, Tryz.ntmps155
  go_wp2
  go_ret
  exact ⟨rfl, rfl⟩
 ·have h' : decide (now > 9223372036854774807) = false := by simpa using h
  rw [if_neg h]
  go_enter Tryz.func155, Tryz.ntmps155
  go_wp2
  go_ret
  exact ⟨rfl, rfl⟩
set_option maxRecDepth 20000 in
theorem lastMoment_c (k : Ky) (now : Int) (h0 : -9223372036854775808 ≤ now) (w : World) : Calls Tryz.prog 100 #[.agg (kyC k).toArray, .int .i64 now] w fun e w' => e = .returned (.int .i64 (tillF now k)) ∧ Kp (fun _ => False) w w' := by
 have K0 : Kp (fun _ => False) w (w.alloc (.cells (kyC k).toArray 35)) := (Kp.refl _ _).alloc _
 unfold tillF
 unfold kyC at *
 have HO := hide K0
 clear K0
 generalize hko : k.old = ko at *
 cases ko with
 | true =>
  go_enter Tryz.func100, Tryz.ntmps100
  go_wp2_with fail
  go_ret
  exact ⟨rfl, HO.out⟩
 | false =>
  go_enter Tryz.func100, Tryz.ntmps100
  go_wp2_with fail
  go_region_law (refine step_callF rfl 155 _ _ rfl #[.int .i64 now] (by go_simp) ?_; refine (trusted_c now h0 _).mono ?_; rintro e w' ⟨rfl, rfl⟩)
  all_goals go_wp2
  all_goals go_ret
  all_goals exact ⟨rfl, HO.out.drewN _⟩
end Go.Proofs.YtocligpfmfmihaaGreatDoor
namespace Go.Proofs.YtocligpfmfmihaaGreatDoor
open Go Go.RowKit Go.Extern.Stop Go.Stop Go.Extern
inductive Lk | mem | doc | evt | srv
deriving DecidableEq
def Lk.t : Lk → TypeId
 | .mem => 250
 | .doc => 117
 | .evt => 118
 | .srv => 188
def Lk.bt : Lk → TypeId
 | .mem => 252
 | .doc => 146
 | .evt => 187
 | .srv => 191
def Lk.cs (k : Lk) (s : ByteArray) (ev : Value) : Array Value := match k with
 | .mem => #[.string s, ev]
 | .doc => #[ev]
 | .evt => #[ev]
 | .srv => #[.string s, ev]
inductive Chn (w : World) (a : Addr) : List (Lk × ByteArray) → Value → Prop
 | nil : Chn w a [] (errV a)
 | cons (k : Lk) (ks : List (Lk × ByteArray)) (b : Nat) (s : ByteArray) (ev : Value) : w.heap[b]? = some (.cells (k.cs s ev) k.bt) → Chn w a ks ev → Chn w a ((k, s) :: ks) (.iface k.t (.pointer (some ⟨b, 0, none⟩)))
theorem Chn.iface {w : World} {a : Addr} {ks : List (Lk × ByteArray)} {ev : Value} (h : Chn w a ks ev) : ∃ t u, ev = .iface t u := by
 cases h with
 | nil => exact ⟨_, _, rfl⟩
 | cons k ks b s ev h _ => exact ⟨_, _, rfl⟩
theorem Chn.up {w w' : World} {a : Addr} {ks : List (Lk × ByteArray)} {ev : Value} (h : Chn w a ks ev) (hk : ∀ (k : Nat) (c : Array Value) (t : TypeId), w.heap[k]? = some (.cells c t) → t = 252 ∨ t = 146 ∨ t = 187 ∨ t = 191 → w'.heap[k]? = some (.cells c t)) : Chn w' a ks ev := by
 induction h with
 | nil => exact .nil
 | cons k ks b s ev h _ ih => exact .cons k ks b s ev (hk _ _ _ h (by cases k <;> simp [Lk.bt])) ih
theorem Chn.kp {w w' : World} {a : Addr} {ks : List (Lk × ByteArray)} {ev : Value} (h : Chn w a ks ev) (hk : Kp (fun _ => False) w w') : Chn w' a ks ev := h.up (fun k _ _ h _ => (hk.block k (lt_heap h) (by simp)).trans h)
theorem noIs_mem (v : Value) (xT : TypeId) (w : World) : (Instr.typeAssert (.iface 250 v) xT 291 true).run Tryz.prog w = .ok (.tuple #[.nilIface, .bool false]) w := run_typeAssert_lacksB Tryz.underlying291 (by kernel_rfl) (by kernel_rfl) v xT w
theorem noAs_mem (v : Value) (xT : TypeId) (w : World) : (Instr.typeAssert (.iface 250 v) xT 301 true).run Tryz.prog w = .ok (.tuple #[.nilIface, .bool false]) w := run_typeAssert_lacksB Tryz.underlying301 (by kernel_rfl) (by kernel_rfl) v xT w
theorem hasUnwrap_mem (v : Value) (xT : TypeId) (w : World) : (Instr.typeAssert (.iface 250 v) xT 294 true).run Tryz.prog w = .ok (.tuple #[.iface 250 v, .bool true]) w := run_typeAssert_hasB Tryz.underlying294 (by kernel_rfl) v xT w
theorem methodUnwrap_mem (v : Value) (w : World) : (Go.method 546 250 v "Unwrap").run Tryz.prog w = .ok (338, v) w := by kernel_rfl
theorem noIs_doc (v : Value) (xT : TypeId) (w : World) : (Instr.typeAssert (.iface 117 v) xT 291 true).run Tryz.prog w = .ok (.tuple #[.nilIface, .bool false]) w := run_typeAssert_lacksB Tryz.underlying291 (by kernel_rfl) (by kernel_rfl) v xT w
theorem noAs_doc (v : Value) (xT : TypeId) (w : World) : (Instr.typeAssert (.iface 117 v) xT 301 true).run Tryz.prog w = .ok (.tuple #[.nilIface, .bool false]) w := run_typeAssert_lacksB Tryz.underlying301 (by kernel_rfl) (by kernel_rfl) v xT w
theorem hasUnwrap_doc (v : Value) (xT : TypeId) (w : World) : (Instr.typeAssert (.iface 117 v) xT 294 true).run Tryz.prog w = .ok (.tuple #[.iface 117 v, .bool true]) w := run_typeAssert_hasB Tryz.underlying294 (by kernel_rfl) v xT w
theorem methodUnwrap_doc (v : Value) (w : World) : (Go.method 546 117 v "Unwrap").run Tryz.prog w = .ok (324, v) w := by kernel_rfl
theorem noIs_evt (v : Value) (xT : TypeId) (w : World) : (Instr.typeAssert (.iface 118 v) xT 291 true).run Tryz.prog w = .ok (.tuple #[.nilIface, .bool false]) w := run_typeAssert_lacksB Tryz.underlying291 (by kernel_rfl) (by kernel_rfl) v xT w
theorem noAs_evt (v : Value) (xT : TypeId) (w : World) : (Instr.typeAssert (.iface 118 v) xT 301 true).run Tryz.prog w = .ok (.tuple #[.nilIface, .bool false]) w := run_typeAssert_lacksB Tryz.underlying301 (by kernel_rfl) (by kernel_rfl) v xT w
theorem hasUnwrap_evt (v : Value) (xT : TypeId) (w : World) : (Instr.typeAssert (.iface 118 v) xT 294 true).run Tryz.prog w = .ok (.tuple #[.iface 118 v, .bool true]) w := run_typeAssert_hasB Tryz.underlying294 (by kernel_rfl) v xT w
theorem methodUnwrap_evt (v : Value) (w : World) : (Go.method 546 118 v "Unwrap").run Tryz.prog w = .ok (326, v) w := by kernel_rfl
theorem noIs_srv (v : Value) (xT : TypeId) (w : World) : (Instr.typeAssert (.iface 188 v) xT 291 true).run Tryz.prog w = .ok (.tuple #[.nilIface, .bool false]) w := run_typeAssert_lacksB Tryz.underlying291 (by kernel_rfl) (by kernel_rfl) v xT w
theorem noAs_srv (v : Value) (xT : TypeId) (w : World) : (Instr.typeAssert (.iface 188 v) xT 301 true).run Tryz.prog w = .ok (.tuple #[.nilIface, .bool false]) w := run_typeAssert_lacksB Tryz.underlying301 (by kernel_rfl) (by kernel_rfl) v xT w
theorem hasUnwrap_srv (v : Value) (xT : TypeId) (w : World) : (Instr.typeAssert (.iface 188 v) xT 294 true).run Tryz.prog w = .ok (.tuple #[.iface 188 v, .bool true]) w := run_typeAssert_hasB Tryz.underlying294 (by kernel_rfl) v xT w
theorem methodUnwrap_srv (v : Value) (w : World) : (Go.method 546 188 v "Unwrap").run Tryz.prog w = .ok (329, v) w := by kernel_rfl
theorem callTypeOf_of (t : TypeId) (v : Value) (w : World) (h : (Extern.ReflectliteType.typeOf #[.iface t v]).run Tryz.prog w = .ok (.iface 289 (.agg #[.pointer (some ⟨31, t, none⟩)])) w) : (callFunc 112 #[.iface t v]).run Tryz.prog w = .ok (.value (.iface 289 (.agg #[.pointer (some ⟨31, t, none⟩)]))) w := by
 rw [@run_callFunc_extern Tryz.prog 112 _ Extern.ReflectliteType.typeOf Tryz.func112 (by kernel_rfl) (by kernel_rfl) (by kernel_rfl) (by kernel_rfl), h]
 rfl
theorem callTypeOf_mem (v : Value) (w : World) : (callFunc 112 #[.iface 250 v]).run Tryz.prog w = .ok (.value (.iface 289 (.agg #[.pointer (some ⟨31, 250, none⟩)]))) w := callTypeOf_of 250 v w (by kernel_rfl)
theorem callTypeOf_doc (v : Value) (w : World) : (callFunc 112 #[.iface 117 v]).run Tryz.prog w = .ok (.value (.iface 289 (.agg #[.pointer (some ⟨31, 117, none⟩)]))) w := callTypeOf_of 117 v w (by kernel_rfl)
theorem callTypeOf_evt (v : Value) (w : World) : (callFunc 112 #[.iface 118 v]).run Tryz.prog w = .ok (.value (.iface 289 (.agg #[.pointer (some ⟨31, 118, none⟩)]))) w := callTypeOf_of 118 v w (by kernel_rfl)
theorem callTypeOf_srv (v : Value) (w : World) : (callFunc 112 #[.iface 188 v]).run Tryz.prog w = .ok (.value (.iface 289 (.agg #[.pointer (some ⟨31, 188, none⟩)]))) w := callTypeOf_of 188 v w (by kernel_rfl)
def Lk.off : Lk → Nat | .mem => 1 | .doc => 0 | .evt => 0 | .srv => 1
theorem chn_cell {w : World} {k : Lk} {b : Nat} {s : ByteArray} {ev : Value} (h : w.heap[b]? = some (.cells (k.cs s ev) k.bt)) : w.cell? ⟨b, k.off, none⟩ = some ev := by
 cases k <;> simp [World.cell?, h, Lk.cs, Lk.off]
set_option maxRecDepth 20000 in
set_option maxHeartbeats 4000000 in
theorem is_ne_loop (w : World) (a b : Addr) (ks : List (Lk × ByteArray)) (ev : Value) (hch : Chn w a ks ev) (hne : a ≠ b) (ca cb : Array Value) (ta tb : TypeId) (ha : w.heap[a.block]? = some (.cells ca ta (0, 0))) (hb : w.heap[b.block]? = some (.cells cb tb (0, 0))) :
  Calls Tryz.prog 113 #[ev, errV b, .bool true] w fun e w' => e = .returned (.bool false) ∧ w' = w := by
 obtain ⟨i, hi, hcmp⟩ := Option.map_eq_some_iff.1 isComp
 obtain ⟨j, hj, hjs⟩ := Option.map_eq_some_iff.1 isSize
 have nE := noIsE
 have uE := noUnwrapE
 have vE := noUnwrapsE
 have heq := run_eql_iface_ptr_other (P := Tryz.prog) (a := a) (b := b) w Tryz.underlying61 Tryz.underlying415 hi hcmp hj (by rw [hjs]; decide) hne ha hb
 clear ha hb
 have HC := hide hch
 unfold errV
 obtain ⟨t0, u0, rfl⟩ := hch.iface
 clear hch
 go_enter Tryz.func113, Tryz.ntmps113
 go_wp2
 go_loopg [0] ks.length (fun gg v wr => ∃ ks', gg = ks'.length ∧ Chn w a ks' v ∧ wr = w)
 case atStart => exact ⟨ks, rfl, HC.out, rfl⟩
 case round =>
  obtain ⟨ks', hgg, hc, rfl⟩ := hrel
  cases hc with
  | nil =>
   clear hgg HC
   unfold errV
   go_wp2
   go_ret
   exact ⟨rfl, rfl⟩
  | cons k ks2 b2 s ev2 hb2 hc2 =>
   have hcell := chn_cell hb2
   have HG := hide hgg
   have HC2 := hide hc2
   obtain ⟨t2, u2, rfl⟩ := hc2.iface
   clear hgg hc2 hb2 HC
   cases k with
   | mem =>
    have nW := noIs_mem
    have uW := hasUnwrap_mem
    have mU := methodUnwrap_mem
    have hty := run_eql_iface_types (P := Tryz.prog) 250 415 (.pointer (some ⟨b2, 0, none⟩)) (.pointer (some b)) Tryz.underlying61 (by decide) wr
    simp only [Lk.off] at hcell
    simp only [Lk.t]
    go_wp2
    go_roundg ks2.length
    case measure => rw [HG.out]; exact Nat.lt_succ_self _
    case rel => exact ⟨ks2, rfl, HC2.out, rfl⟩
   | doc =>
    have nW := noIs_doc
    have uW := hasUnwrap_doc
    have mU := methodUnwrap_doc
    have hty := run_eql_iface_types (P := Tryz.prog) 117 415 (.pointer (some ⟨b2, 0, none⟩)) (.pointer (some b)) Tryz.underlying61 (by decide) wr
    simp only [Lk.off] at hcell
    simp only [Lk.t]
    go_wp2
    go_roundg ks2.length
    case measure => rw [HG.out]; exact Nat.lt_succ_self _
    case rel => exact ⟨ks2, rfl, HC2.out, rfl⟩
   | evt =>
    have nW := noIs_evt
    have uW := hasUnwrap_evt
    have mU := methodUnwrap_evt
    have hty := run_eql_iface_types (P := Tryz.prog) 118 415 (.pointer (some ⟨b2, 0, none⟩)) (.pointer (some b)) Tryz.underlying61 (by decide) wr
    simp only [Lk.off] at hcell
    simp only [Lk.t]
    go_wp2
    go_roundg ks2.length
    case measure => rw [HG.out]; exact Nat.lt_succ_self _
    case rel => exact ⟨ks2, rfl, HC2.out, rfl⟩
   | srv =>
    have nW := noIs_srv
    have uW := hasUnwrap_srv
    have mU := methodUnwrap_srv
    have hty := run_eql_iface_types (P := Tryz.prog) 188 415 (.pointer (some ⟨b2, 0, none⟩)) (.pointer (some b)) Tryz.underlying61 (by decide) wr
    simp only [Lk.off] at hcell
    simp only [Lk.t]
    go_wp2
    go_roundg ks2.length
    case measure => rw [HG.out]; exact Nat.lt_succ_self _
    case rel => exact ⟨ks2, rfl, HC2.out, rfl⟩
set_option maxRecDepth 20000 in
set_option maxHeartbeats 4000000 in
theorem is_eq_loop (w : World) (a : Addr) (ks : List (Lk × ByteArray)) (ev : Value) (hch : Chn w a ks ev) :
  Calls Tryz.prog 113 #[ev, errV a, .bool true] w fun e w' => e = .returned (.bool true) ∧ w' = w := by
 obtain ⟨i, hi, hcmp⟩ := Option.map_eq_some_iff.1 isComp
 obtain ⟨j, hj, hjs⟩ := Option.map_eq_some_iff.1 isSize
 have nE := noIsE
 have uE := noUnwrapE
 have vE := noUnwrapsE
 have heq := run_eql_iface_ptr_same (P := Tryz.prog) w a Tryz.underlying61 Tryz.underlying415 hi hcmp hj
 have HC := hide hch
 unfold errV
 obtain ⟨t0, u0, rfl⟩ := hch.iface
 clear hch
 go_enter Tryz.func113, Tryz.ntmps113
 go_wp2
 go_loopg [0] ks.length (fun gg v wr => ∃ ks', gg = ks'.length ∧ Chn w a ks' v ∧ wr = w)
 case atStart => exact ⟨ks, rfl, HC.out, rfl⟩
 case round =>
  obtain ⟨ks', hgg, hc, rfl⟩ := hrel
  cases hc with
  | nil =>
   clear hgg HC
   unfold errV
   go_wp2
   go_ret
   exact ⟨rfl, rfl⟩
  | cons k ks2 b2 s ev2 hb2 hc2 =>
   have hcell := chn_cell hb2
   have HG := hide hgg
   have HC2 := hide hc2
   obtain ⟨t2, u2, rfl⟩ := hc2.iface
   clear hgg hc2 hb2 HC
   cases k with
   | mem =>
    have nW := noIs_mem
    have uW := hasUnwrap_mem
    have mU := methodUnwrap_mem
    have hty := run_eql_iface_types (P := Tryz.prog) 250 415 (.pointer (some ⟨b2, 0, none⟩)) (.pointer (some a)) Tryz.underlying61 (by decide) wr
    simp only [Lk.off] at hcell
    simp only [Lk.t]
    go_wp2
    go_roundg ks2.length
    case measure => rw [HG.out]; exact Nat.lt_succ_self _
    case rel => exact ⟨ks2, rfl, HC2.out, rfl⟩
   | doc =>
    have nW := noIs_doc
    have uW := hasUnwrap_doc
    have mU := methodUnwrap_doc
    have hty := run_eql_iface_types (P := Tryz.prog) 117 415 (.pointer (some ⟨b2, 0, none⟩)) (.pointer (some a)) Tryz.underlying61 (by decide) wr
    simp only [Lk.off] at hcell
    simp only [Lk.t]
    go_wp2
    go_roundg ks2.length
    case measure => rw [HG.out]; exact Nat.lt_succ_self _
    case rel => exact ⟨ks2, rfl, HC2.out, rfl⟩
   | evt =>
    have nW := noIs_evt
    have uW := hasUnwrap_evt
    have mU := methodUnwrap_evt
    have hty := run_eql_iface_types (P := Tryz.prog) 118 415 (.pointer (some ⟨b2, 0, none⟩)) (.pointer (some a)) Tryz.underlying61 (by decide) wr
    simp only [Lk.off] at hcell
    simp only [Lk.t]
    go_wp2
    go_roundg ks2.length
    case measure => rw [HG.out]; exact Nat.lt_succ_self _
    case rel => exact ⟨ks2, rfl, HC2.out, rfl⟩
   | srv =>
    have nW := noIs_srv
    have uW := hasUnwrap_srv
    have mU := methodUnwrap_srv
    have hty := run_eql_iface_types (P := Tryz.prog) 188 415 (.pointer (some ⟨b2, 0, none⟩)) (.pointer (some a)) Tryz.underlying61 (by decide) wr
    simp only [Lk.off] at hcell
    simp only [Lk.t]
    go_wp2
    go_roundg ks2.length
    case measure => rw [HG.out]; exact Nat.lt_succ_self _
    case rel => exact ⟨ks2, rfl, HC2.out, rfl⟩
set_option maxRecDepth 20000 in
theorem is_ne (w : World) (a b : Addr) (ks : List (Lk × ByteArray)) (ev : Value) (hch : Chn w a ks ev) (hne : a ≠ b) (ca cb : Array Value) (ta tb : TypeId) (ha : w.heap[a.block]? = some (.cells ca ta (0, 0))) (hb : w.heap[b.block]? = some (.cells cb tb (0, 0))) :
  Calls Tryz.prog 66 #[ev, errV b] w fun e w' => e = .returned (.bool false) ∧ w' = w := by
 have HL := hide (is_ne_loop w a b ks ev hch hne ca cb ta tb ha hb)
 have h8 := callTypeOf
 have h32 := callComparable
 have mR := isMethodComparable
 obtain ⟨t0, u0, rfl⟩ := hch.iface
 clear hch
 unfold errV at *
 go_enter Tryz.func66, Tryz.ntmps66
 go_wp2_with fail
 refine HL.out.mono ?_
 rintro e w' ⟨rfl, rfl⟩
 go_wp2
 go_ret
 exact ⟨rfl, rfl⟩
set_option maxRecDepth 20000 in
theorem is_eq (w : World) (a : Addr) (ks : List (Lk × ByteArray)) (ev : Value) (hch : Chn w a ks ev) :
  Calls Tryz.prog 66 #[ev, errV a] w fun e w' => e = .returned (.bool true) ∧ w' = w := by
 have HL := hide (is_eq_loop w a ks ev hch)
 have h8 := callTypeOf
 have h32 := callComparable
 have mR := isMethodComparable
 obtain ⟨t0, u0, rfl⟩ := hch.iface
 clear hch
 unfold errV at *
 go_enter Tryz.func66, Tryz.ntmps66
 go_wp2_with fail
 refine HL.out.mono ?_
 rintro e w' ⟨rfl, rfl⟩
 go_wp2
 go_ret
 exact ⟨rfl, rfl⟩
end Go.Proofs.YtocligpfmfmihaaGreatDoor

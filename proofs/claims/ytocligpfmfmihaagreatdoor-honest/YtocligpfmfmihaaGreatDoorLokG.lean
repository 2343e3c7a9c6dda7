import Derived.Test.YtocligpfmfmihaaGreatDoorProg
import Derived.Conc.MuData
import Derived.Conc.MuLone
import Derived.KernelRfl
import Derived.Test.YtocligpfmfmihaaGreatDoorRef27G
import Derived.Test.YtocligpfmfmihaaGreatDoorMapsG
import Derived.Defers
import Derived.Test.YtocligpfmfmihaaGreatDoorRd5G
import Derived.Test.YtocligpfmfmihaaGreatDoorRea8G
import Derived.Test.YtocligpfmfmihaaGreatDoorErr3
import Derived.Deep.LoopGhost
import Derived.Deep.QuietTactic
namespace Go.Proofs
abbrev Tryz.muLink : Go.Conc.Locks.MuLink := { lock := 96, unlock := 97, ilock := 153, iunlock := 154, lockSlow := 197, unlockSlow := 200, disable := 193, enable := 195, acquire := 196, relMerge := 198, cas32 := 194, add32 := 199, tMutex := 175, tIMutex := 173, tPMutex := 278, tPIMutex := 332, tPI32 := 334, tUP := 211, tNoCopy := 171, tU32 := 152 }
theorem Tryz.muLib : Go.Conc.Locks.MuLib Tryz.prog Tryz.muLink :=
 ⟨Tryz.func96, Tryz.func97, Tryz.func153, Tryz.func154, Tryz.func193, Tryz.func195, Tryz.func196, Tryz.func198, Tryz.func194, Tryz.func199, Tryz.underlying173, Tryz.runUnderlying173, Tryz.sizeOf173, Tryz.isAgg173, Tryz.zeroValue173, Tryz.underlying175, Tryz.runUnderlying175, Tryz.sizeOf175, Tryz.isAgg175, Tryz.zeroValue175, Tryz.underlying278, Tryz.runUnderlying278, Tryz.sizeOf278, Tryz.isAgg278, Tryz.zeroValue278, Tryz.underlying332, Tryz.runUnderlying332, Tryz.sizeOf332, Tryz.isAgg332, Tryz.zeroValue332, Tryz.underlying334, Tryz.runUnderlying334, Tryz.sizeOf334, Tryz.isAgg334, Tryz.zeroValue334, Tryz.underlying211, Tryz.runUnderlying211, Tryz.sizeOf211, Tryz.isAgg211, Tryz.zeroValue211, Tryz.underlying171, Tryz.runUnderlying171, Tryz.sizeOf171, Tryz.isAgg171, Tryz.zeroValue171, Tryz.underlying21, Tryz.runUnderlying21, Tryz.sizeOf21, Tryz.isAgg21, Tryz.zeroValue21, (by kernel_rfl)⟩
end Go.Proofs
namespace Go.Proofs.YtocligpfmfmihaaGreatDoor
structure Kn where
 srv : Bs
 id : Bs
 key : Bs
 till : Int
def ixOf {α : Type} (p : α → Bool) (l : List α) : Option Nat := l.findIdx? p
theorem ix_some {α : Type} {p : α → Bool} {l : List α} {n : Nat} (h : ixOf p l = some n) : ∃ x, l[n]? = some x ∧ p x = true ∧ l.find? p = some x := by
 induction l generalizing n with
 | nil => simp [ixOf] at h
 | cons a l ih =>
  unfold ixOf at h ih
  rw [List.findIdx?_cons] at h
  by_cases ha : p a = true
  ·rw [if_pos ha] at h
   injection h with h
   subst h
   exact ⟨a, rfl, ha, by simp [ha]⟩
  ·rw [if_neg ha] at h
   obtain ⟨m, hm, rfl⟩ := Option.map_eq_some_iff.1 h
   obtain ⟨x, h1, h2, h3⟩ := ih hm
   exact ⟨x, by simpa using h1, h2, by simp [ha, h3]⟩
theorem ix_hit {α : Type} {p : α → Bool} {l : List α} {n : Nat} {x : α} (hx : l[n]? = some x) (h1 : p x = true) (hb : ∀ (j : Nat) (q : α), j < n → l[j]? = some q → p q = false) : ixOf p l = some n := by
 unfold ixOf
 have hn : n < l.length := by
  rcases Nat.lt_or_ge n l.length with h' | h'
  ·exact h'
  ·rw [List.getElem?_eq_none h'] at hx; cases hx
 rw [List.getElem?_eq_getElem hn] at hx
 injection hx with hx
 refine List.findIdx?_eq_some_iff_getElem.2 ⟨hn, by rw [hx]; exact h1, ?_⟩
 intro j hj
 have := hb j _ hj (List.getElem?_eq_getElem (by omega))
 simpa using this
def isK (s i : Bs) (k : Kn) : Bool := decide (k.srv = s) && decide (k.id = i)
theorem isK_iff {s i : Bs} {k : Kn} : isK s i k = true ↔ k.srv = s ∧ k.id = i := by simp [isK]
def knAt (L : List Kn) (s i : Bs) : Option (Bs × Int) := (L.find? (isK s i)).map fun k => (k.key, k.till)
def isS {α : Type} (s : Bs) (p : Bs × α) : Bool := decide (p.1 = s)
def asc {α : Type} (D : List (Bs × α)) (s : Bs) : Option α := (D.find? (isS s)).map (·.2)
end Go.Proofs.YtocligpfmfmihaaGreatDoor
namespace Go.Proofs.YtocligpfmfmihaaGreatDoor
open Go Go.RowKit Go.Maps Go.WideMaps Go.MuLone
theorem mlook {t e : TypeId} {z : Value} (ht : Tryz.prog.underlying t = some (.map 9 e)) (hz : ∀ w, (zeroValue e).run Tryz.prog w = .ok z w) (w : World) (m : List (Bs × Value)) (b n : Nat) (k : Bs) (hk : k.length ≤ 139000000000000) (h : w.ownsMap Tryz.prog 9 Rv b n (dm m)) :
  (Instr.lookup t (.map (some b)) (.string ⟨k.toArray⟩) true).run Tryz.prog w = .ok (.tuple #[(lookK k m).getD z, .bool (lookK k m).isSome]) w := by
 obtain ⟨lv, lps, hlk, hlr⟩ := h.look_ok keyed ht (hz w) (R := Rv) (zd := .held z) (zp := []) rfl (key_mk2 hk)
 rw [dm_has] at hlk
 rw [dm_at] at hlr
 rw [hlk]
 cases hl : lookK k m with
 | none =>
  rw [hl] at hlr
  simp only [Rv, Option.some.injEq, Prod.mk.injEq, DataW.held.injEq] at hlr
  rw [hlr.1]
  rfl
 | some v =>
  rw [hl] at hlr
  simp only [Rv, Option.some.injEq, Prod.mk.injEq, DataW.held.injEq] at hlr
  rw [hlr.1]
  rfl
theorem zSrv (w : World) : (zeroValue 178).run Tryz.prog w = .ok (.pointer none) w := by kernel_rfl
theorem zKey (w : World) : (zeroValue 199).run Tryz.prog w = .ok (.agg #[.string ⟨#[]⟩, .int .i64 0]) w := by kernel_rfl
theorem zMom (w : World) : (zeroValue 2).run Tryz.prog w = .ok (.int .i64 0) w := by kernel_rfl
def knObj (mb ib : Nat) : Obj := .cells #[.int .i32 0, .int .u32 0, .map (some mb), .map (some ib)] 177
theorem kn_facts {w : World} {b mb ib : Nat} (h : w.heap[b]? = some (knObj mb ib)) : w.cell? ⟨b, 0, none⟩ = some (.int .i32 0) ∧ w.cell? ⟨b, 2, none⟩ = some (.map (some mb)) ∧ w.cell? ⟨b, 3, none⟩ = some (.map (some ib)) ∧ w.frozen? ⟨b, 0, none⟩ = false := by
 unfold knObj at h
 refine ⟨?_, ?_, ?_, ?_⟩ <;> simp [World.cell?, World.frozen?, h]
def held (b : Nat) (w : World) : World := w.setCell ⟨b, 0, none⟩ (.int .i32 1)
theorem held_facts {w : World} {b mb ib : Nat} (h : w.heap[b]? = some (knObj mb ib)) : (held b w).cell? ⟨b, 0, none⟩ = some (.int .i32 1) ∧ (held b w).cell? ⟨b, 2, none⟩ = some (.map (some mb)) ∧ (held b w).cell? ⟨b, 3, none⟩ = some (.map (some ib)) ∧ (held b w).frozen? ⟨b, 0, none⟩ = false := by
 have hb : (held b w).heap[b]? = some (.cells #[.int .i32 1, .int .u32 0, .map (some mb), .map (some ib)] 177) := by
  unfold held knObj at *
  simp [World.setCell, Array.getElem?_modify, h]
 refine ⟨?_, ?_, ?_, ?_⟩ <;> simp [World.cell?, World.frozen?, hb]
theorem held_back {w : World} {b mb ib : Nat} (h : w.heap[b]? = some (knObj mb ib)) : (held b w).setCell ⟨b, 0, none⟩ (.int .i32 0) = w := by
 have hl := lt_heap h
 unfold held World.setCell
 cases w with
 | mk heap os tape output =>
  simp only [World.mk.injEq, and_true]
  apply Array.ext_getElem?
  intro j
  unfold knObj at h
  simp only [Array.getElem?_modify]
  by_cases hj : b = j
  ·subst hj
   simp only [if_true, Option.map_map]
   simp at h
   simp [h]
  ·simp [hj]
theorem held_heap {w : World} {b k : Nat} (h : k ≠ b) : (held b w).heap[k]? = w.heap[k]? := by
 unfold held
 exact heap_set_other (by exact h)
theorem held_obj {w : World} {b mb ib : Nat} (h : w.heap[b]? = some (knObj mb ib)) : (held b w).heap[b]? = some (.cells #[.int .i32 1, .int .u32 0, .map (some mb), .map (some ib)] 177) := by
 unfold held knObj at *
 simp [World.setCell, Array.getElem?_modify, h]
theorem lock_frame {w X : World} {b mb ib : Nat} (h : w.heap[b]? = some (knObj mb ib)) (K : Kp (fun _ => False) (held b w) X) :
  X.cell? ⟨b, 0, none⟩ = some (.int .i32 1) ∧ X.frozen? ⟨b, 0, none⟩ = false ∧ Kp (fun _ => False) w (X.setCell ⟨b, 0, none⟩ (.int .i32 0)) := by
 have hx := K.heap (held_obj h)
 have hl := lt_heap h
 have hs : (held b w).heap.size = w.heap.size := World.size_setCell _ _ _
 refine ⟨by simp [World.cell?, hx], by simp [World.frozen?, hx], K.os, K.tape, K.output, ?_, ?_⟩
 ·rw [World.size_setCell, ← hs]; exact K.size
 ·intro k hk _
  by_cases he : k = b
  ·subst he
   rw [h]
   simp [World.setCell, Array.getElem?_modify, hx, knObj]
  ·rw [heap_set_other (by exact he), K.block k (by omega) (by simp), held_heap he]
theorem mapT_ne {w : World} {b n : Nat} {m : List (Bs × Value)} (h : w.ownsMap Tryz.prog 9 Rv b n (dm m)) {k : Nat} {c : Array Value} {t : TypeId} (hk : w.heap[k]? = some (.cells c t)) : b ≠ k := by
 rintro rfl
 obtain ⟨es, cl, h1, _⟩ := h
 rw [hk] at h1
 cases h1
def srvObj (qb : Nat) (t : Bs) : Obj := .cells #[.map (some qb), .string ⟨t.toArray⟩] 182
def kkV (p : Bs × Int) : Value := .agg #[.string ⟨p.1.toArray⟩, .int .i64 p.2]
set_option maxRecDepth 20000 in
set_option maxHeartbeats 4000000 in
theorem keyAt_no (w : World) (kb mb ib n : Nat) (sm : List (Bs × Value)) (hk : w.heap[kb]? = some (knObj mb ib)) (hm : w.ownsMap Tryz.prog 9 Rv mb n (dm sm)) (s i : Bs) (hs : s.length ≤ 2000000) (at' : Int) (hl : lookK s sm = none) :
  Calls Tryz.prog 64 #[.pointer (some ⟨kb, 0, none⟩), .string ⟨s.toArray⟩, .string ⟨i.toArray⟩, .int .i64 at'] w fun e w' => e = .returned (.tuple #[.string ⟨#[]⟩, .bool false]) ∧ w' = w := by
 obtain ⟨c0, c2, c3, f0⟩ := kn_facts hk
 obtain ⟨d0, d2, d3, g0⟩ := held_facts hk
 have hlk := mlook Tryz.underlying168 zSrv (held kb w) sm mb n s (by omega) (ownsMap_heap hm (held_heap (mapT_ne hm hk)))
 rw [hl] at hlk
 replace hlk : (Instr.lookup 168 (.map (some mb)) (.string ⟨s.toArray⟩) true).run Tryz.prog (held kb w) = .ok (.tuple #[.pointer none, .bool false]) (held kb w) := hlk
 have HB := hide (held_back hk)
 unfold held at *
 go_enter_defers Tryz.func64, Tryz.ntmps64
 go_wp2_with (go_at_call 96; refine (lock_free Tryz.muLib ⟨kb, 0, none⟩ _ c0 f0).mono ?_; rintro e w' ⟨rfl, rfl⟩)
 refine leaves_cons (f := 97) (args := #[.pointer (some ⟨kb, 0, none⟩)]) (by simp) (by simp [go_sem]) ?_
 refine (unlock_deferred Tryz.muLib ⟨kb, 0, none⟩ .returning _ d0 g0).mono ?_
 rintro e u' w'' ⟨rfl, rfl, rfl⟩
 exact ⟨_, results_tmp2 rfl _ _ _, rfl, HB.out⟩
end Go.Proofs.YtocligpfmfmihaaGreatDoor
namespace Go.Proofs.YtocligpfmfmihaaGreatDoor
open Go Go.RowKit Go.Maps Go.WideMaps Go.MuLone
theorem srv_facts {w : World} {sb qb : Nat} {t : Bs} (h : w.heap[sb]? = some (srvObj qb t)) : w.cell? ⟨sb, 0, none⟩ = some (.map (some qb)) ∧ w.cell? ⟨sb, 1, none⟩ = some (.string ⟨t.toArray⟩) ∧ w.frozen? ⟨sb, 1, none⟩ = false := by
 unfold srvObj at h
 refine ⟨?_, ?_, ?_⟩ <;> simp [World.cell?, World.frozen?, h]
theorem srv_ne {w : World} {sb qb kb mb ib : Nat} {t : Bs} (h : w.heap[sb]? = some (srvObj qb t)) (hk : w.heap[kb]? = some (knObj mb ib)) : sb ≠ kb := by
 rintro rfl
 rw [hk] at h
 unfold srvObj knObj at h
 injection h with h
 injection h with _ h2 _
 revert h2
 decide
set_option maxRecDepth 20000 in
set_option maxHeartbeats 4000000 in
theorem keyAt_yes (w : World) (kb mb ib n sb qb qn : Nat) (t : Bs) (sm qm : List (Bs × Value)) (hk : w.heap[kb]? = some (knObj mb ib)) (hm : w.ownsMap Tryz.prog 9 Rv mb n (dm sm)) (s i : Bs) (hs : s.length ≤ 2000000) (hi : i.length ≤ 2000000) (at' : Int) (hl : lookK s sm = some (.pointer (some ⟨sb, 0, none⟩)))
  (hsv : w.heap[sb]? = some (srvObj qb t)) (hq : w.ownsMap Tryz.prog 9 Rv qb qn (dm qm)) (o : Option (Bs × Int)) (ho : lookK i qm = o.map kkV) :
  Calls Tryz.prog 64 #[.pointer (some ⟨kb, 0, none⟩), .string ⟨s.toArray⟩, .string ⟨i.toArray⟩, .int .i64 at'] w fun e w' => e = .returned (.tuple #[.string ⟨((o.bind fun p => if p.2 < at' then none else some p.1).getD []).toArray⟩, .bool (o.bind fun p => if p.2 < at' then none else some p.1).isSome]) ∧ Kp (fun _ => False) w w' := by
 obtain ⟨c0, c2, c3, f0⟩ := kn_facts hk
 obtain ⟨d0, d2, d3, g0⟩ := held_facts hk
 have hsv' : (held kb w).heap[sb]? = some (srvObj qb t) := (held_heap (srv_ne hsv hk)).trans hsv
 obtain ⟨s0, s1, _⟩ := srv_facts hsv'
 have hlk := mlook Tryz.underlying168 zSrv (held kb w) sm mb n s (by omega) (ownsMap_heap hm (held_heap (mapT_ne hm hk)))
 rw [hl] at hlk
 replace hlk : (Instr.lookup 168 (.map (some mb)) (.string ⟨s.toArray⟩) true).run Tryz.prog (held kb w) = .ok (.tuple #[.pointer (some ⟨sb, 0, none⟩), .bool true]) (held kb w) := hlk
 have hlq := mlook Tryz.underlying180 zKey (held kb w) qm qb qn i (by omega) (ownsMap_heap hq (held_heap (mapT_ne hq hk)))
 rw [ho] at hlq
 have HB := hide (fun o => lock_frame hk ((Kp.refl _ (held kb w)).alloc o))
 clear hk hm hq hsv hsv' hl ho
 cases o with
 | none =>
  replace hlq : (Instr.lookup 180 (.map (some qb)) (.string ⟨i.toArray⟩) true).run Tryz.prog (held kb w) = .ok (.tuple #[.agg #[.string ⟨#[]⟩, .int .i64 0], .bool false]) (held kb w) := hlq
  unfold held at *
  go_enter_defers Tryz.func64, Tryz.ntmps64
  go_wp2_with (go_at_call 96; refine (lock_free Tryz.muLib ⟨kb, 0, none⟩ _ c0 f0).mono ?_; rintro e w' ⟨rfl, rfl⟩)
  refine leaves_cons (f := 97) (args := #[.pointer (some ⟨kb, 0, none⟩)]) (by simp) (by simp [go_sem]) ?_
  refine (unlock_deferred Tryz.muLib ⟨kb, 0, none⟩ .returning _ (HB.out _).1 (HB.out _).2.1).mono ?_
  rintro e u' w'' ⟨rfl, rfl, rfl⟩
  exact ⟨_, results_tmp2 rfl _ _ _, rfl, (HB.out _).2.2⟩
 | some p =>
  obtain ⟨q, tl⟩ := p
  replace hlq : (Instr.lookup 180 (.map (some qb)) (.string ⟨i.toArray⟩) true).run Tryz.prog (held kb w) = .ok (.tuple #[.agg #[.string ⟨q.toArray⟩, .int .i64 tl], .bool true]) (held kb w) := hlq
  by_cases ht : tl < at'
  ·have ht' : decide (at' > tl) = true := by simpa using ht
   have hz := hide (show ((some (q, tl)).bind fun p : Bs × Int => if p.2 < at' then none else some p.1) = none by simp [ht])
   clear ht
   unfold held at *
   go_enter_defers Tryz.func64, Tryz.ntmps64
   go_wp2_with (go_at_call 96; refine (lock_free Tryz.muLib ⟨kb, 0, none⟩ _ c0 f0).mono ?_; rintro e w' ⟨rfl, rfl⟩)
   refine leaves_cons (f := 97) (args := #[.pointer (some ⟨kb, 0, none⟩)]) (by simp) (by simp [go_sem]) ?_
   refine (unlock_deferred Tryz.muLib ⟨kb, 0, none⟩ .returning _ (HB.out _).1 (HB.out _).2.1).mono ?_
   rintro e u' w'' ⟨rfl, rfl, rfl⟩
   rw [hz.out]
   exact ⟨_, results_tmp2 rfl _ _ _, rfl, (HB.out _).2.2⟩
  ·have ht' : decide (at' > tl) = false := by simpa using ht
   have hz := hide (show ((some (q, tl)).bind fun p : Bs × Int => if p.2 < at' then none else some p.1) = some q by simp [ht])
   clear ht
   unfold held at *
   go_enter_defers Tryz.func64, Tryz.ntmps64
   go_wp2_with (go_at_call 96; refine (lock_free Tryz.muLib ⟨kb, 0, none⟩ _ c0 f0).mono ?_; rintro e w' ⟨rfl, rfl⟩)
   refine leaves_cons (f := 97) (args := #[.pointer (some ⟨kb, 0, none⟩)]) (by simp) (by simp [go_sem]) ?_
   refine (unlock_deferred Tryz.muLib ⟨kb, 0, none⟩ .returning _ (HB.out _).1 (HB.out _).2.1).mono ?_
   rintro e u' w'' ⟨rfl, rfl, rfl⟩
   rw [hz.out]
   exact ⟨_, results_tmp2 rfl _ _ _, rfl, (HB.out _).2.2⟩
end Go.Proofs.YtocligpfmfmihaaGreatDoor
namespace Go.Proofs.YtocligpfmfmihaaGreatDoor
open Go Go.RowKit
theorem step_callF {P : Program} {ops : Array Oper} {o : Oper} {a : Act} {w : World} {K : Act → World → Prop} {Q : Exit → Act → World → Prop} {E : Prop} (hgd : o.guard = none) (f : FuncId) (xs : Array Operand) (ts : Array TypeId) (_ : o.op = .call { callee := .value (.func f), args := xs, argTypes := ts }) (args : Array Value)
  (hrun : (execOp a.eval o).run P w = .ok (.enter f args) w)
  (h : Calls P f args w fun | .returned v, w'' => K (a.put o.dst v) w'' | .panicked chain, w'' => Q (.panic chain) a w'' | .outgrown, _ => LetsOut Q) :
  if Region.wanted o (yielded ops a.tmps) = true then Oper.wp P o a w K Q else E := step_call hgd f args hrun h
def noP (Q : Exit → Act → World → Prop) : Exit → Act → World → Prop := fun ex a w => match ex with | .panic _ => False | e => Q e a w
theorem wp_noP {P : Program} {c : Code} {Q : Exit → Act → World → Prop} {a : Act} {w : World} (h : Code.wp P c (noP Q) a w) : Code.wp P c Q a w :=
 Code.wp_mono (fun e _ _ h => by cases e <;> first | exact h | exact h.elim) h
theorem noP_normal {Q : Exit → Act → World → Prop} {a : Act} {w : World} (h : Q .normal a w) : noP Q .normal a w := h
end Go.Proofs.YtocligpfmfmihaaGreatDoor
namespace Go.Proofs.YtocligpfmfmihaaGreatDoor
open Go Go.RowKit Go.Maps Go.WideMaps Go.MuLone
attribute [local go_sem] Oper.semAt_some
theorem trusted_c (now : Int) (h0 : -9223372036854775808 ≤ now) (w : World) : Calls Tryz.prog 155 #[.int .i64 now] w fun e w' => e = .returned (.int .i64 (capF now)) ∧ w' = w := by
 unfold capF
 by_cases h : 9223372036854774807 < now
 ·have h' : decide (now > 9223372036854774807) = true := by simpa using h
  rw [if_pos h]
  clear h
  go_enter Tryz.func155, Tryz.ntmps155
  go_wp2
  go_ret
  exact ⟨rfl, rfl⟩
 ·have h' : decide (now > 9223372036854774807) = false := by simpa using h
  rw [if_neg h]
  go_enter Tryz.func155, Tryz.ntmps155
  go_wp2
  go_ret
  exact ⟨rfl, rfl⟩
set_option maxRecDepth 20000 in
theorem lastMoment_c (k : Ky) (now : Int) (h0 : -9223372036854775808 ≤ now) (w : World) : Calls Tryz.prog 100 #[.agg (kyC k).toArray, .int .i64 now] w fun e w' => e = .returned (.int .i64 (tillF now k)) ∧ Kp (fun _ => False) w w' := by
 have K0 : Kp (fun _ => False) w (w.alloc (.cells (kyC k).toArray 35)) := (Kp.refl _ _).alloc _
 unfold tillF
 unfold kyC at *
 have HO := hide K0
 clear K0
 generalize hko : k.old = ko at *
 cases ko with
 | true =>
  go_enter Tryz.func100, Tryz.ntmps100
  go_wp2_with fail
  go_ret
  exact ⟨rfl, HO.out⟩
 | false =>
  go_enter Tryz.func100, Tryz.ntmps100
  go_wp2_with fail
  go_region_law (refine step_callF rfl 155 _ _ rfl #[.int .i64 now] (by go_simp) ?_; refine (trusted_c now h0 _).mono ?_; rintro e w' ⟨rfl, rfl⟩)
  all_goals go_wp2
  all_goals go_ret
  all_goals exact ⟨rfl, HO.out.drewN _⟩
end Go.Proofs.YtocligpfmfmihaaGreatDoor
namespace Go.Proofs.YtocligpfmfmihaaGreatDoor
open Go Go.RowKit Go.Extern.Stop Go.Stop Go.Extern
inductive Lk | mem | doc | evt | srv
deriving DecidableEq
def Lk.t : Lk → TypeId
 | .mem => 250
 | .doc => 117
 | .evt => 118
 | .srv => 188
def Lk.bt : Lk → TypeId
 | .mem => 252
 | .doc => 146
 | .evt => 187
 | .srv => 191
def Lk.cs (k : Lk) (s : ByteArray) (ev : Value) : Array Value := match k with
 | .mem => #[.string s, ev]
 | .doc => #[ev]
 | .evt => #[ev]
 | .srv => #[.string s, ev]
inductive Chn (w : World) (a : Addr) : List (Lk × ByteArray) → Value → Prop
 | nil : Chn w a [] (errV a)
 | cons (k : Lk) (ks : List (Lk × ByteArray)) (b : Nat) (s : ByteArray) (ev : Value) : w.heap[b]? = some (.cells (k.cs s ev) k.bt) → Chn w a ks ev → Chn w a ((k, s) :: ks) (.iface k.t (.pointer (some ⟨b, 0, none⟩)))
theorem Chn.iface {w : World} {a : Addr} {ks : List (Lk × ByteArray)} {ev : Value} (h : Chn w a ks ev) : ∃ t u, ev = .iface t u := by
 cases h with
 | nil => exact ⟨_, _, rfl⟩
 | cons k ks b s ev h _ => exact ⟨_, _, rfl⟩
theorem Chn.up {w w' : World} {a : Addr} {ks : List (Lk × ByteArray)} {ev : Value} (h : Chn w a ks ev) (hk : ∀ (k : Nat) (c : Array Value) (t : TypeId), w.heap[k]? = some (.cells c t) → t = 252 ∨ t = 146 ∨ t = 187 ∨ t = 191 → w'.heap[k]? = some (.cells c t)) : Chn w' a ks ev := by
 induction h with
 | nil => exact .nil
 | cons k ks b s ev h _ ih => exact .cons k ks b s ev (hk _ _ _ h (by cases k <;> simp [Lk.bt])) ih
theorem Chn.kp {w w' : World} {a : Addr} {ks : List (Lk × ByteArray)} {ev : Value} (h : Chn w a ks ev) (hk : Kp (fun _ => False) w w') : Chn w' a ks ev := h.up (fun k _ _ h _ => (hk.block k (lt_heap h) (by simp)).trans h)
theorem noIs_mem (v : Value) (xT : TypeId) (w : World) : (Instr.typeAssert (.iface 250 v) xT 291 true).run Tryz.prog w = .ok (.tuple #[.nilIface, .bool false]) w := run_typeAssert_lacksB Tryz.underlying291 (by kernel_rfl) (by kernel_rfl) v xT w
theorem noAs_mem (v : Value) (xT : TypeId) (w : World) : (Instr.typeAssert (.iface 250 v) xT 301 true).run Tryz.prog w = .ok (.tuple #[.nilIface, .bool false]) w := run_typeAssert_lacksB Tryz.underlying301 (by kernel_rfl) (by kernel_rfl) v xT w
theorem hasUnwrap_mem (v : Value) (xT : TypeId) (w : World) : (Instr.typeAssert (.iface 250 v) xT 294 true).run Tryz.prog w = .ok (.tuple #[.iface 250 v, .bool true]) w := run_typeAssert_hasB Tryz.underlying294 (by kernel_rfl) v xT w
theorem methodUnwrap_mem (v : Value) (w : World) : (Go.method 546 250 v "Unwrap").run Tryz.prog w = .ok (338, v) w := by kernel_rfl
theorem noIs_doc (v : Value) (xT : TypeId) (w : World) : (Instr.typeAssert (.iface 117 v) xT 291 true).run Tryz.prog w = .ok (.tuple #[.nilIface, .bool false]) w := run_typeAssert_lacksB Tryz.underlying291 (by kernel_rfl) (by kernel_rfl) v xT w
theorem noAs_doc (v : Value) (xT : TypeId) (w : World) : (Instr.typeAssert (.iface 117 v) xT 301 true).run Tryz.prog w = .ok (.tuple #[.nilIface, .bool false]) w := run_typeAssert_lacksB Tryz.underlying301 (by kernel_rfl) (by kernel_rfl) v xT w
theorem hasUnwrap_doc (v : Value) (xT : TypeId) (w : World) : (Instr.typeAssert (.iface 117 v) xT 294 true).run Tryz.prog w = .ok (.tuple #[.iface 117 v, .bool true]) w := run_typeAssert_hasB Tryz.underlying294 (by kernel_rfl) v xT w
theorem methodUnwrap_doc (v : Value) (w : World) : (Go.method 546 117 v "Unwrap").run Tryz.prog w = .ok (324, v) w := by kernel_rfl
theorem noIs_evt (v : Value) (xT : TypeId) (w : World) : (Instr.typeAssert (.iface 118 v) xT 291 true).run Tryz.prog w = .ok (.tuple #[.nilIface, .bool false]) w := run_typeAssert_lacksB Tryz.underlying291 (by kernel_rfl) (by kernel_rfl) v xT w
theorem noAs_evt (v : Value) (xT : TypeId) (w : World) : (Instr.typeAssert (.iface 118 v) xT 301 true).run Tryz.prog w = .ok (.tuple #[.nilIface, .bool false]) w := run_typeAssert_lacksB Tryz.underlying301 (by kernel_rfl) (by kernel_rfl) v xT w
theorem hasUnwrap_evt (v : Value) (xT : TypeId) (w : World) : (Instr.typeAssert (.iface 118 v) xT 294 true).run Tryz.prog w = .ok (.tuple #[.iface 118 v, .bool true]) w := run_typeAssert_hasB Tryz.underlying294 (by kernel_rfl) v xT w
theorem methodUnwrap_evt (v : Value) (w : World) : (Go.method 546 118 v "Unwrap").run Tryz.prog w = .ok (326, v) w := by kernel_rfl
theorem noIs_srv (v : Value) (xT : TypeId) (w : World) : (Instr.typeAssert (.iface 188 v) xT 291 true).run Tryz.prog w = .ok (.tuple #[.nilIface, .bool false]) w := run_typeAssert_lacksB Tryz.underlying291 (by kernel_rfl) (by kernel_rfl) v xT w
theorem noAs_srv (v : Value) (xT : TypeId) (w : World) : (Instr.typeAssert (.iface 188 v) xT 301 true).run Tryz.prog w = .ok (.tuple #[.nilIface, .bool false]) w := run_typeAssert_lacksB Tryz.underlying301 (by kernel_rfl) (by kernel_rfl) v xT w
theorem hasUnwrap_srv (v : Value) (xT : TypeId) (w : World) : (Instr.typeAssert (.iface 188 v) xT 294 true).run Tryz.prog w = .ok (.tuple #[.iface 188 v, .bool true]) w := run_typeAssert_hasB Tryz.underlying294 (by kernel_rfl) v xT w
theorem methodUnwrap_srv (v : Value) (w : World) : (Go.method 546 188 v "Unwrap").run Tryz.prog w = .ok (329, v) w := by kernel_rfl
theorem callTypeOf_of (t : TypeId) (v : Value) (w : World) (h : (Extern.ReflectliteType.typeOf #[.iface t v]).run Tryz.prog w = .ok (.iface 289 (.agg #[.pointer (some ⟨31, t, none⟩)])) w) : (callFunc 112 #[.iface t v]).run Tryz.prog w = .ok (.value (.iface 289 (.agg #[.pointer (some ⟨31, t, none⟩)]))) w := by
 rw [@run_callFunc_extern Tryz.prog 112 _ Extern.ReflectliteType.typeOf Tryz.func112 (by kernel_rfl) (by kernel_rfl) (by kernel_rfl) (by kernel_rfl), h]
 rfl
theorem callTypeOf_mem (v : Value) (w : World) : (callFunc 112 #[.iface 250 v]).run Tryz.prog w = .ok (.value (.iface 289 (.agg #[.pointer (some ⟨31, 250, none⟩)]))) w := callTypeOf_of 250 v w (by kernel_rfl)
theorem callTypeOf_doc (v : Value) (w : World) : (callFunc 112 #[.iface 117 v]).run Tryz.prog w = .ok (.value (.iface 289 (.agg #[.pointer (some ⟨31, 117, none⟩)]))) w := callTypeOf_of 117 v w (by kernel_rfl)
theorem callTypeOf_evt (v : Value) (w : World) : (callFunc 112 #[.iface 118 v]).run Tryz.prog w = .ok (.value (.iface 289 (.agg #[.pointer (some ⟨31, 118, none⟩)]))) w := callTypeOf_of 118 v w (by kernel_rfl)
theorem callTypeOf_srv (v : Value) (w : World) : (callFunc 112 #[.iface 188 v]).run Tryz.prog w = .ok (.value (.iface 289 (.agg #[.pointer (some ⟨31, 188, none⟩)]))) w := callTypeOf_of 188 v w (by kernel_rfl)
def Lk.off : Lk → Nat | .mem => 1 | .doc => 0 | .evt => 0 | .srv => 1
theorem chn_cell {w : World} {k : Lk} {b : Nat} {s : ByteArray} {ev : Value} (h : w.heap[b]? = some (.cells (k.cs s ev) k.bt)) : w.cell? ⟨b, k.off, none⟩ = some ev := by
 cases k <;> simp [World.cell?, h, Lk.cs, Lk.off]
set_option maxRecDepth 20000 in
set_option maxHeartbeats 4000000 in
theorem is_ne_loop (w : World) (a b : Addr) (ks : List (Lk × ByteArray)) (ev : Value) (hch : Chn w a ks ev) (hne : a ≠ b) (ca cb : Array Value) (ta tb : TypeId) (ha : w.heap[a.block]? = some (.cells ca ta (0, 0))) (hb : w.heap[b.block]? = some (.cells cb tb (0, 0))) :
  Calls Tryz.prog 113 #[ev, errV b, .bool true] w fun e w' => e = .returned (.bool false) ∧ w' = w := by
 obtain ⟨i, hi, hcmp⟩ := Option.map_eq_some_iff.1 isComp
 obtain ⟨j, hj, hjs⟩ := Option.map_eq_some_iff.1 isSize
 have nE := noIsE
 have uE := noUnwrapE
 have vE := noUnwrapsE
 have heq := run_eql_iface_ptr_other (P := Tryz.prog) (a := a) (b := b) w Tryz.underlying61 Tryz.underlying415 hi hcmp hj (by rw [hjs]; decide) hne ha hb
 clear ha hb
 have HC := hide hch
 unfold errV
 obtain ⟨t0, u0, rfl⟩ := hch.iface
 clear hch
 go_enter Tryz.func113, Tryz.ntmps113
 go_wp2
 go_loopg [0] ks.length (fun gg v wr => ∃ ks', gg = ks'.length ∧ Chn w a ks' v ∧ wr = w)
 case atStart => exact ⟨ks, rfl, HC.out, rfl⟩
 case round =>
  obtain ⟨ks', hgg, hc, rfl⟩ := hrel
  cases hc with
  | nil =>
   clear hgg HC
   unfold errV
   go_wp2
   go_ret
   exact ⟨rfl, rfl⟩
  | cons k ks2 b2 s ev2 hb2 hc2 =>
   have hcell := chn_cell hb2
   have HG := hide hgg
   have HC2 := hide hc2
   obtain ⟨t2, u2, rfl⟩ := hc2.iface
   clear hgg hc2 hb2 HC
   cases k with
   | mem =>
    have nW := noIs_mem
    have uW := hasUnwrap_mem
    have mU := methodUnwrap_mem
    have hty := run_eql_iface_types (P := Tryz.prog) 250 415 (.pointer (some ⟨b2, 0, none⟩)) (.pointer (some b)) Tryz.underlying61 (by decide) wr
    simp only [Lk.off] at hcell
    simp only [Lk.t]
    go_wp2
    go_roundg ks2.length
    case measure => rw [HG.out]; exact Nat.lt_succ_self _
    case rel => exact ⟨ks2, rfl, HC2.out, rfl⟩
   | doc =>
    have nW := noIs_doc
    have uW := hasUnwrap_doc
    have mU := methodUnwrap_doc
    have hty := run_eql_iface_types (P := Tryz.prog) 117 415 (.pointer (some ⟨b2, 0, none⟩)) (.pointer (some b)) Tryz.underlying61 (by decide) wr
    simp only [Lk.off] at hcell
    simp only [Lk.t]
    go_wp2
    go_roundg ks2.length
    case measure => rw [HG.out]; exact Nat.lt_succ_self _
    case rel => exact ⟨ks2, rfl, HC2.out, rfl⟩
   | evt =>
    have nW := noIs_evt
    have uW := hasUnwrap_evt
    have mU := methodUnwrap_evt
    have hty := run_eql_iface_types (P := Tryz.prog) 118 415 (.pointer (some ⟨b2, 0, none⟩)) (.pointer (some b)) Tryz.underlying61 (by decide) wr
    simp only [Lk.off] at hcell
    simp only [Lk.t]
    go_wp2
    go_roundg ks2.length
    case measure => rw [HG.out]; exact Nat.lt_succ_self _
    case rel => exact ⟨ks2, rfl, HC2.out, rfl⟩
   | srv =>
    have nW := noIs_srv
    have uW := hasUnwrap_srv
    have mU := methodUnwrap_srv
    have hty := run_eql_iface_types (P := Tryz.prog) 188 415 (.pointer (some ⟨b2, 0, none⟩)) (.pointer (some b)) Tryz.underlying61 (by decide) wr
    simp only [Lk.off] at hcell
    simp only [Lk.t]
    go_wp2
    go_roundg ks2.length
    case measure => rw [HG.out]; exact Nat.lt_succ_self _
    case rel => exact ⟨ks2, rfl, HC2.out, rfl⟩
set_option maxRecDepth 20000 in
set_option maxHeartbeats 4000000 in
theorem is_eq_loop (w : World) (a : Addr) (ks : List (Lk × ByteArray)) (ev : Value) (hch : Chn w a ks ev) :
  Calls Tryz.prog 113 #[ev, errV a, .bool true] w fun e w' => e = .returned (.bool true) ∧ w' = w := by
 obtain ⟨i, hi, hcmp⟩ := Option.map_eq_some_iff.1 isComp
 obtain ⟨j, hj, hjs⟩ := Option.map_eq_some_iff.1 isSize
 have nE := noIsE
 have uE := noUnwrapE
 have vE := noUnwrapsE
 have heq := run_eql_iface_ptr_same (P := Tryz.prog) w a Tryz.underlying61 Tryz.underlying415 hi hcmp hj
 have HC := hide hch
 unfold errV
 obtain ⟨t0, u0, rfl⟩ := hch.iface
 clear hch
 go_enter Tryz.func113, Tryz.ntmps113
 go_wp2
 go_loopg [0] ks.length (fun gg v wr => ∃ ks', gg = ks'.length ∧ Chn w a ks' v ∧ wr = w)
 case atStart => exact ⟨ks, rfl, HC.out, rfl⟩
 case round =>
  obtain ⟨ks', hgg, hc, rfl⟩ := hrel
  cases hc with
  | nil =>
   clear hgg HC
   unfold errV
   go_wp2
   go_ret
   exact ⟨rfl, rfl⟩
  | cons k ks2 b2 s ev2 hb2 hc2 =>
   have hcell := chn_cell hb2
   have HG := hide hgg
   have HC2 := hide hc2
   obtain ⟨t2, u2, rfl⟩ := hc2.iface
   clear hgg hc2 hb2 HC
   cases k with
   | mem =>
    have nW := noIs_mem
    have uW := hasUnwrap_mem
    have mU := methodUnwrap_mem
    have hty := run_eql_iface_types (P := Tryz.prog) 250 415 (.pointer (some ⟨b2, 0, none⟩)) (.pointer (some a)) Tryz.underlying61 (by decide) wr
    simp only [Lk.off] at hcell
    simp only [Lk.t]
    go_wp2
    go_roundg ks2.length
    case measure => rw [HG.out]; exact Nat.lt_succ_self _
    case rel => exact ⟨ks2, rfl, HC2.out, rfl⟩
   | doc =>
    have nW := noIs_doc
    have uW := hasUnwrap_doc
    have mU := methodUnwrap_doc
    have hty := run_eql_iface_types (P := Tryz.prog) 117 415 (.pointer (some ⟨b2, 0, none⟩)) (.pointer (some a)) Tryz.underlying61 (by decide) wr
    simp only [Lk.off] at hcell
    simp only [Lk.t]
    go_wp2
    go_roundg ks2.length
    case measure => rw [HG.out]; exact Nat.lt_succ_self _
    case rel => exact ⟨ks2, rfl, HC2.out, rfl⟩
   | evt =>
    have nW := noIs_evt
    have uW := hasUnwrap_evt
    have mU := methodUnwrap_evt
    have hty := run_eql_iface_types (P := Tryz.prog) 118 415 (.pointer (some ⟨b2, 0, none⟩)) (.pointer (some a)) Tryz.underlying61 (by decide) wr
    simp only [Lk.off] at hcell
    simp only [Lk.t]
    go_wp2
    go_roundg ks2.length
    case measure => rw [HG.out]; exact Nat.lt_succ_self _
    case rel => exact ⟨ks2, rfl, HC2.out, rfl⟩
   | srv =>
    have nW := noIs_srv
    have uW := hasUnwrap_srv
    have mU := methodUnwrap_srv
    have hty := run_eql_iface_types (P := Tryz.prog) 188 415 (.pointer (some ⟨b2, 0, none⟩)) (.pointer (some a)) Tryz.underlying61 (by decide) wr
    simp only [Lk.off] at hcell
    simp only [Lk.t]
    go_wp2
    go_roundg ks2.length
    case measure => rw [HG.out]; exact Nat.lt_succ_self _
    case rel => exact ⟨ks2, rfl, HC2.out, rfl⟩
set_option maxRecDepth 20000 in
theorem is_ne (w : World) (a b : Addr) (ks : List (Lk × ByteArray)) (ev : Value) (hch : Chn w a ks ev) (hne : a ≠ b) (ca cb : Array Value) (ta tb : TypeId) (ha : w.heap[a.block]? = some (.cells ca ta (0, 0))) (hb : w.heap[b.block]? = some (.cells cb tb (0, 0))) :
  Calls Tryz.prog 66 #[ev, errV b] w fun e w' => e = .returned (.bool false) ∧ w' = w := by
 have HL := hide (is_ne_loop w a b ks ev hch hne ca cb ta tb ha hb)
 have h8 := callTypeOf
 have h32 := callComparable
 have mR := isMethodComparable
 obtain ⟨t0, u0, rfl⟩ := hch.iface
 clear hch
 unfold errV at *
 go_enter Tryz.func66, Tryz.ntmps66
 go_wp2_with fail
 refine HL.out.mono ?_
 rintro e w' ⟨rfl, rfl⟩
 go_wp2
 go_ret
 exact ⟨rfl, rfl⟩
set_option maxRecDepth 20000 in
theorem is_eq (w : World) (a : Addr) (ks : List (Lk × ByteArray)) (ev : Value) (hch : Chn w a ks ev) :
  Calls Tryz.prog 66 #[ev, errV a] w fun e w' => e = .returned (.bool true) ∧ w' = w := by
 have HL := hide (is_eq_loop w a ks ev hch)
 have h8 := callTypeOf
 have h32 := callComparable
 have mR := isMethodComparable
 obtain ⟨t0, u0, rfl⟩ := hch.iface
 clear hch
 unfold errV at *
 go_enter Tryz.func66, Tryz.ntmps66
 go_wp2_with fail
 refine HL.out.mono ?_
 rintro e w' ⟨rfl, rfl⟩
 go_wp2
 go_ret
 exact ⟨rfl, rfl⟩
end Go.Proofs.YtocligpfmfmihaaGreatDoor
namespace Go.Proofs.YtocligpfmfmihaaGreatDoor
open Go Go.RowKit Go.Extern.Stop Go.Stop Go.Extern
def AsR (T : Lk) (pt : TypeId) (w : World) (tb : Nat) (o : Option (Lk × ByteArray)) (e : Ending) (w' : World) : Prop := Kp (fun k => k = tb) w w' ∧ match o with
 | none => e = .returned (.bool false)
 | some p => e = .returned (.bool true) ∧ ∃ b ev, w'.heap[tb]? = some (.cells #[.pointer (some ⟨b, 0, none⟩)] pt) ∧ w'.heap[b]? = some (.cells (T.cs p.2 ev) T.bt)
theorem AsR.ret {T : Lk} {pt : TypeId} {w w' : World} {tb : Nat} {o : Option (Lk × ByteArray)} {e : Ending} (h : AsR T pt w tb o e w') : ∃ b, e = .returned (.bool b) := by
 cases o with
 | none => exact ⟨_, h.2⟩
 | some p => exact ⟨_, h.2.1⟩
theorem AsR.before {T : Lk} {pt : TypeId} {w0 w w' : World} {tb : Nat} {o : Option (Lk × ByteArray)} {e : Ending} (h : AsR T pt w tb o e w') (hk : Kp (fun _ => False) w0 w) : AsR T pt w0 tb o e w' :=
 ⟨(hk.mono (fun _ _ h => h.elim)).trans h.1, h.2⟩
theorem AsR.none {T : Lk} {pt : TypeId} {w w' : World} {tb : Nat} {o : Option (Lk × ByteArray)} (hk : Kp (fun k => k = tb) w w') (ho : o = Option.none) : AsR T pt w tb o (.returned (.bool false)) w' := by
 rw [ho]
 exact ⟨hk, rfl⟩
theorem set_alloc0 {X : World} {q : Nat} {v : Value} {o : Obj} (h : q < X.heap.size) : (X.setCell ⟨q, 0, Option.none⟩ v).alloc o = (X.alloc o).setCell ⟨q, 0, Option.none⟩ v := by
 unfold World.setCell World.alloc
 congr 1
 apply Array.ext_getElem?
 intro j
 simp only [Array.getElem?_push, Array.getElem?_modify, Array.size_modify]
 by_cases hj : j = X.heap.size
 ·subst hj
  have : q ≠ X.heap.size := by omega
  simp [this]
 ·simp [hj]
theorem AsR.hit {T : Lk} {pt U : TypeId} {w w1 : World} {tb b : Nat} {old : Value} {o : Option (Lk × ByteArray)} {s : ByteArray} {ev : Value} {ks : List (Lk × ByteArray)} (hk : Kp (fun k => k = tb) w w1) (ho : ((T, s) :: ks).find? (fun p => p.1 == T) = o) (hb : w1.heap[b]? = some (.cells (T.cs s ev) T.bt)) (ht : (w1.alloc (.cells #[.pointer (some ⟨b, 0, Option.none⟩)] U)).heap[tb]? = some (.cells #[old] pt)) (hne : T.bt ≠ pt) (_ : pt = U) : AsR T pt w tb o (.returned (.bool true)) ((w1.alloc (.cells #[.pointer (some ⟨b, 0, Option.none⟩)] U)).setCell ⟨tb, 0, Option.none⟩ (.pointer (some ⟨b, 0, Option.none⟩))) := by
 have e1 : o = some (T, s) := by rw [← ho]; simp
 have hb1 : (w1.alloc (.cells #[.pointer (some ⟨b, 0, Option.none⟩)] U)).heap[b]? = some (.cells (T.cs s ev) T.bt) := by rw [Below.heap_alloc _ _ _ (lt_heap hb)]; exact hb
 have hbt : b ≠ tb := by
  rintro rfl
  rw [hb1] at ht
  injection ht with ht
  injection ht with _ h2 _
  exact hne h2
 rw [e1]
 refine ⟨(hk.alloc _).setCell (fun _ => rfl) _, rfl, b, ev, one_set ht _, ?_⟩
 rw [heap_set_other (by exact hbt)]
 exact hb1
end Go.Proofs.YtocligpfmfmihaaGreatDoor

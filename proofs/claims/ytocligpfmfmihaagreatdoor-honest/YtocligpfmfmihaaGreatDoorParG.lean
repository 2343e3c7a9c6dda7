import Derived.Test.YtocligpfmfmihaaGreatDoorVal2G
import Derived.Defers
import Derived.Recover
import Derived.Lib.MapLaws
import Derived.Lib.TrimUEq
namespace Go.Proofs.YtocligpfmfmihaaGreatDoor
open Go Go.RowKit Go.Maps Go.WideMaps
structure GL (W : World) : Prop where
 glob : Glob W
 tabs : Lib.Utf8Tabs 4 5 W
 pow : Lib.TabBelow Tryz.prog W.heap.size W "internal/strconv.uint64pow10" .u64 Lib.pow10Tab
theorem GL.tabs' {W w : World} (h : GL W) (ho : Below W.heap.size W w) : Lib.Utf8Tabs 4 5 w := by
 have hs := h.glob.sz
 refine ⟨fun c hc => ?_, fun i hi => ⟨?_, ?_⟩⟩
 ·rw [ho.cell (p := ⟨_, c, none⟩) (by show 4 < _; omega)]; exact h.tabs.1 c hc
 ·rw [ho.cell (p := ⟨_, 2 * i, none⟩) (by show 5 < _; omega)]; exact (h.tabs.2 i hi).1
 ·rw [ho.cell (p := ⟨_, 2 * i + 1, none⟩) (by show 5 < _; omega)]; exact (h.tabs.2 i hi).2
def FaultAt (W w : World) (fb : Nat) : Prop := ∃ (k : Int) (g : Nat) (cb : Addr), w.heap[fb]? = some (.cells #[.int .i64 k, errV cb] 239) ∧ Errs W g cb
theorem dec_tail (s : ByteArray) (k : Nat) (h : k < s.size) : Lib.decodeGo (s.extract k s.size) = Lib.decodeL (rest s k) := by
 have h1 : (s.extract k s.size).data.toList = rest s k := Lib.extract_to_end s k
 have h2 : ¬ (s.extract k s.size).size = 0 := by
  have : (s.extract k s.size).size = (s.extract k s.size).data.toList.length := by rw [Array.length_toList]; rfl
  rw [this, h1, rest, List.length_drop]; simp; omega
 unfold Lib.decodeGo
 rw [if_neg h2, ← Lib.decodeL_drop, h1, List.drop_zero]
def ChkR (W w : World) (l : List UInt8) (e : Ending) (w' : World) : Prop :=
 Kp (fun _ => False) w w' ∧ ((Lib.validD l = true ∧ e = .returned .nilIface) ∨ (Lib.validD l = false ∧ ∃ fb, e = .returned (.iface 116 (.pointer (some ⟨fb, 0, none⟩))) ∧ w.heap.size ≤ fb ∧ FaultAt W w' fb))
theorem below_kp {W w w' : World} (ho : Below W.heap.size W w) (h1 : Kp (fun _ => False) w w') : Below W.heap.size W w' :=
 ho.trans ⟨h1.os, h1.tape, h1.output, h1.size, fun i hi => h1.block i (Nat.lt_of_lt_of_le hi ho.size) (by simp)⟩
theorem Glob.err {W w : World} (h : Glob W) (ho : Below W.heap.size W w) (g : Nat) (hm : g ∈ [20, 23, 24, 25, 21, 12, 22, 8, 19, 27, 18, 10]) (hg : g < 31) :
  ∃ cb, w.cell? ⟨g, 0, none⟩ = some (.iface 415 (.pointer (some cb))) ∧ Errs W g cb := by
 obtain ⟨cb, h1⟩ := h.val g hm
 exact ⟨cb, (ho.cell (p := ⟨g, 0, none⟩) (by have := h.sz; show g < _; omega)).trans h1.1, h1⟩
set_option maxRecDepth 20000 in
theorem check_c (W : World) (hG : GL W) (s : ByteArray) (hs : s.size ≤ 9223372036854775807) (w : World) (ho : Below W.heap.size W w) :
  Calls Tryz.prog 74 #[.string s] w fun e w' => ChkR W w s.data.toList e w' := by
 go_enter Tryz.func74, Tryz.ntmps74
 go_wp2_with fail
 go_loopg [3] s.size (fun g a wr => ∃ k : Nat, g = s.size - k ∧ k ≤ s.size ∧ a = .int .i64 (k : Int) ∧ Kp (fun _ => False) w wr ∧ Lib.validD (rest s k) = Lib.validD s.data.toList)
 case atStart => exact ⟨0, rfl, by omega, rfl, Kp.refl _ _, by simp [rest]⟩
 case round =>
  obtain ⟨k, hg, hk, rfl, h1, h2⟩ := hrel
  have A := hide (And.intro hg h2)
  clear hg h2
  by_cases hlt : k < s.size
  ·have hlt' : decide ((k : Int) < (s.size : Int)) = true := by simp; omega
   have ho2 : Below W.heap.size W wr := below_kp ho h1
   go_wp2_with fail
   refine (Tryz.utf8_DecodeRuneInString _ _ (hG.tabs' ho2)).mono ?_
   rintro e w2 ⟨rfl, b1⟩
   have K2 : Kp (fun _ => False) w w2 := h1.trans ⟨b1.os, b1.tape, b1.output, b1.size, fun i hi _ => b1.block i hi⟩
   rw [dec_tail s k hlt]
   have hne : rest s k ≠ [] := by rw [rest_cons hlt]; simp
   have hstep := Lib.validD_step (rest s k) hne
   have hw1 := Lib.decodeL_width (rest s k)
   have hw2 := Lib.decodeL_le (rest s k) hne
   have hlen : (rest s k).length = s.size - k := by simp [rest]
   have hdrop : ∀ n, (rest s k).drop n = rest s (k + n) := fun n => by simp [rest, List.drop_drop]
   generalize Lib.decodeL (rest s k) = dd at *
   obtain ⟨r, n⟩ := dd
   simp only at hstep hw1 hw2
   rw [hlen] at hw2
   have B := hide (And.intro hstep (hdrop n))
   clear hstep hdrop hne hlen b1
   by_cases hbad : r = 65533 ∧ n = 1
   ·obtain ⟨rfl, rfl⟩ := hbad
    obtain ⟨cb, hg, he⟩ := hG.glob.err (below_kp ho K2) 10 (by decide) (by decide)
    go_wp2
    go_ret
    refine ⟨K2.alloc _, Or.inr ⟨by rw [← A.out.2, B.out.1]; simp, w2.heap.size, rfl, K2.size, (k : Int), 10, cb, ?_, he⟩⟩
    exact heap_alloc_new w2 _
   ·have BB := hide hbad
    have fin : Lib.validD (rest s (k + n)) = Lib.validD s.data.toList := by
     rw [← A.out.2, B.out.1, if_neg BB.out, B.out.2]
    have FI := hide fin
    clear hbad fin
    by_cases h65 : r = 65533
    ·have hn1 : ((n : Int) == 1) = false := by
      have : n ≠ 1 := fun h => BB.out ⟨h65, h⟩
      simp; omega
     subst h65
     go_wp2
     go_roundg (s.size - (k + n))
     case measure => rw [A.out.1]; omega
     case rel => exact ⟨k + n, rfl, by omega, int_i64 (by omega), K2, FI.out⟩
    ·have hr1 : ((r : Int) == 65533) = false := by simp; omega
     have hr2 : ¬ (r : Int) = 65533 := by omega
     clear h65
     go_wp2
     go_roundg (s.size - (k + n))
     case measure => rw [A.out.1]; omega
     case rel => exact ⟨k + n, rfl, by omega, int_i64 (by omega), K2, FI.out⟩
  ·have hlt' : decide ((k : Int) < (s.size : Int)) = false := by simp; omega
   go_wp2
   go_ret
   refine ⟨h1, Or.inl ⟨?_, rfl⟩⟩
   rw [← A.out.2, rest_nil (by omega)]
   rfl
theorem assert_fault (q : Addr) (w : World) : (Instr.typeAssert (.iface 116 (.pointer (some q))) 20 116 true).run Tryz.prog w = .ok (.tuple #[.pointer (some q), .bool true]) w := by kernel_rfl
theorem caught_c (w : World) (p q : Addr) : Calls Tryz.prog 108 #[.pointer (some p), .iface 116 (.pointer (some q))] w fun e w' => e = .returned (.pointer (some q)) ∧ w = w' := by
 have hta := assert_fault q
 go_enter Tryz.func108, Tryz.ntmps108
 go_wp2
 go_ret
 exact ⟨rfl, rfl⟩
set_option maxRecDepth 20000 in
theorem catch_panicking (pr pv pe : Nat) (rp q : Addr) (w : World) (h0 : w.cell? ⟨pr, 0, none⟩ = some (.pointer (some rp))) (v1 v2 : Value) (h1 : w.cell? ⟨pv, 0, none⟩ = some v1) (f1 : w.frozen? ⟨pv, 0, none⟩ = false)
  (h2 : w.cell? ⟨pe, 0, none⟩ = some v2) (f2 : w.frozen? ⟨pe, 0, none⟩ = false) (hne : pv ≠ pe) :
  CallsD Tryz.prog 107 #[.pointer (some ⟨pr, 0, none⟩), .pointer (some ⟨pv, 0, none⟩), .pointer (some ⟨pe, 0, none⟩)] (.panicking [{ v := .iface 116 (.pointer (some q)), recovered := false }]) w fun e u' w' =>
   e = .returned (.tuple #[]) ∧ u' = .panicking [{ v := .iface 116 (.pointer (some q)), recovered := true }] ∧ w' = (w.setCell ⟨pv, 0, none⟩ .nilIface).setCell ⟨pe, 0, none⟩ (.iface 116 (.pointer (some q))) := by
 refine callsD_of_wpS Tryz.func107 rfl fun c₀ cs hu => ?_
 apply wpS_seq
 apply wpS_region
 simp [wpOpsS, go_sem, recoverD, hu, Tryz.ntmps107, Exit.thenS]
 refine wpS_of_wp ?_
 go_wp2_with (go_at_call 108; refine (caught_c _ rp q).mono ?_; rintro e w' ⟨rfl, rfl⟩)
 exact ⟨rfl, _, rfl, .tuple #[], by simp [results, Tryz.results107], rfl, rfl, rfl⟩
set_option maxRecDepth 20000 in
theorem catch_idle (a b c : Value) (w : World) :
  CallsD Tryz.prog 107 #[a, b, c] .returning w fun e u' w' => e = .returned (.tuple #[]) ∧ u' = .returning ∧ w' = w := by
 refine callsD_of_wpS Tryz.func107 rfl fun c₀ cs hu => ?_
 apply wpS_seq
 apply wpS_region
 simp [wpOpsS, go_sem, recoverD, hu, Tryz.ntmps107, Exit.thenS]
 refine wpS_of_wp ?_
 go_wp2
 refine ⟨rfl, .returning, ?_, .tuple #[], by simp [results, Tryz.results107], rfl, rfl, rfl⟩
 cases c₀
 simp_all
def ParR (W w : World) (l : List UInt8) (e : Ending) (w' : World) : Prop :=
 Kp (fun _ => False) w w' ∧ ((∃ j v, parse l = some j ∧ e = .returned (.tuple #[v, .nilIface]) ∧ Rep w' (fun b => w.heap.size ≤ b ∧ b < w'.heap.size) j v) ∨
   (parse l = none ∧ ∃ fb, e = .returned (.tuple #[.nilIface, .iface 116 (.pointer (some ⟨fb, 0, none⟩))]) ∧ w.heap.size ≤ fb ∧ FaultAt W w' fb))
theorem two_new (w : World) (a b : Obj) : ((w.alloc a).alloc b).heap[w.heap.size]? = some a ∧ ((w.alloc a).alloc b).heap[w.heap.size + 1]? = some b := by
 constructor
 ·rw [Below.heap_alloc _ _ _ (by simp)]
  exact heap_alloc_new w a
 ·have := heap_alloc_new (w.alloc a) b
  simpa using this
theorem par_end {a b : Nat} {w2 : World} {x y : Value} (hab : a ≠ b) (h1 : w2.heap[a]? = some (.cells #[x] 59)) (h2 : w2.heap[b]? = some (.cells #[y] 61)) (u v : Value) :
  ((w2.setCell ⟨a, 0, none⟩ u).setCell ⟨b, 0, none⟩ v).heap[a]? = some (.cells #[u] 59) ∧ ((w2.setCell ⟨a, 0, none⟩ u).setCell ⟨b, 0, none⟩ v).heap[b]? = some (.cells #[v] 61) ∧
  ∀ k, k ≠ a → k ≠ b → ((w2.setCell ⟨a, 0, none⟩ u).setCell ⟨b, 0, none⟩ v).heap[k]? = w2.heap[k]? := by
 refine ⟨?_, ?_, ?_⟩
 ·rw [heap_set_other (by show a ≠ b; exact hab)]; exact one_set h1 u
 ·exact one_set (by rw [heap_set_other (by show b ≠ a; exact Ne.symm hab)]; exact h2) v
 ·intro k hka hkb
  rw [heap_set_other hkb, heap_set_other hka]
theorem par_results {a b : Nat} {w : World} {u v : Value} (tmps : Array Value) (ht2 : tmps[2]?.getD undef = .pointer (some ⟨a, 0, none⟩)) (ht3 : tmps[3]?.getD undef = .pointer (some ⟨b, 0, none⟩)) (h1 : w.cell? ⟨a, 0, none⟩ = some u) (h2 : w.cell? ⟨b, 0, none⟩ = some v) :
  (results Tryz.f65 tmps).run Tryz.prog w = .ok (.tuple #[u, v]) w := by
 simp [results, Tryz.results65, go_sem, h1, h2, ht2, ht3]
set_option maxRecDepth 20000 in
theorem parse_bad (W : World) (hG : GL W) (s : ByteArray) (hs : s.size ≤ 600) (w : World) (ho : Below W.heap.size W w) (hv : Lib.validD s.data.toList = false) :
  Calls Tryz.prog 65 #[.string s] w fun e w' => ParR W w s.data.toList e w' := by
 have HV := hide hv
 clear hv
 obtain ⟨n1, n2⟩ := two_new w (.cells #[.nilIface] 59) (.cells #[.nilIface] 61)
 have K1 : Kp (fun _ => False) w ((w.alloc (.cells #[.nilIface] 59)).alloc (.cells #[.nilIface] 61)) := ((Kp.refl _ _).alloc _).alloc _
 have N := hide (And.intro n1 (And.intro n2 K1))
 clear n1 n2 K1
 go_enter_defers Tryz.func65, Tryz.ntmps65
 go_wp2_with fail
 refine (check_c W hG s (by omega) _ (below_kp ho N.out.2.2)).mono ?_
 rintro e w2 ⟨a1, (⟨hv, _⟩ | ⟨_, fb, rfl, h1, h2⟩)⟩
 ·rw [HV.out] at hv; cases hv
 have m1 : w2.heap[w.heap.size]? = some (.cells #[.nilIface] 59) := (a1.block _ (lt_heap N.out.1) (by simp)).trans N.out.1
 have m2 : w2.heap[w.heap.size + 1]? = some (.cells #[.nilIface] 61) := (a1.block _ (lt_heap N.out.2.1) (by simp)).trans N.out.2.1
 obtain ⟨c1, f1⟩ := one_cells m1
 obtain ⟨c2, f2⟩ := one_cells m2
 have M := hide (And.intro m1 m2)
 have hsz := h1
 simp at hsz
 clear m1 m2
 go_wp2_with fail
 obtain ⟨e1, e2, e3⟩ := par_end (by omega) M.out.1 M.out.2 .nilIface (.iface 116 (.pointer (some ⟨fb, 0, none⟩)))
 refine ⟨_, par_results _ rfl rfl (one_cells e1).1 (one_cells e2).1, ?_⟩
 refine ⟨Kp.setCell (p := ⟨w.heap.size + 1, 0, none⟩) (Kp.setCell (p := ⟨w.heap.size, 0, none⟩) (N.out.2.2.trans a1) (fun h => by exact absurd h (by show ¬ w.heap.size < _; omega)) _) (fun h => by exact absurd h (by show ¬ w.heap.size + 1 < _; omega)) _, Or.inr ⟨by simp [parse, HV.out], fb, rfl, by omega, ?_⟩⟩
 obtain ⟨k, g, cb, q1, q2⟩ := h2
 exact ⟨k, g, cb, (e3 fb (by omega) (by omega)).trans q1, q2⟩
theorem par_caught (W w w5 : World) (l : List UInt8) (pr : Nat) (rp : Addr) (fb : Nat) (tmps : Array Value) (x y : Value) (hp : parse l = none)
  (ht2 : tmps[2]?.getD undef = .pointer (some ⟨w.heap.size, 0, none⟩)) (ht3 : tmps[3]?.getD undef = .pointer (some ⟨w.heap.size + 1, 0, none⟩))
  (h0 : w5.cell? ⟨pr, 0, none⟩ = some (.pointer (some rp))) (h1 : w5.heap[w.heap.size]? = some (.cells #[x] 59)) (h2 : w5.heap[w.heap.size + 1]? = some (.cells #[y] 61))
  (hk : Kp (fun _ => False) w w5) (hf : FaultAt W w5 fb) (hfb : w.heap.size + 1 + 1 ≤ fb) :
  bodyPostD Tryz.prog Tryz.f65 (fun e w' => ParR W w l e w') (.panic [{ v := .iface 116 (.pointer (some ⟨fb, 0, none⟩)), recovered := false }])
   { tmps := tmps, defers := [{ target := .fn (.func 107) #[.pointer (some ⟨pr, 0, none⟩), .pointer (some ⟨w.heap.size, 0, none⟩), .pointer (some ⟨w.heap.size + 1, 0, none⟩)], args := #[] }] } w5 := by
 refine leaves_cons (f := 107) (args := #[.pointer (some ⟨pr, 0, none⟩), .pointer (some ⟨w.heap.size, 0, none⟩), .pointer (some ⟨w.heap.size + 1, 0, none⟩)]) (by simp) (by simp [go_sem]) ?_
 obtain ⟨c1, f1⟩ := one_cells h1
 obtain ⟨c2, f2⟩ := one_cells h2
 refine (catch_panicking pr w.heap.size (w.heap.size + 1) rp ⟨fb, 0, none⟩ w5 h0 x y c1 f1 c2 f2 (by omega)).mono ?_
 rintro e u' w'' ⟨rfl, rfl, rfl⟩
 obtain ⟨e1, e2, e3⟩ := par_end (by omega) h1 h2 .nilIface (.iface 116 (.pointer (some ⟨fb, 0, none⟩)))
 show Leaves _ _ _ _ [] (settle _) _
 simp only [settle]
 refine ⟨_, par_results _ ht2 ht3 (one_cells e1).1 (one_cells e2).1, ?_⟩
 refine ⟨Kp.setCell (p := ⟨w.heap.size + 1, 0, none⟩) (Kp.setCell (p := ⟨w.heap.size, 0, none⟩) hk (fun h => by exact absurd h (by show ¬ w.heap.size < _; omega)) _) (fun h => by exact absurd h (by show ¬ w.heap.size + 1 < _; omega)) _, Or.inr ⟨hp, fb, rfl, by omega, ?_⟩⟩
 obtain ⟨k, g, cb, q1, q2⟩ := hf
 exact ⟨k, g, cb, (e3 fb (by omega) (by omega)).trans q1, q2⟩
set_option maxRecDepth 20000 in
theorem parse_good (W : World) (hG : GL W) (s : ByteArray) (hs : s.size ≤ 600) (w : World) (ho : Below W.heap.size W w) (hv : Lib.validD s.data.toList = true) :
  Calls Tryz.prog 65 #[.string s] w fun e w' => ParR W w s.data.toList e w' := by
 have HV := hide hv
 clear hv
 obtain ⟨n1, n2⟩ := two_new w (.cells #[.nilIface] 59) (.cells #[.nilIface] 61)
 have K1 : Kp (fun _ => False) w ((w.alloc (.cells #[.nilIface] 59)).alloc (.cells #[.nilIface] 61)) := ((Kp.refl _ _).alloc _).alloc _
 have N := hide (And.intro n1 (And.intro n2 K1))
 clear n1 n2 K1
 have hmf : ∀ (fn : Fn) (first cap : Array Value) (w : World), (Instr.makeFunc fn first cap).run Tryz.prog w = .ok (.func fn first cap) w := fun _ _ _ _ => rfl
 go_enter_defers Tryz.func65, Tryz.ntmps65
 go_wp2_with fail
 refine (check_c W hG s (by omega) _ (below_kp ho N.out.2.2)).mono ?_
 rintro e w2 ⟨a1, (⟨hv, rfl⟩ | ⟨hv, _⟩)⟩
 rotate_left
 ·rw [HV.out] at hv; cases hv
 have m1 : w2.heap[w.heap.size]? = some (.cells #[.nilIface] 59) := (a1.block _ (lt_heap N.out.1) (by simp)).trans N.out.1
 have m2 : w2.heap[w.heap.size + 1]? = some (.cells #[.nilIface] 61) := (a1.block _ (lt_heap N.out.2.1) (by simp)).trans N.out.2.1
 have K2 := N.out.2.2.trans a1
 have hsz := a1.size
 simp at hsz
 have M := hide (And.intro m1 m2)
 clear m1 m2 hv
 go_wp2_with fail
 obtain ⟨n3, n4⟩ := two_new w2 (.cells #[.string s, .int .i64 0, .int .i64 0] 203) (.cells #[.pointer (some ⟨w2.heap.size, 0, none⟩)] 201)
 have K23 : Kp (fun _ => False) w2 ((w2.alloc (.cells #[.string s, .int .i64 0, .int .i64 0] 203)).alloc (.cells #[.pointer (some ⟨w2.heap.size, 0, none⟩)] 201)) := ((Kp.refl _ _).alloc _).alloc _
 have S3 : St W ((w2.alloc (.cells #[.string s, .int .i64 0, .int .i64 0] 203)).alloc (.cells #[.pointer (some ⟨w2.heap.size, 0, none⟩)] 201)) w2.heap.size s 0 0 :=
  ⟨hG.glob, below_kp (below_kp ho K2) K23, n3, Nat.le_trans ho.size K2.size, Nat.zero_le _, hs⟩
 have m1 := (K23.block _ (lt_heap M.out.1) (by simp)).trans M.out.1
 have m2 := (K23.block _ (lt_heap M.out.2) (by simp)).trans M.out.2
 have r0 : rest s 0 = s.data.toList := by simp [rest]
 refine (value_c W 6 0 rfl w2.heap.size s 0 _ S3).mono ?_
 generalize hw3 : (w2.alloc (.cells #[.string s, .int .i64 0, .int .i64 0] 203)).alloc (.cells #[.pointer (some ⟨w2.heap.size, 0, none⟩)] 201) = w3 at *
 rintro e w4 ⟨b1, b2⟩
 rw [r0] at b2
 have hl1 := lt_heap m1
 have hl2 := lt_heap m2
 have hl4 := lt_heap n4
 have m1' := (b1.block _ hl1 (by omega)).trans m1
 have m2' := (b1.block _ hl2 (by omega)).trans m2
 have m4' := (b1.block _ hl4 (by omega)).trans n4
 have K4 : Kp (fun _ => False) w w4 := (K2.trans K23).and b1 (fun i hi e => by omega)
 have hpar : parse s.data.toList = pTop false s.data.toList := by simp [parse, HV.out]
 clear m1 m2 n3 n4 r0
 cases hp : pVal false (6 - 0) s.data.toList with
 | none =>
  rw [hp] at b2
  obtain ⟨fb, k9, g, cb', rfl, q1, q2, q3⟩ := b2
  refine par_caught W w w4 s.data.toList (w2.heap.size + 1) _ fb _ _ _ ?_ rfl rfl (one_cells m4').1 m1' m2' K4 ⟨k9, g, cb', q2, q3⟩ (by omega)
  rw [hpar, pTop]
  rw [show pVal false 6 s.data.toList = none from hp]
 | some z =>
  obtain ⟨j, r⟩ := z
  rw [hp] at b2
  obtain ⟨v, k4, rfl, g3, S4, g5⟩ := b2
  obtain ⟨tt, u, rfl⟩ := Rep.iface g3
  have hp6 : pVal false 6 s.data.toList = some (j, r) := hp
  have HP := hide (And.intro hp6 (And.intro g5 hpar))
  clear hp hp6 g5 hpar hw3
  obtain ⟨ca, fa⟩ := one_cells m1'
  obtain ⟨cb, fb⟩ := one_cells m2'
  obtain ⟨cp, fp⟩ := one_cells m4'
  have B5 : Kp (fun k => k = w.heap.size) w4 (w4.setCell ⟨w.heap.size, 0, none⟩ (.iface tt u)) := Kp.setCell (p := ⟨w.heap.size, 0, none⟩) (Kp.refl (fun k => k = w.heap.size) w4) (fun _ => rfl) _
  have S5 := S4.keep B5 (fun i hi => by have := ho.size; omega) (by omega)
  have n1 : (w4.setCell ⟨w.heap.size, 0, none⟩ (.iface tt u)).heap[w.heap.size]? = some (.cells #[.iface tt u] 59) := one_set m1' _
  have n2 : (w4.setCell ⟨w.heap.size, 0, none⟩ (.iface tt u)).heap[w.heap.size + 1]? = some (.cells #[.nilIface] 61) := by rw [heap_set_other (by show w.heap.size + 1 ≠ w.heap.size; omega)]; exact m2'
  have n4 : (w4.setCell ⟨w.heap.size, 0, none⟩ (.iface tt u)).heap[w2.heap.size + 1]? = some (.cells #[.pointer (some ⟨w2.heap.size, 0, none⟩)] 201) := by rw [heap_set_other (by show w2.heap.size + 1 ≠ w.heap.size; omega)]; exact m4'
  have g3' : Rep (w4.setCell ⟨w.heap.size, 0, none⟩ (.iface tt u)) (fun b => w3.heap.size ≤ b ∧ b < w4.heap.size) j (.iface tt u) := Rep.frame (fun k hk => heap_set_other (by show k ≠ w.heap.size; omega)) j g3
  have K5 : Kp (fun _ => False) w (w4.setCell ⟨w.heap.size, 0, none⟩ (.iface tt u)) := Kp.setCell (p := ⟨w.heap.size, 0, none⟩) K4 (fun h => by exact absurd h (by show ¬ w.heap.size < _; omega)) _
  have hz5 : (w4.setCell ⟨w.heap.size, 0, none⟩ (.iface tt u)).heap.size = w4.heap.size := by simp [World.setCell]
  have NN := hide (And.intro n1 (And.intro n2 (And.intro n4 (And.intro g3' (And.intro S5 (And.intro K5 hz5))))))
  clear n1 n2 n4 g3' S5 K5 hz5 B5 m1' m2' m4' g3 K4
  go_wp2_with fail
  refine (blanks_c W w2.heap.size s k4 0 _ NN.out.2.2.2.2.1).mono ?_
  generalize hw5 : w4.setCell ⟨w.heap.size, 0, none⟩ (.iface tt u) = w5 at *
  rintro e w6 ⟨rfl, d1, k6, S6, d3⟩
  obtain ⟨n1, n2, n4, g3', S5, K5, hz5⟩ := NN.out
  have p1 := (d1.block _ (lt_heap n1) (by omega)).trans n1
  have p2 := (d1.block _ (lt_heap n2) (by omega)).trans n2
  have p4 := (d1.block _ (lt_heap n4) (by omega)).trans n4
  have K6 : Kp (fun _ => False) w w6 := K5.and d1 (fun i hi e => by omega)
  have hs56 := d1.size
  have g6 : Rep w6 (fun b => w3.heap.size ≤ b ∧ b < w4.heap.size) j (.iface tt u) := Rep.frame (fun k hk => d1.block k (by omega) (by omega)) j g3'
  have D3 : Hid (rest s k6 = sk r) := by rw [HP.out.2.1] at d3; exact d3
  clear ca fa cb fb cp fp n1 n2 n4 g3' S5 K5 hw5 d3 NN
  obtain ⟨ca, fa⟩ := one_cells p1
  obtain ⟨cb, fb⟩ := one_cells p2
  obtain ⟨cp, fp⟩ := one_cells p4
  have PP := hide (And.intro p1 (And.intro p2 (And.intro p4 g6)))
  clear p1 p2 p4 g6
  obtain ⟨c0, c1, c2, f1, f2, hb⟩ := S6.rdr.facts
  have hle := S6.le
  by_cases hlt : k6 < s.size
  ·have hlt' : (k6 : Int) < (s.size : Int) := by omega
   have hpn : parse s.data.toList = none := by
    rw [HP.out.2.2, pTop, HP.out.1]
    have : sk r ≠ [] := by rw [← D3.out, rest_cons hlt]; simp
    simp [this]
   have HN := hide hpn
   clear hpn
   obtain ⟨cbe, hg, he⟩ := S6.err 8 (by decide) (by decide)
   go_wp2_with fail
   go_quiet (fail)
   go_wp2_with (go_at_call 111; refine (fault_c w2.heap.size s k6 0 _ (S6.drewN _).rdr _ _).mono ?_; rintro e w' ⟨rfl, rfl⟩)
   have hz6 := lt_heap PP.out.2.2.1
   exact par_caught W w _ _ (w2.heap.size + 1) _ w6.heap.size _ _ _ HN.out rfl rfl (one_cells ((Below.heap_alloc (w6.drewN nq) _ _ (lt_heap PP.out.2.2.1)).trans PP.out.2.2.1)).1 ((Below.heap_alloc (w6.drewN nq) _ _ (lt_heap PP.out.1)).trans PP.out.1) ((Below.heap_alloc (w6.drewN nq) _ _ (lt_heap PP.out.2.1)).trans PP.out.2.1) ((K6.drewN nq).alloc _) ⟨_, _, cbe, heap_alloc_new (w6.drewN nq) _, he⟩ (by omega)
  ·have hlt' : (s.size : Int) ≤ (k6 : Int) := by omega
   have hps : parse s.data.toList = some j := by
    rw [HP.out.2.2, pTop, HP.out.1]
    have : sk r = [] := by rw [← D3.out, rest_nil (by omega)]
    simp [this]
   have HN := hide hps
   clear hps
   go_wp2_with fail
   go_quiet (fail)
   go_wp2
   refine leaves_cons (f := 107) (args := #[.pointer (some ⟨w2.heap.size + 1, 0, none⟩), .pointer (some ⟨w.heap.size, 0, none⟩), .pointer (some ⟨w.heap.size + 1, 0, none⟩)]) (by simp) (by simp [go_sem]) ?_
   refine (catch_idle _ _ _ _).mono ?_
   rintro e u' w'' ⟨rfl, rfl, rfl⟩
   obtain ⟨e1, e2, e3⟩ := par_end (w2 := w6.drewN nq) (by omega) PP.out.1 PP.out.2.1 (.iface tt u) .nilIface
   show Leaves _ _ _ _ [] (settle _) _
   simp only [settle]
   refine ⟨_, par_results _ rfl rfl (one_cells e1).1 (one_cells e2).1, ?_⟩
   refine ⟨Kp.setCell (p := ⟨w.heap.size + 1, 0, none⟩) (Kp.setCell (p := ⟨w.heap.size, 0, none⟩) (K6.drewN nq) (fun h => by exact absurd h (by show ¬ w.heap.size < _; omega)) _) (fun h => by exact absurd h (by show ¬ w.heap.size + 1 < _; omega)) _, Or.inl ⟨j, _, HN.out, rfl, ?_⟩⟩
   have hz9 : (((w6.drewN nq).setCell ⟨w.heap.size, 0, none⟩ (.iface tt u)).setCell ⟨w.heap.size + 1, 0, none⟩ .nilIface).heap.size = w6.heap.size := by simp [World.setCell]
   have g9 : Rep (((w6.drewN nq).setCell ⟨w.heap.size, 0, none⟩ (.iface tt u)).setCell ⟨w.heap.size + 1, 0, none⟩ .nilIface) (fun b => w3.heap.size ≤ b ∧ b < w4.heap.size) j (.iface tt u) := by
    refine Rep.frame (w := w6) ?_ j PP.out.2.2.2
    intro k hk
    exact e3 k (by omega) (by omega)
   refine Rep.mono ?_ j g9
   intro k hk
   rw [hz9]
   omega
theorem parse_c (W : World) (hG : GL W) (s : ByteArray) (hs : s.size ≤ 600) (w : World) (ho : Below W.heap.size W w) :
  Calls Tryz.prog 65 #[.string s] w fun e w' => ParR W w s.data.toList e w' := by
 cases hv : Lib.validD s.data.toList with
 | true => exact parse_good W hG s hs w ho hv
 | false => exact parse_bad W hG s hs w ho hv
end Go.Proofs.YtocligpfmfmihaaGreatDoor
namespace Go.Proofs.YtocligpfmfmihaaGreatDoor
open Go Go.RowKit
structure Rs (W w : World) (rb : Nat) (s : ByteArray) (k : Nat) (bad : Bool) : Prop where
 gl : GL W
 old : Below W.heap.size W w
 rdr : w.heap[rb]? = some (.cells #[.string s, .int .i64 k, .bool bad] 128)
 ge : W.heap.size ≤ rb
 sz : s.size ≤ 600
 le : k ≤ s.size + 9
 good : bad = false → k ≤ s.size
variable {W w w' : World} {rb k : Nat} {s : ByteArray} {bad : Bool}
theorem Rs.facts (h : Rs W w rb s k bad) : w.cell? ⟨rb, 0, none⟩ = some (.string s) ∧ w.cell? ⟨rb, 1, none⟩ = some (.int .i64 k) ∧ w.cell? ⟨rb, 2, none⟩ = some (.bool bad) ∧
  w.frozen? ⟨rb, 1, none⟩ = false ∧ w.frozen? ⟨rb, 2, none⟩ = false ∧ rb < w.heap.size := by
 have hr := h.rdr
 refine ⟨?_, ?_, ?_, ?_, ?_, lt_heap hr⟩ <;> simp [World.cell?, World.frozen?, hr]
theorem Rs.drewN (h : Rs W w rb s k bad) (n : Nat) : Rs W (w.drewN n) rb s k bad := ⟨h.gl, below_drewN h.old n, h.rdr, h.ge, h.sz, h.le, h.good⟩
theorem Rs.at (h : Rs W w rb s k bad) (k' : Nat) (h1 : k' ≤ s.size + 9) (h2 : bad = false → k' ≤ s.size) : Rs W (w.setCell ⟨rb, 1, none⟩ (.int .i64 k')) rb s k' bad := by
 refine ⟨h.gl, h.old.setCell (p := ⟨rb, 1, none⟩) h.ge _, ?_, h.ge, h.sz, h1, h2⟩
 have := h.rdr
 simp [World.setCell, Array.getElem?_modify, this]
theorem Rs.turn (h : Rs W w rb s k bad) (b : Bool) (hb : b = false → k ≤ s.size) : Rs W (w.setCell ⟨rb, 2, none⟩ (.bool b)) rb s k b := by
 refine ⟨h.gl, h.old.setCell (p := ⟨rb, 2, none⟩) h.ge _, ?_, h.ge, h.sz, h.le, hb⟩
 have := h.rdr
 simp [World.setCell, Array.getElem?_modify, this]
theorem Rs.keep {S : Nat → Prop} (h : Rs W w rb s k bad) (hk : Kp S w w') (h1 : ∀ i, S i → W.heap.size ≤ i) (h2 : ¬ S rb) : Rs W w' rb s k bad :=
 ⟨h.gl, h.old.trans ⟨hk.os, hk.tape, hk.output, hk.size, fun i hi => hk.block i (Nat.lt_of_lt_of_le hi h.old.size) (fun hs => by have := h1 i hs; omega)⟩, (hk.block rb (lt_heap h.rdr) h2).trans h.rdr, h.ge, h.sz, h.le, h.good⟩
theorem ext_rest (s : ByteArray) (k n : Nat) : (s.extract k (k + n)).data.toList = (rest s k).take n := by
 unfold rest
 simp [List.take_drop]
end Go.Proofs.YtocligpfmfmihaaGreatDoor
namespace Go.Proofs.YtocligpfmfmihaaGreatDoor
open Go Go.RowKit Go.Maps
def ptr (b : Nat) : Value := .pointer (some ⟨b, 0, none⟩)
def vCells (kind : Nat) (n : Int) (t : Bs) (K L : Value) : Obj := .cells #[.int .u8 (kind : Int), .int .i64 n, .string ⟨t.toArray⟩, K, L] 80
inductive RR (w : World) (F : Nat → Prop) : J → Nat → Prop
 | null {b : Nat} (hF : F b) (h : w.heap[b]? = some (vCells 110 0 [] (.slice none 0 0) (.slice none 0 0))) : RR w F .null b
 | tt {b : Nat} (hF : F b) (h : w.heap[b]? = some (vCells 116 0 [] (.slice none 0 0) (.slice none 0 0))) : RR w F (.bool true) b
 | ff {b : Nat} (hF : F b) (h : w.heap[b]? = some (vCells 102 0 [] (.slice none 0 0) (.slice none 0 0))) : RR w F (.bool false) b
 | num {b : Nat} (n : Int) (hn : n.natAbs ≤ 9007199254740991) (hF : F b) (h : w.heap[b]? = some (vCells 35 n [] (.slice none 0 0) (.slice none 0 0))) : RR w F (.num n) b
 | str {b : Nat} (t : Bs) (hF : F b) (h : w.heap[b]? = some (vCells 34 0 t (.slice none 0 0) (.slice none 0 0))) : RR w F (.str t) b
 | arr {b : Nat} (x : List (J × Nat)) (L : Value) (hF : F b) (h : w.heap[b]? = some (vCells 91 0 [] (.slice none 0 0) L))
   (hL : w.ownsRow 0 66 1 L x.length (x.map fun p => ptr p.2)) (hG : ∀ k, L.ownBlock = some k → F k) (hx : ∀ j c, (j, c) ∈ x → RR w F j c) : RR w F (.arr (x.map (·.1))) b
 | obj {b : Nat} (x : List (Bs × J × Nat)) (K L : Value) (hF : F b) (h : w.heap[b]? = some (vCells 123 0 [] K L))
   (hK : w.ownsRow 0 9 1 K x.length (x.map fun p => .string ⟨p.1.toArray⟩)) (hL : w.ownsRow 0 66 1 L x.length (x.map fun p => ptr p.2.2))
   (hG : ∀ k, K.ownBlock = some k → F k) (hH : ∀ k, L.ownBlock = some k → F k) (hN : Nod (x.map fun p => (p.1, p.2.1))) (hx : ∀ a j c, (a, j, c) ∈ x → RR w F j c) : RR w F (.obj (ofL (x.map fun p => (p.1, p.2.1)))) b
theorem RR.frame {w w' : World} {F G : Nat → Prop} {j : J} {b : Nat} (h : RR w F j b) (hf : ∀ k, F k → w'.heap[k]? = w.heap[k]?) (hg : ∀ k, F k → G k) : RR w' G j b := by
 induction h with
 | null hF h => exact .null (hg _ hF) ((hf _ hF).trans h)
 | tt hF h => exact .tt (hg _ hF) ((hf _ hF).trans h)
 | ff hF h => exact .ff (hg _ hF) ((hf _ hF).trans h)
 | num n hn hF h => exact .num n hn (hg _ hF) ((hf _ hF).trans h)
 | str t hF h => exact .str t (hg _ hF) ((hf _ hF).trans h)
 | arr x L hF h hL hG hx ih => exact .arr x L (hg _ hF) ((hf _ hF).trans h) (ownsRow_heap hL fun k hk => hf k (hG k hk)) (fun k hk => hg k (hG k hk)) ih
 | obj x K L hF h hK hL hG hH hN hx ih =>
  exact .obj x K L (hg _ hF) ((hf _ hF).trans h) (ownsRow_heap hK fun k hk => hf k (hG k hk)) (ownsRow_heap hL fun k hk => hf k (hH k hk)) (fun k hk => hg k (hG k hk)) (fun k hk => hg k (hH k hk)) hN ih
end Go.Proofs.YtocligpfmfmihaaGreatDoor
namespace Go.Proofs.YtocligpfmfmihaaGreatDoor
open Go Go.RowKit Go.Maps
variable {W w w' : World} {rb k : Nat} {s : ByteArray} {bad : Bool}
theorem infoStr : (Tryz.prog.info? 9).map (fun i => (i.zero, i.size, i.bytes)) = some (some (.string ⟨#[]⟩), 1, 16) := by kernel_rfl
structure ArI (lo vb : Nat) (x : List (J × Nat)) (L : Value) (G : Nat → Prop) (w : World) : Prop where
 blk : w.heap[vb]? = some (vCells 91 0 [] (.slice none 0 0) L)
 row : w.ownsRow lo 66 1 L x.length (x.map fun p => ptr p.2)
 trs : ∀ j c, (j, c) ∈ x → RR w G j c
 old : ∀ k, G k → lo ≤ k ∧ k < w.heap.size ∧ k ≠ vb
 own : ∀ k, L.ownBlock = some k → ¬ G k ∧ k ≠ vb
theorem ArI.kp {lo vb : Nat} {x : List (J × Nat)} {L : Value} {G : Nat → Prop} (h : ArI lo vb x L G w) {S : Nat → Prop} (hk : Kp S w w') (hS : ∀ k, lo ≤ k → k < w.heap.size → ¬ S k) (hlo : lo ≤ vb) : ArI lo vb x L G w' :=
 ⟨(hk.block vb (lt_heap h.blk) (hS vb hlo (lt_heap h.blk))).trans h.blk, ownsRow_kp h.row hk (fun k e => by have := h.row.lt k e; exact hS k this.1 this.2),
  fun j c hm => (h.trs j c hm).frame (fun k hG => hk.block k (h.old k hG).2.1 (hS k (h.old k hG).1 (h.old k hG).2.1)) (fun _ h => h),
  fun k hG => ⟨(h.old k hG).1, Nat.lt_of_lt_of_le (h.old k hG).2.1 hk.size, (h.old k hG).2.2⟩, h.own⟩
theorem ArI.more {lo vb b hs : Nat} {x : List (J × Nat)} {L L' : Value} {G : Nat → Prop} {w2 w3 : World} {j : J} (h : ArI lo vb x L G w2) (hlt : ∀ k, G k → k < hs) (hvb : vb < hs) (hlo : lo ≤ hs) (hLt : ∀ k, L.ownBlock = some k → k < hs)
  (ht : RR w2 (fun c => hs ≤ c ∧ c < w2.heap.size) j b) (B1 : Kp (fun k => L.ownBlock = some k) w2 w3) (h3 : w3.heap[vb]? = some (vCells 91 0 [] (.slice none 0 0) L))
  (y1 : w3.ownsRow lo 66 1 L' (x.length + 1) ((x.map fun p => ptr p.2) ++ [ptr b])) (y3 : L'.ownBlock = L.ownBlock ∨ ∃ q, w2.heap.size ≤ q ∧ L'.ownBlock = some q) (hs2 : hs ≤ w2.heap.size) :
  ArI lo vb (x ++ [(j, b)]) L' (fun k => G k ∨ (hs ≤ k ∧ k < w2.heap.size)) (w3.setCell ⟨vb, 4, none⟩ L') := by
 have hz : (w3.setCell ⟨vb, 4, none⟩ L').heap.size = w3.heap.size := by simp [World.setCell]
 have own' : ∀ k, L'.ownBlock = some k → ¬ (G k ∨ (hs ≤ k ∧ k < w2.heap.size)) ∧ k ≠ vb := by
  intro k hk
  rcases y3 with e | ⟨q, hq, e⟩
  ·rw [e] at hk
   obtain ⟨q1, q2⟩ := h.own k hk
   have := hLt k hk
   exact ⟨by rintro (h | h); exact q1 h; omega, q2⟩
  ·rw [e] at hk
   injection hk with hk
   refine ⟨?_, by omega⟩
   rintro (hg | hg)
   ·have := hlt k hg; omega
   ·omega
 refine ⟨?_, ?_, ?_, ?_, own'⟩
 ·simp [World.setCell, Array.getElem?_modify, h3, vCells]
 ·rw [List.length_append, List.map_append]
  exact ownsRow_heap y1 fun k hk => heap_set_other (own' k hk).2
 ·intro i c hm
  rcases List.mem_append.1 hm with hm | hm
  ·refine (h.trs i c hm).frame (fun k hG => ?_) (fun k hG => Or.inl hG)
   rw [heap_set_other (h.old k hG).2.2, B1.block k (h.old k hG).2.1 (fun e => (h.own k e).1 hG)]
  ·obtain ⟨rfl, rfl⟩ : i = j ∧ c = b := by simpa using hm
   refine ht.frame (fun k hG => ?_) (fun k hG => Or.inr hG)
   rw [heap_set_other (by show k ≠ vb; omega), B1.block k hG.2 (fun e => by have := hLt k e; omega)]
 ·rintro k (hG | hG)
  ·have q := h.old k hG
   have := B1.size
   exact ⟨q.1, by omega, q.2.2⟩
  ·have := B1.size
   exact ⟨by omega, by omega, by omega⟩
end Go.Proofs.YtocligpfmfmihaaGreatDoor
namespace Go.Proofs.YtocligpfmfmihaaGreatDoor
open Go Go.RowKit
variable {W w w' : World} {rb k : Nat} {s : ByteArray} {bad : Bool}
end Go.Proofs.YtocligpfmfmihaaGreatDoor
namespace Go.Proofs.YtocligpfmfmihaaGreatDoor
open Go Go.RowKit
variable {W w w' : World} {rb k : Nat} {s : ByteArray} {bad : Bool}
end Go.Proofs.YtocligpfmfmihaaGreatDoor

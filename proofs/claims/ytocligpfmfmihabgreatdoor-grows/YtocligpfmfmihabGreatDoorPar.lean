import Derived.Test.YtocligpfmfmihabGreatDoorVal4G
import Derived.Defers
import Derived.Recover
import Derived.Lib.MapLaws
import Derived.Lib.TrimUEq
namespace Go.Proofs.YtocligpfmfmihabGreatDoor
open Go Go.RowKit Go.Maps Go.WideMaps

/-- What the variables hold. -/
structure GL (W : World) : Prop where
  glob : Glob W
  tabs : Lib.Utf8Tabs 16 17 W
  pow : Lib.TabBelow Tryz.prog W.heap.size W "internal/strconv.uint64pow10" .u64 Lib.pow10Tab

theorem GL.tabs' {W w : World} (h : GL W) (ho : Below W.heap.size W w) : Lib.Utf8Tabs 16 17 w := by
  have hs := h.glob.sz
  refine ⟨fun c hc => ?_, fun i hi => ⟨?_, ?_⟩⟩
  · rw [ho.cell (p := ⟨_, c, none⟩) (by show 16 < _; omega)]; exact h.tabs.1 c hc
  · rw [ho.cell (p := ⟨_, 2 * i, none⟩) (by show 17 < _; omega)]; exact (h.tabs.2 i hi).1
  · rw [ho.cell (p := ⟨_, 2 * i + 1, none⟩) (by show 17 < _; omega)]; exact (h.tabs.2 i hi).2

/-- A Fault of the text lies at block fb. -/
def FaultAt (W w : World) (fb : Nat) : Prop := ∃ (k : Int) (g : Nat) (cb : Addr), w.heap[fb]? = some (.cells #[.int .i64 k, errV cb] 228) ∧ Errs W g cb

theorem dec_tail (s : ByteArray) (k : Nat) (h : k < s.size) : Lib.decodeGo (s.extract k s.size) = Lib.decodeL (rest s k) := by
  have h1 : (s.extract k s.size).data.toList = rest s k := Lib.extract_to_end s k
  have h2 : ¬ (s.extract k s.size).size = 0 := by
    have : (s.extract k s.size).size = (s.extract k s.size).data.toList.length := by rw [Array.length_toList]; rfl
    rw [this, h1, rest, List.length_drop]; simp; omega
  unfold Lib.decodeGo
  rw [if_neg h2, ← Lib.decodeL_drop, h1, List.drop_zero]

/-- What CheckUTF8 tells. -/
def ChkR (W w : World) (l : List UInt8) (e : Ending) (w' : World) : Prop :=
  Kp (fun _ => False) w w' ∧ ((Lib.validD l = true ∧ e = .returned .nilIface) ∨ (Lib.validD l = false ∧ ∃ fb, e = .returned (.iface 130 (.pointer (some ⟨fb, 0, none⟩))) ∧ w.heap.size ≤ fb ∧ FaultAt W w' fb))
theorem below_kp {W w w' : World} (ho : Below W.heap.size W w) (h1 : Kp (fun _ => False) w w') : Below W.heap.size W w' :=
  ho.trans ⟨h1.os, h1.tape, h1.output, h1.size, fun i hi => h1.block i (Nat.lt_of_lt_of_le hi ho.size) (by simp)⟩
theorem Glob.err {W w : World} (h : Glob W) (ho : Below W.heap.size W w) (g : Nat) (hm : g ∈ [20, 25, 26, 27, 21, 15, 22, 11, 19, 28, 18, 8]) (hg : g < 31) :
    ∃ cb, w.cell? ⟨g, 0, none⟩ = some (.iface 350 (.pointer (some cb))) ∧ Errs W g cb := by
  obtain ⟨cb, h1⟩ := h.val g hm
  exact ⟨cb, (ho.cell (p := ⟨g, 0, none⟩) (by have := h.sz; show g < _; omega)).trans h1.1, h1⟩

set_option maxRecDepth 20000 in
theorem check_c (W : World) (hG : GL W) (s : ByteArray) (hs : s.size ≤ 9223372036854775807) (w : World) (ho : Below W.heap.size W w) :
    Calls Tryz.prog 69 #[.string s] w fun e w' => ChkR W w s.data.toList e w' := by
  go_enter Tryz.func69, Tryz.ntmps69
  go_wp2_with fail
  go_loopg [3] s.size (fun g a wr => ∃ k : Nat, g = s.size - k ∧ k ≤ s.size ∧ a = .int .i64 (k : Int) ∧ Kp (fun _ => False) w wr ∧ Lib.validD (rest s k) = Lib.validD s.data.toList)
  case atStart => exact ⟨0, rfl, by omega, rfl, Kp.refl _ _, by simp [rest]⟩
  case round =>
    obtain ⟨k, hg, hk, rfl, h1, h2⟩ := hrel
    have A := hide (And.intro hg h2)
    clear hg h2
    by_cases hlt : k < s.size
    · have hlt' : decide ((k : Int) < (s.size : Int)) = true := by simp; omega
      have ho2 : Below W.heap.size W wr := below_kp ho h1
      go_wp2_with fail
      refine (Tryz.utf8_DecodeRuneInString _ _ (hG.tabs' ho2)).mono ?_
      rintro e w2 ⟨rfl, b1⟩
      have K2 : Kp (fun _ => False) w w2 := h1.trans ⟨b1.os, b1.tape, b1.output, b1.size, fun i hi _ => b1.block i hi⟩
      rw [dec_tail s k hlt]
      have hne : rest s k ≠ [] := by rw [rest_cons hlt]; simp
      have hstep := Lib.validD_step (rest s k) hne
      have hw1 := Lib.decodeL_width (rest s k)
      have hw2 := Lib.decodeL_le (rest s k) hne
      have hlen : (rest s k).length = s.size - k := by simp [rest]
      have hdrop : ∀ n, (rest s k).drop n = rest s (k + n) := fun n => by simp [rest, List.drop_drop]
      generalize Lib.decodeL (rest s k) = dd at *
      obtain ⟨r, n⟩ := dd
      simp only at hstep hw1 hw2
      rw [hlen] at hw2
      have B := hide (And.intro hstep (hdrop n))
      clear hstep hdrop hne hlen b1
      by_cases hbad : r = 65533 ∧ n = 1
      · obtain ⟨rfl, rfl⟩ := hbad
        obtain ⟨cb, hg, he⟩ := hG.glob.err (below_kp ho K2) 8 (by decide) (by decide)
        go_wp2
        go_ret
        refine ⟨K2.alloc _, Or.inr ⟨by rw [← A.out.2, B.out.1]; simp, w2.heap.size, rfl, K2.size, (k : Int), 8, cb, ?_, he⟩⟩
        exact heap_alloc_new w2 _
      · have BB := hide hbad
        have fin : Lib.validD (rest s (k + n)) = Lib.validD s.data.toList := by
          rw [← A.out.2, B.out.1, if_neg BB.out, B.out.2]
        have FI := hide fin
        clear hbad fin
        by_cases h65 : r = 65533
        · have hn1 : ((n : Int) == 1) = false := by
            have : n ≠ 1 := fun h => BB.out ⟨h65, h⟩
            simp; omega
          subst h65
          go_wp2
          go_roundg (s.size - (k + n))
          case measure => rw [A.out.1]; omega
          case rel => exact ⟨k + n, rfl, by omega, int_i64 (by omega), K2, FI.out⟩
        · have hr1 : ((r : Int) == 65533) = false := by simp; omega
          have hr2 : ¬ (r : Int) = 65533 := by omega
          clear h65
          go_wp2
          go_roundg (s.size - (k + n))
          case measure => rw [A.out.1]; omega
          case rel => exact ⟨k + n, rfl, by omega, int_i64 (by omega), K2, FI.out⟩
    · have hlt' : decide ((k : Int) < (s.size : Int)) = false := by simp; omega
      go_wp2
      go_ret
      refine ⟨h1, Or.inl ⟨?_, rfl⟩⟩
      rw [← A.out.2, rest_nil (by omega)]
      rfl

theorem assert_fault (q : Addr) (w : World) : (Instr.typeAssert (.iface 130 (.pointer (some q))) 20 130 true).run Tryz.prog w = .ok (.tuple #[.pointer (some q), .bool true]) w := by kernel_rfl
theorem caught_c (w : World) (p q : Addr) : Calls Tryz.prog 129 #[.pointer (some p), .iface 130 (.pointer (some q))] w fun e w' => e = .returned (.pointer (some q)) ∧ w = w' := by
  have hta := assert_fault q
  go_enter Tryz.func129, Tryz.ntmps129
  go_wp2
  go_ret
  exact ⟨rfl, rfl⟩

set_option maxRecDepth 20000 in
theorem catch_panicking (pr pv pe : Nat) (rp q : Addr) (w : World) (h0 : w.cell? ⟨pr, 0, none⟩ = some (.pointer (some rp))) (v1 v2 : Value) (h1 : w.cell? ⟨pv, 0, none⟩ = some v1) (f1 : w.frozen? ⟨pv, 0, none⟩ = false)
    (h2 : w.cell? ⟨pe, 0, none⟩ = some v2) (f2 : w.frozen? ⟨pe, 0, none⟩ = false) (hne : pv ≠ pe) :
    CallsD Tryz.prog 128 #[.pointer (some ⟨pr, 0, none⟩), .pointer (some ⟨pv, 0, none⟩), .pointer (some ⟨pe, 0, none⟩)] (.panicking [{ v := .iface 130 (.pointer (some q)), recovered := false }]) w fun e u' w' =>
      e = .returned (.tuple #[]) ∧ u' = .panicking [{ v := .iface 130 (.pointer (some q)), recovered := true }] ∧ w' = (w.setCell ⟨pv, 0, none⟩ .nilIface).setCell ⟨pe, 0, none⟩ (.iface 130 (.pointer (some q))) := by
  refine callsD_of_wpS Tryz.func128 rfl fun c₀ cs hu => ?_
  apply wpS_seq
  apply wpS_region
  simp [wpOpsS, go_sem, recoverD, hu, Tryz.ntmps128, Exit.thenS]
  refine wpS_of_wp ?_
  go_wp2_with (go_at_call 129; refine (caught_c _ rp q).mono ?_; rintro e w' ⟨rfl, rfl⟩)
  exact ⟨rfl, _, rfl, .tuple #[], by simp [results, Tryz.results128], rfl, rfl, rfl⟩
set_option maxRecDepth 20000 in
theorem catch_idle (a b c : Value) (w : World) :
    CallsD Tryz.prog 128 #[a, b, c] .returning w fun e u' w' => e = .returned (.tuple #[]) ∧ u' = .returning ∧ w' = w := by
  refine callsD_of_wpS Tryz.func128 rfl fun c₀ cs hu => ?_
  apply wpS_seq
  apply wpS_region
  simp [wpOpsS, go_sem, recoverD, hu, Tryz.ntmps128, Exit.thenS]
  refine wpS_of_wp ?_
  go_wp2
  refine ⟨rfl, .returning, ?_, .tuple #[], by simp [results, Tryz.results128], rfl, rfl, rfl⟩
  cases c₀
  simp_all

/-- What Parse tells. -/
def ParR (W w : World) (l : List UInt8) (e : Ending) (w' : World) : Prop :=
  Kp (fun _ => False) w w' ∧ ((∃ j v, parse l = some j ∧ e = .returned (.tuple #[v, .nilIface]) ∧ Rep w' (fun b => w.heap.size ≤ b ∧ b < w'.heap.size) j v) ∨
    (parse l = none ∧ ∃ fb, e = .returned (.tuple #[.nilIface, .iface 130 (.pointer (some ⟨fb, 0, none⟩))]) ∧ w.heap.size ≤ fb ∧ FaultAt W w' fb))

theorem two_new (w : World) (a b : Obj) : ((w.alloc a).alloc b).heap[w.heap.size]? = some a ∧ ((w.alloc a).alloc b).heap[w.heap.size + 1]? = some b := by
  constructor
  · rw [Below.heap_alloc _ _ _ (by simp)]
    exact heap_alloc_new w a
  · have := heap_alloc_new (w.alloc a) b
    simpa using this

/-- The two results, laid. -/
theorem par_end {a b : Nat} {w2 : World} {x y : Value} (hab : a ≠ b) (h1 : w2.heap[a]? = some (.cells #[x] 137)) (h2 : w2.heap[b]? = some (.cells #[y] 58)) (u v : Value) :
    ((w2.setCell ⟨a, 0, none⟩ u).setCell ⟨b, 0, none⟩ v).heap[a]? = some (.cells #[u] 137) ∧ ((w2.setCell ⟨a, 0, none⟩ u).setCell ⟨b, 0, none⟩ v).heap[b]? = some (.cells #[v] 58) ∧
    ∀ k, k ≠ a → k ≠ b → ((w2.setCell ⟨a, 0, none⟩ u).setCell ⟨b, 0, none⟩ v).heap[k]? = w2.heap[k]? := by
  refine ⟨?_, ?_, ?_⟩
  · rw [heap_set_other (by show a ≠ b; exact hab)]; exact one_set h1 u
  · exact one_set (by rw [heap_set_other (by show b ≠ a; exact Ne.symm hab)]; exact h2) v
  · intro k hka hkb
    rw [heap_set_other hkb, heap_set_other hka]
theorem par_results {a b : Nat} {w : World} {u v : Value} (tmps : Array Value) (ht2 : tmps[2]?.getD undef = .pointer (some ⟨a, 0, none⟩)) (ht3 : tmps[3]?.getD undef = .pointer (some ⟨b, 0, none⟩)) (h1 : w.cell? ⟨a, 0, none⟩ = some u) (h2 : w.cell? ⟨b, 0, none⟩ = some v) :
    (results Tryz.f88 tmps).run Tryz.prog w = .ok (.tuple #[u, v]) w := by
  simp [results, Tryz.results88, go_sem, h1, h2, ht2, ht3]

set_option maxRecDepth 20000 in
theorem parse_bad (W : World) (hG : GL W) (s : ByteArray) (hs : s.size ≤ 600) (w : World) (ho : Below W.heap.size W w) (hv : Lib.validD s.data.toList = false) :
    Calls Tryz.prog 88 #[.string s] w fun e w' => ParR W w s.data.toList e w' := by
  have HV := hide hv
  clear hv
  obtain ⟨n1, n2⟩ := two_new w (.cells #[.nilIface] 137) (.cells #[.nilIface] 58)
  have K1 : Kp (fun _ => False) w ((w.alloc (.cells #[.nilIface] 137)).alloc (.cells #[.nilIface] 58)) := ((Kp.refl _ _).alloc _).alloc _
  have N := hide (And.intro n1 (And.intro n2 K1))
  clear n1 n2 K1
  go_enter_defers Tryz.func88, Tryz.ntmps88
  go_wp2_with fail
  refine (check_c W hG s (by omega) _ (below_kp ho N.out.2.2)).mono ?_
  rintro e w2 ⟨a1, (⟨hv, _⟩ | ⟨_, fb, rfl, h1, h2⟩)⟩
  · rw [HV.out] at hv; cases hv
  have m1 : w2.heap[w.heap.size]? = some (.cells #[.nilIface] 137) := (a1.block _ (lt_heap N.out.1) (by simp)).trans N.out.1
  have m2 : w2.heap[w.heap.size + 1]? = some (.cells #[.nilIface] 58) := (a1.block _ (lt_heap N.out.2.1) (by simp)).trans N.out.2.1
  obtain ⟨c1, f1⟩ := one_cells m1
  obtain ⟨c2, f2⟩ := one_cells m2
  have M := hide (And.intro m1 m2)
  have hsz := h1
  simp at hsz
  clear m1 m2
  go_wp2_with fail
  obtain ⟨e1, e2, e3⟩ := par_end (by omega) M.out.1 M.out.2 .nilIface (.iface 130 (.pointer (some ⟨fb, 0, none⟩)))
  refine ⟨_, par_results _ rfl rfl (one_cells e1).1 (one_cells e2).1, ?_⟩
  refine ⟨Kp.setCell (p := ⟨w.heap.size + 1, 0, none⟩) (Kp.setCell (p := ⟨w.heap.size, 0, none⟩) (N.out.2.2.trans a1) (fun h => by exact absurd h (by show ¬ w.heap.size < _; omega)) _) (fun h => by exact absurd h (by show ¬ w.heap.size + 1 < _; omega)) _, Or.inr ⟨by simp [parse, HV.out], fb, rfl, by omega, ?_⟩⟩
  obtain ⟨k, g, cb, q1, q2⟩ := h2
  exact ⟨k, g, cb, (e3 fb (by omega) (by omega)).trans q1, q2⟩

/-- A Fault, caught. -/
theorem par_caught (W w w5 : World) (l : List UInt8) (pr : Nat) (rp : Addr) (fb : Nat) (tmps : Array Value) (x y : Value) (hp : parse l = none)
    (ht2 : tmps[2]?.getD undef = .pointer (some ⟨w.heap.size, 0, none⟩)) (ht3 : tmps[3]?.getD undef = .pointer (some ⟨w.heap.size + 1, 0, none⟩))
    (h0 : w5.cell? ⟨pr, 0, none⟩ = some (.pointer (some rp))) (h1 : w5.heap[w.heap.size]? = some (.cells #[x] 137)) (h2 : w5.heap[w.heap.size + 1]? = some (.cells #[y] 58))
    (hk : Kp (fun _ => False) w w5) (hf : FaultAt W w5 fb) (hfb : w.heap.size + 1 + 1 ≤ fb) :
    bodyPostD Tryz.prog Tryz.f88 (fun e w' => ParR W w l e w') (.panic [{ v := .iface 130 (.pointer (some ⟨fb, 0, none⟩)), recovered := false }])
      { tmps := tmps, defers := [{ target := .fn (.func 128) #[.pointer (some ⟨pr, 0, none⟩), .pointer (some ⟨w.heap.size, 0, none⟩), .pointer (some ⟨w.heap.size + 1, 0, none⟩)], args := #[] }] } w5 := by
  refine leaves_cons (f := 128) (args := #[.pointer (some ⟨pr, 0, none⟩), .pointer (some ⟨w.heap.size, 0, none⟩), .pointer (some ⟨w.heap.size + 1, 0, none⟩)]) (by simp) (by simp [go_sem]) ?_
  obtain ⟨c1, f1⟩ := one_cells h1
  obtain ⟨c2, f2⟩ := one_cells h2
  refine (catch_panicking pr w.heap.size (w.heap.size + 1) rp ⟨fb, 0, none⟩ w5 h0 x y c1 f1 c2 f2 (by omega)).mono ?_
  rintro e u' w'' ⟨rfl, rfl, rfl⟩
  obtain ⟨e1, e2, e3⟩ := par_end (by omega) h1 h2 .nilIface (.iface 130 (.pointer (some ⟨fb, 0, none⟩)))
  show Leaves _ _ _ _ [] (settle _) _
  simp only [settle]
  refine ⟨_, par_results _ ht2 ht3 (one_cells e1).1 (one_cells e2).1, ?_⟩
  refine ⟨Kp.setCell (p := ⟨w.heap.size + 1, 0, none⟩) (Kp.setCell (p := ⟨w.heap.size, 0, none⟩) hk (fun h => by exact absurd h (by show ¬ w.heap.size < _; omega)) _) (fun h => by exact absurd h (by show ¬ w.heap.size + 1 < _; omega)) _, Or.inr ⟨hp, fb, rfl, by omega, ?_⟩⟩
  obtain ⟨k, g, cb, q1, q2⟩ := hf
  exact ⟨k, g, cb, (e3 fb (by omega) (by omega)).trans q1, q2⟩

set_option maxRecDepth 20000 in
theorem parse_good (W : World) (hG : GL W) (s : ByteArray) (hs : s.size ≤ 600) (w : World) (ho : Below W.heap.size W w) (hv : Lib.validD s.data.toList = true) :
    Calls Tryz.prog 88 #[.string s] w fun e w' => ParR W w s.data.toList e w' := by
  have HV := hide hv
  clear hv
  obtain ⟨n1, n2⟩ := two_new w (.cells #[.nilIface] 137) (.cells #[.nilIface] 58)
  have K1 : Kp (fun _ => False) w ((w.alloc (.cells #[.nilIface] 137)).alloc (.cells #[.nilIface] 58)) := ((Kp.refl _ _).alloc _).alloc _
  have N := hide (And.intro n1 (And.intro n2 K1))
  clear n1 n2 K1
  have hmf : ∀ (fn : Fn) (first cap : Array Value) (w : World), (Instr.makeFunc fn first cap).run Tryz.prog w = .ok (.func fn first cap) w := fun _ _ _ _ => rfl
  go_enter_defers Tryz.func88, Tryz.ntmps88
  go_wp2_with fail
  refine (check_c W hG s (by omega) _ (below_kp ho N.out.2.2)).mono ?_
  rintro e w2 ⟨a1, (⟨hv, rfl⟩ | ⟨hv, _⟩)⟩
  rotate_left
  · rw [HV.out] at hv; cases hv
  have m1 : w2.heap[w.heap.size]? = some (.cells #[.nilIface] 137) := (a1.block _ (lt_heap N.out.1) (by simp)).trans N.out.1
  have m2 : w2.heap[w.heap.size + 1]? = some (.cells #[.nilIface] 58) := (a1.block _ (lt_heap N.out.2.1) (by simp)).trans N.out.2.1
  have K2 := N.out.2.2.trans a1
  have hsz := a1.size
  simp at hsz
  have M := hide (And.intro m1 m2)
  clear m1 m2 hv
  go_wp2_with fail
  obtain ⟨n3, n4⟩ := two_new w2 (.cells #[.string s, .int .i64 0, .int .i64 0] 260) (.cells #[.pointer (some ⟨w2.heap.size, 0, none⟩)] 258)
  have K23 : Kp (fun _ => False) w2 ((w2.alloc (.cells #[.string s, .int .i64 0, .int .i64 0] 260)).alloc (.cells #[.pointer (some ⟨w2.heap.size, 0, none⟩)] 258)) := ((Kp.refl _ _).alloc _).alloc _
  have S3 : St W ((w2.alloc (.cells #[.string s, .int .i64 0, .int .i64 0] 260)).alloc (.cells #[.pointer (some ⟨w2.heap.size, 0, none⟩)] 258)) w2.heap.size s 0 0 :=
    ⟨hG.glob, below_kp (below_kp ho K2) K23, n3, Nat.le_trans ho.size K2.size, Nat.zero_le _, hs⟩
  have m1 := (K23.block _ (lt_heap M.out.1) (by simp)).trans M.out.1
  have m2 := (K23.block _ (lt_heap M.out.2) (by simp)).trans M.out.2
  have r0 : rest s 0 = s.data.toList := by simp [rest]
  refine (value_c W 6 0 rfl w2.heap.size s 0 _ S3).mono ?_
  generalize hw3 : (w2.alloc (.cells #[.string s, .int .i64 0, .int .i64 0] 260)).alloc (.cells #[.pointer (some ⟨w2.heap.size, 0, none⟩)] 258) = w3 at *
  rintro e w4 ⟨b1, b2⟩
  rw [r0] at b2
  have hl1 := lt_heap m1
  have hl2 := lt_heap m2
  have hl4 := lt_heap n4
  have m1' := (b1.block _ hl1 (by omega)).trans m1
  have m2' := (b1.block _ hl2 (by omega)).trans m2
  have m4' := (b1.block _ hl4 (by omega)).trans n4
  have K4 : Kp (fun _ => False) w w4 := (K2.trans K23).and b1 (fun i hi e => by omega)
  have hpar : parse s.data.toList = pTop false s.data.toList := by simp [parse, HV.out]
  clear m1 m2 n3 n4 r0
  cases hp : pVal false (6 - 0) s.data.toList with
  | none =>
    rw [hp] at b2
    obtain ⟨fb, k9, g, cb', rfl, q1, q2, q3⟩ := b2
    refine par_caught W w w4 s.data.toList (w2.heap.size + 1) _ fb _ _ _ ?_ rfl rfl (one_cells m4').1 m1' m2' K4 ⟨k9, g, cb', q2, q3⟩ (by omega)
    rw [hpar, pTop]
    rw [show pVal false 6 s.data.toList = none from hp]
  | some z =>
    obtain ⟨j, r⟩ := z
    rw [hp] at b2
    obtain ⟨v, k4, rfl, g3, S4, g5⟩ := b2
    obtain ⟨tt, u, rfl⟩ := Rep.iface g3
    have hp6 : pVal false 6 s.data.toList = some (j, r) := hp
    have HP := hide (And.intro hp6 (And.intro g5 hpar))
    clear hp hp6 g5 hpar hw3
    obtain ⟨ca, fa⟩ := one_cells m1'
    obtain ⟨cb, fb⟩ := one_cells m2'
    obtain ⟨cp, fp⟩ := one_cells m4'
    have B5 : Kp (fun k => k = w.heap.size) w4 (w4.setCell ⟨w.heap.size, 0, none⟩ (.iface tt u)) := Kp.setCell (p := ⟨w.heap.size, 0, none⟩) (Kp.refl (fun k => k = w.heap.size) w4) (fun _ => rfl) _
    have S5 := S4.keep B5 (fun i hi => by have := ho.size; omega) (by omega)
    have n1 : (w4.setCell ⟨w.heap.size, 0, none⟩ (.iface tt u)).heap[w.heap.size]? = some (.cells #[.iface tt u] 137) := one_set m1' _
    have n2 : (w4.setCell ⟨w.heap.size, 0, none⟩ (.iface tt u)).heap[w.heap.size + 1]? = some (.cells #[.nilIface] 58) := by rw [heap_set_other (by show w.heap.size + 1 ≠ w.heap.size; omega)]; exact m2'
    have n4 : (w4.setCell ⟨w.heap.size, 0, none⟩ (.iface tt u)).heap[w2.heap.size + 1]? = some (.cells #[.pointer (some ⟨w2.heap.size, 0, none⟩)] 258) := by rw [heap_set_other (by show w2.heap.size + 1 ≠ w.heap.size; omega)]; exact m4'
    have g3' : Rep (w4.setCell ⟨w.heap.size, 0, none⟩ (.iface tt u)) (fun b => w3.heap.size ≤ b ∧ b < w4.heap.size) j (.iface tt u) := Rep.frame (fun k hk => heap_set_other (by show k ≠ w.heap.size; omega)) j g3
    have K5 : Kp (fun _ => False) w (w4.setCell ⟨w.heap.size, 0, none⟩ (.iface tt u)) := Kp.setCell (p := ⟨w.heap.size, 0, none⟩) K4 (fun h => by exact absurd h (by show ¬ w.heap.size < _; omega)) _
    have hz5 : (w4.setCell ⟨w.heap.size, 0, none⟩ (.iface tt u)).heap.size = w4.heap.size := by simp [World.setCell]
    have NN := hide (And.intro n1 (And.intro n2 (And.intro n4 (And.intro g3' (And.intro S5 (And.intro K5 hz5))))))
    clear n1 n2 n4 g3' S5 K5 hz5 B5 m1' m2' m4' g3 K4
    go_wp2_with fail
    refine (blanks_c W w2.heap.size s k4 0 _ NN.out.2.2.2.2.1).mono ?_
    generalize hw5 : w4.setCell ⟨w.heap.size, 0, none⟩ (.iface tt u) = w5 at *
    rintro e w6 ⟨rfl, d1, k6, S6, d3⟩
    obtain ⟨n1, n2, n4, g3', S5, K5, hz5⟩ := NN.out
    have p1 := (d1.block _ (lt_heap n1) (by omega)).trans n1
    have p2 := (d1.block _ (lt_heap n2) (by omega)).trans n2
    have p4 := (d1.block _ (lt_heap n4) (by omega)).trans n4
    have K6 : Kp (fun _ => False) w w6 := K5.and d1 (fun i hi e => by omega)
    have hs56 := d1.size
    have g6 : Rep w6 (fun b => w3.heap.size ≤ b ∧ b < w4.heap.size) j (.iface tt u) := Rep.frame (fun k hk => d1.block k (by omega) (by omega)) j g3'
    have D3 : Hid (rest s k6 = sk r) := by rw [HP.out.2.1] at d3; exact d3
    clear ca fa cb fb cp fp n1 n2 n4 g3' S5 K5 hw5 d3 NN
    obtain ⟨ca, fa⟩ := one_cells p1
    obtain ⟨cb, fb⟩ := one_cells p2
    obtain ⟨cp, fp⟩ := one_cells p4
    have PP := hide (And.intro p1 (And.intro p2 (And.intro p4 g6)))
    clear p1 p2 p4 g6
    obtain ⟨c0, c1, c2, f1, f2, hb⟩ := S6.rdr.facts
    have hle := S6.le
    by_cases hlt : k6 < s.size
    · have hlt' : (k6 : Int) < (s.size : Int) := by omega
      have hpn : parse s.data.toList = none := by
        rw [HP.out.2.2, pTop, HP.out.1]
        have : sk r ≠ [] := by rw [← D3.out, rest_cons hlt]; simp
        simp [this]
      have HN := hide hpn
      clear hpn
      obtain ⟨cbe, hg, he⟩ := S6.err 11 (by decide) (by decide)
      go_wp2_with fail
      go_quiet (fail)
      go_wp2_with (go_at_call 132; refine (fault_c w2.heap.size s k6 0 _ (S6.drewN _).rdr _ _).mono ?_; rintro e w' ⟨rfl, rfl⟩)
      have hz6 := lt_heap PP.out.2.2.1
      exact par_caught W w _ _ (w2.heap.size + 1) _ w6.heap.size _ _ _ HN.out rfl rfl (one_cells ((Below.heap_alloc (w6.drewN nq) _ _ (lt_heap PP.out.2.2.1)).trans PP.out.2.2.1)).1 ((Below.heap_alloc (w6.drewN nq) _ _ (lt_heap PP.out.1)).trans PP.out.1) ((Below.heap_alloc (w6.drewN nq) _ _ (lt_heap PP.out.2.1)).trans PP.out.2.1) ((K6.drewN nq).alloc _) ⟨_, _, cbe, heap_alloc_new (w6.drewN nq) _, he⟩ (by omega)
    · have hlt' : (s.size : Int) ≤ (k6 : Int) := by omega
      have hps : parse s.data.toList = some j := by
        rw [HP.out.2.2, pTop, HP.out.1]
        have : sk r = [] := by rw [← D3.out, rest_nil (by omega)]
        simp [this]
      have HN := hide hps
      clear hps
      go_wp2_with fail
      go_quiet (fail)
      go_wp2
      refine leaves_cons (f := 128) (args := #[.pointer (some ⟨w2.heap.size + 1, 0, none⟩), .pointer (some ⟨w.heap.size, 0, none⟩), .pointer (some ⟨w.heap.size + 1, 0, none⟩)]) (by simp) (by simp [go_sem]) ?_
      refine (catch_idle _ _ _ _).mono ?_
      rintro e u' w'' ⟨rfl, rfl, rfl⟩
      obtain ⟨e1, e2, e3⟩ := par_end (w2 := w6.drewN nq) (by omega) PP.out.1 PP.out.2.1 (.iface tt u) .nilIface
      show Leaves _ _ _ _ [] (settle _) _
      simp only [settle]
      refine ⟨_, par_results _ rfl rfl (one_cells e1).1 (one_cells e2).1, ?_⟩
      refine ⟨Kp.setCell (p := ⟨w.heap.size + 1, 0, none⟩) (Kp.setCell (p := ⟨w.heap.size, 0, none⟩) (K6.drewN nq) (fun h => by exact absurd h (by show ¬ w.heap.size < _; omega)) _) (fun h => by exact absurd h (by show ¬ w.heap.size + 1 < _; omega)) _, Or.inl ⟨j, _, HN.out, rfl, ?_⟩⟩
      have hz9 : (((w6.drewN nq).setCell ⟨w.heap.size, 0, none⟩ (.iface tt u)).setCell ⟨w.heap.size + 1, 0, none⟩ .nilIface).heap.size = w6.heap.size := by simp [World.setCell]
      have g9 : Rep (((w6.drewN nq).setCell ⟨w.heap.size, 0, none⟩ (.iface tt u)).setCell ⟨w.heap.size + 1, 0, none⟩ .nilIface) (fun b => w3.heap.size ≤ b ∧ b < w4.heap.size) j (.iface tt u) := by
        refine Rep.frame (w := w6) ?_ j PP.out.2.2.2
        intro k hk
        exact e3 k (by omega) (by omega)
      refine Rep.mono ?_ j g9
      intro k hk
      rw [hz9]
      omega

theorem parse_c (W : World) (hG : GL W) (s : ByteArray) (hs : s.size ≤ 600) (w : World) (ho : Below W.heap.size W w) :
    Calls Tryz.prog 88 #[.string s] w fun e w' => ParR W w s.data.toList e w' := by
  cases hv : Lib.validD s.data.toList with
  | true => exact parse_good W hG s hs w ho hv
  | false => exact parse_bad W hG s hs w ho hv
end Go.Proofs.YtocligpfmfmihabGreatDoor

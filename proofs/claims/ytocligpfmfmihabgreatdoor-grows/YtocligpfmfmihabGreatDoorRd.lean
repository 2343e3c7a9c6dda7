import Derived.Test.YtocligpfmfmihabGreatDoorProg
import Derived.WalkKit
import Derived.WalkSpells
import Derived.WalkLawsBesides
import Derived.Below
import Derived.Deep.QuietTactic
import Derived.BigQuiet
import Derived.Deep.LoopGhost
import Derived.Test.YtocligpfmfmihabGreatDoorJson
namespace Go.Proofs.YtocligpfmfmihabGreatDoor
open Go Go.RowKit

theorem hide {p : Prop} (h : p) : Hid p := h

/-- All blocks of w but those of S are as they were. -/
structure Kp (S : Nat → Prop) (w w' : World) : Prop where
  os : w'.os = w.os
  tape : w'.tape = w.tape
  output : w'.output = w.output
  size : w.heap.size ≤ w'.heap.size
  block : ∀ k, k < w.heap.size → ¬ S k → w'.heap[k]? = w.heap[k]?

variable {S : Nat → Prop} {a b c w w' : World}
theorem Kp.refl (S : Nat → Prop) (w : World) : Kp S w w := ⟨rfl, rfl, rfl, Nat.le_refl _, fun _ _ _ => rfl⟩
theorem Kp.trans (h : Kp S a b) (k : Kp S b c) : Kp S a c :=
  ⟨k.os.trans h.os, k.tape.trans h.tape, k.output.trans h.output, Nat.le_trans h.size k.size, fun i hi hs => (k.block i (Nat.lt_of_lt_of_le hi h.size) hs).trans (h.block i hi hs)⟩
theorem Kp.mono {T : Nat → Prop} (h : Kp S a b) (hT : ∀ k, k < a.heap.size → S k → T k) : Kp T a b :=
  ⟨h.os, h.tape, h.output, h.size, fun i hi hs => h.block i hi (fun x => hs (hT i hi x))⟩
theorem Kp.drewN (h : Kp S a w) (n : Nat) : Kp S a (w.drewN n) := h.trans ⟨rfl, rfl, rfl, Nat.le_refl _, fun _ _ _ => rfl⟩
theorem Kp.drew (h : Kp S a w) : Kp S a w.drew := ⟨h.os, h.tape, h.output, h.size, h.block⟩
theorem Kp.alloc (h : Kp S a w) (o : Obj) : Kp S a (w.alloc o) :=
  h.trans ⟨rfl, rfl, rfl, by simp, fun _ hk _ => Below.heap_alloc _ _ _ hk⟩
theorem Kp.setCell (h : Kp S a w) {p : Addr} (hp : p.block < a.heap.size → S p.block) (u : Value) : Kp S a (w.setCell p u) :=
  ⟨h.os, h.tape, h.output, by simpa [World.setCell] using h.size, fun k hk hs => by
    rw [Below.heap_setCell _ _ _ _ (by rintro rfl; exact hs (hp hk))]; exact h.block k hk hs⟩
theorem Kp.cell (h : Kp S w w') {p : Addr} (hp : p.block < w.heap.size) (hs : ¬ S p.block) : w'.cell? p = w.cell? p := World.cell?_of_block (w := w) (h.block p.block hp hs)
theorem Kp.frozen (h : Kp S w w') {p : Addr} (hp : p.block < w.heap.size) (hs : ¬ S p.block) : w'.frozen? p = w.frozen? p := World.frozen?_of_block (w := w) (h.block p.block hp hs)

/-- The program's reader. -/
def Rdr (w : World) (rb : Nat) (s : ByteArray) (k d : Nat) : Prop :=
  w.heap[rb]? = some (.cells #[.string s, .int .i64 k, .int .i64 d] 260)

theorem Rdr.facts {rb k d : Nat} {s : ByteArray} (h : Rdr w rb s k d) :
    w.cell? ⟨rb, 0, none⟩ = some (.string s) ∧ w.cell? ⟨rb, 1, none⟩ = some (.int .i64 k) ∧ w.cell? ⟨rb, 2, none⟩ = some (.int .i64 d) ∧
    w.frozen? ⟨rb, 1, none⟩ = false ∧ w.frozen? ⟨rb, 2, none⟩ = false ∧ rb < w.heap.size := by
  unfold Rdr at h
  have hb : rb < w.heap.size := by
    rcases Nat.lt_or_ge rb w.heap.size with h' | h'
    · exact h'
    · rw [Array.getElem?_eq_none h'] at h; cases h
  refine ⟨?_, ?_, ?_, ?_, ?_, hb⟩ <;> simp [World.cell?, World.frozen?, h]


theorem Rdr.setAt {rb k d : Nat} {s : ByteArray} (h : Rdr w rb s k d) (k' : Nat) : Rdr (w.setCell ⟨rb, 1, none⟩ (.int .i64 k')) rb s k' d := by
  unfold Rdr at *
  simp [World.setCell, Array.getElem?_modify, h]
theorem Rdr.setDepth {rb k d : Nat} {s : ByteArray} (h : Rdr w rb s k d) (d' : Nat) : Rdr (w.setCell ⟨rb, 2, none⟩ (.int .i64 d')) rb s k d' := by
  unfold Rdr at *
  simp [World.setCell, Array.getElem?_modify, h]
theorem Rdr.kp {rb k d : Nat} {s : ByteArray} (h : Rdr w rb s k d) (hk : Kp S w w') (hs : ¬ S rb) : Rdr w' rb s k d := by
  have hb := h.facts.2.2.2.2.2
  unfold Rdr at *
  rw [hk.block rb hb hs, h]

/-- An error of the program's own. -/
def errV (cb : Addr) : Value := .iface 350 (.pointer (some cb))

/-- An error of package value, held by the variable g, and none of package notary's. -/
def Errs (W : World) (g : Nat) (cb : Addr) : Prop :=
  W.cell? ⟨g, 0, none⟩ = some (errV cb) ∧ cb.block < W.heap.size ∧ ∀ h ∈ [3, 4, 5, 1], W.cell? ⟨h, 0, none⟩ ≠ some (errV cb) ∧ ∃ c t, W.heap[cb.block]? = some (.cells c t)

/-- The variables of package value hold errors; those of package notary none of these. -/
structure Glob (W : World) : Prop where
  sz : 31 ≤ W.heap.size
  val : ∀ g ∈ [20, 25, 26, 27, 21, 15, 22, 11, 19, 28, 18, 8],
    ∃ cb, Errs W g cb

/-- The state of the reading: what was there at first is as it was; the reader stands at k. -/
structure St (W w : World) (rb : Nat) (s : ByteArray) (k d : Nat) : Prop where
  glob : Glob W
  old : Below W.heap.size W w
  rdr : Rdr w rb s k d
  ge : W.heap.size ≤ rb
  le : k ≤ s.size
  sz : s.size ≤ 600

/-- A *Fault was thrown. -/
def Thrown (W w w' : World) (e : Ending) : Prop :=
  ∃ (fb : Nat) (k : Int) (g : Nat) (cb : Addr), e = .panicked [{ v := .iface 130 (.pointer (some ⟨fb, 0, none⟩)), recovered := false }] ∧ w.heap.size ≤ fb ∧
    w'.heap[fb]? = some (.cells #[.int .i64 k, errV cb] 228) ∧ Errs W g cb

def rest (s : ByteArray) (k : Nat) : List UInt8 := s.data.toList.drop k

/-- What a part of the reading comes to: o is the plain answer. -/
def Res {α : Type} (W : World) (rb : Nat) (s : ByteArray) (d : Nat) (w : World) (o : Option (α × List UInt8)) (V : World → α → Value → Prop) (e : Ending) (w' : World) : Prop :=
  Kp (· = rb) w w' ∧ match o with
  | some (x, r) => ∃ v k', e = .returned v ∧ V w' x v ∧ St W w' rb s k' d ∧ rest s k' = r
  | none => Thrown W w w' e

theorem res_some {α : Type} {W : World} {rb : Nat} {s : ByteArray} {d k' : Nat} {o : Option (α × List UInt8)} {V : World → α → Value → Prop} {x : α} {r : List UInt8} {v : Value}
    (h : o = some (x, r)) (hk : Kp (· = rb) w w') (hv : V w' x v) (hs : St W w' rb s k' d) (hr : rest s k' = r) : Res W rb s d w o V (.returned v) w' := by
  subst h; exact ⟨hk, v, k', rfl, hv, hs, hr⟩
theorem res_none {α : Type} {W : World} {rb : Nat} {s : ByteArray} {d : Nat} {o : Option (α × List UInt8)} {V : World → α → Value → Prop} {e : Ending}
    (h : o = none) (hk : Kp (· = rb) w w' ∧ Thrown W w w' e) : Res W rb s d w o V e w' := by
  subst h; exact hk
theorem St.next {W : World} {rb k d k' d' : Nat} {s : ByteArray} (h : St W w rb s k d) (hk : Kp (· = rb) w w') (hr : Rdr w' rb s k' d') (hle : k' ≤ s.size) : St W w' rb s k' d' :=
  ⟨h.glob, h.old.trans ⟨hk.os, hk.tape, hk.output, hk.size, fun i hi => hk.block i (Nat.lt_of_lt_of_le hi h.old.size) (by have := h.ge; omega)⟩, hr, h.ge, hle, h.sz⟩
theorem St.drewN {W : World} {rb k d : Nat} {s : ByteArray} (h : St W w rb s k d) (n : Nat) : St W (w.drewN n) rb s k d :=
  h.next ((Kp.refl _ _).drewN n) h.rdr h.le
theorem St.at {W : World} {rb k d : Nat} {s : ByteArray} (h : St W w rb s k d) (k' : Nat) (hle : k' ≤ s.size) : St W (w.setCell ⟨rb, 1, none⟩ (.int .i64 k')) rb s k' d :=
  h.next (Kp.setCell (p := ⟨rb, _, none⟩) (Kp.refl (· = rb) w) (fun _ => rfl) _) (h.rdr.setAt k') hle
theorem St.dep {W : World} {rb k d : Nat} {s : ByteArray} (h : St W w rb s k d) (d' : Nat) : St W (w.setCell ⟨rb, 2, none⟩ (.int .i64 d')) rb s k d' :=
  h.next (Kp.setCell (p := ⟨rb, _, none⟩) (Kp.refl (· = rb) w) (fun _ => rfl) _) (h.rdr.setDepth d') h.le
theorem St.err {W : World} {rb k d : Nat} {s : ByteArray} (h : St W w rb s k d) (g : Nat) (hm : g ∈ [20, 25, 26, 27, 21, 15, 22, 11, 19, 28, 18, 8]) (hg : g < 31) :
    ∃ cb, w.cell? ⟨g, 0, none⟩ = some (.iface 350 (.pointer (some cb))) ∧ Errs W g cb := by
  obtain ⟨cb, h1⟩ := h.glob.val g hm
  exact ⟨cb, (h.old.cell (p := ⟨g, 0, none⟩) (by have := h.glob.sz; show g < _; omega)).trans h1.1, h1⟩
theorem thrown_new {W w1 : World} {rb g : Nat} {cb : Addr} {k : Int} (hk : Kp (· = rb) w w1) (he : Errs W g cb) :
    Kp (· = rb) w (w1.alloc (.cells #[.int .i64 k, .iface 350 (.pointer (some cb))] 228)) ∧
    Thrown W w (w1.alloc (.cells #[.int .i64 k, .iface 350 (.pointer (some cb))] 228)) (.panicked [{ v := .iface 130 (.pointer (some ⟨w1.heap.size, 0, none⟩)), recovered := false }]) :=
  ⟨hk.alloc _, w1.heap.size, k, g, cb, rfl, hk.size, by show (w1.heap.push _)[w1.heap.size]? = _; simp [errV], he⟩

theorem rest_cons {s : ByteArray} {k : Nat} (h : k < s.size) : rest s k = s[k] :: rest s (k + 1) := by
  unfold rest
  rw [List.drop_eq_getElem_cons (by simpa using h)]; rfl
theorem rest_nil {s : ByteArray} {k : Nat} (h : s.size ≤ k) : rest s k = [] := by
  unfold rest; exact List.drop_of_length_le (by simpa using h)

theorem fault_c (rb : Nat) (s : ByteArray) (k d : Nat) (w : World) (hr : Rdr w rb s k d) (t : TypeId) (c : Value) :
    Calls Tryz.prog 132 #[.pointer (some ⟨rb, 0, none⟩), .iface t c] w fun e w' =>
      e = .returned (.pointer (some ⟨w.heap.size, 0, none⟩)) ∧ w.alloc (.cells #[.int .i64 k, .iface t c] 228) = w' := by
  obtain ⟨c0, c1, c2, f1, f2, hb⟩ := hr.facts
  go_enter Tryz.func132, Tryz.ntmps132
  go_wp2
  go_ret
  exact ⟨rfl, rfl⟩

theorem next_some (W : World) (rb : Nat) (s : ByteArray) (k d : Nat) (w : World) (hr : St W w rb s k d) (hk : k < s.size) :
    Calls Tryz.prog 159 #[.pointer (some ⟨rb, 0, none⟩)] w fun e w' =>
      e = .returned (.int .u8 s[k].toNat) ∧ ∃ n, w' = w.drewN n := by
  obtain ⟨c0, c1, c2, f1, f2, hb⟩ := hr.rdr.facts
  have hsz := hr.sz
  have hne : ((k : Int) == (s.size : Int)) = false := by simp; omega
  go_enter Tryz.func159, Tryz.ntmps159
  go_wp2
  go_quiet (fail)
  go_wp2
  go_quiet (fail)
  go_wp2
  go_ret
  simp only [World.drewN_drewN]
  exact ⟨rfl, _, rfl⟩
theorem next_none (W : World) (rb : Nat) (s : ByteArray) (k d : Nat) (w : World) (hr : St W w rb s k d) (hk : k = s.size) :
    Calls Tryz.prog 159 #[.pointer (some ⟨rb, 0, none⟩)] w fun e w' =>
      e = .returned (.int .u8 0) ∧ ∃ n, w' = w.drewN n := by
  obtain ⟨c0, c1, c2, f1, f2, hb⟩ := hr.rdr.facts
  have hsz := hr.sz
  have hne : ((k : Int) == (s.size : Int)) = true := by simp; omega
  clear hk
  go_enter Tryz.func159, Tryz.ntmps159
  go_wp2
  go_quiet (fail)
  go_wp2
  go_ret
  exact ⟨rfl, _, rfl⟩
/-- The byte that comes; 0 at the end. -/
def nxt (l : List UInt8) : UInt8 := l.headD 0
theorem next_c (W : World) (rb : Nat) (s : ByteArray) (k d : Nat) (w : World) (hr : St W w rb s k d) :
    Calls Tryz.prog 159 #[.pointer (some ⟨rb, 0, none⟩)] w fun e w' =>
      e = .returned (.int .u8 (nxt (rest s k)).toNat) ∧ ∃ n, w.drewN n = w' := by
  by_cases hk : k < s.size
  · rw [rest_cons hk]
    exact (next_some W rb s k d w hr hk).mono (by rintro e w' ⟨rfl, n, rfl⟩; exact ⟨rfl, n, rfl⟩)
  · rw [rest_nil (by omega)]
    exact (next_none W rb s k d w hr (by have := hr.le; omega)).mono (by rintro e w' ⟨rfl, n, rfl⟩; exact ⟨rfl, n, rfl⟩)

theorem pop_some (W : World) (rb : Nat) (s : ByteArray) (k d : Nat) (w : World) (hr : St W w rb s k d) (hk : k < s.size) :
    Calls Tryz.prog 182 #[.pointer (some ⟨rb, 0, none⟩)] w fun e w' =>
      e = .returned (.int .u8 s[k].toNat) ∧ St W w' rb s (k + 1) d ∧ Kp (· = rb) w w' := by
  obtain ⟨c0, c1, c2, f1, f2, hb⟩ := hr.rdr.facts
  have hsz := hr.sz
  have hne : ((k : Int) == (s.size : Int)) = false := by simp; omega
  go_enter Tryz.func182, Tryz.ntmps182
  go_wp2
  go_quiet (fail)
  go_wp2
  go_quiet (fail)
  go_wp2
  go_ret
  exact ⟨rfl, (hr.drewN _).at (k + 1) hk, Kp.setCell (p := ⟨rb, 1, none⟩) ((Kp.refl (· = rb) _).drewN _) (fun _ => rfl) _⟩

theorem pop_none (W : World) (rb : Nat) (s : ByteArray) (k d : Nat) (w : World) (hr : St W w rb s k d) (hk : k = s.size) :
    Calls Tryz.prog 182 #[.pointer (some ⟨rb, 0, none⟩)] w fun e w' => Kp (· = rb) w w' ∧ Thrown W w w' e := by
  obtain ⟨c0, c1, c2, f1, f2, hb⟩ := hr.rdr.facts
  have hsz := hr.sz
  obtain ⟨cb, hg, he⟩ := hr.err 26 (by decide) (by decide)
  have hne : ((k : Int) == (s.size : Int)) = true := by simp; omega
  clear hk
  go_enter Tryz.func182, Tryz.ntmps182
  go_wp2
  go_quiet (fail)
  go_wp2_with (go_at_call 132; refine (fault_c rb s k d _ (hr.drewN _).rdr _ _).mono ?_; rintro e w' ⟨rfl, rfl⟩)
  exact ⟨rfl, thrown_new ((Kp.refl _ _).drewN _) he⟩
theorem u8b (c d : UInt8) : ((c.toNat : Int) == (d.toNat : Int)) = (c == d) := by
  rw [Bool.eq_iff_iff]; simp [← UInt8.toNat_inj]; omega
theorem isBl_eq (c : UInt8) : isBl c = (((c.toNat : Int) == 32) || ((c.toNat : Int) == 9) || ((c.toNat : Int) == 10) || ((c.toNat : Int) == 13)) := by
  have h1 := u8b c 32
  have h2 := u8b c 9
  have h3 := u8b c 10
  have h4 := u8b c 13
  unfold isBl
  rw [← h1, ← h2, ← h3, ← h4]; rfl
theorem bl_step {s : ByteArray} {k : Nat} {c : UInt8} (h : nxt (rest s k) = c) (hb : isBl c = true) : k < s.size ∧ sk (rest s (k + 1)) = sk (rest s k) := by
  by_cases hk : k < s.size
  · refine ⟨hk, ?_⟩
    rw [rest_cons hk] at h ⊢
    simp only [nxt, List.headD_cons] at h
    simp [sk, h, hb]
  · rw [rest_nil (by omega)] at h
    subst h
    exact absurd hb (by decide)
theorem bl_stop {s : ByteArray} {k : Nat} {c : UInt8} (h : nxt (rest s k) = c) (hb : isBl c = false) : rest s k = sk (rest s k) := by
  by_cases hk : k < s.size
  · rw [rest_cons hk] at h ⊢
    simp only [nxt, List.headD_cons] at h
    simp [sk, h, hb]
  · rw [rest_nil (by omega)]; rfl
theorem nxt_cons {s : ByteArray} {k : Nat} {c : UInt8} {t : List UInt8} (h : rest s k = c :: t) : k < s.size ∧ nxt (rest s k) = c ∧ rest s (k + 1) = t ∧ ∀ hk : k < s.size, s[k] = c := by
  by_cases hk : k < s.size
  · rw [rest_cons hk] at h
    injection h with h1 h2
    exact ⟨hk, by rw [rest_cons hk]; exact h1, h2, fun _ => h1⟩
  · rw [rest_nil (by omega)] at h; cases h
theorem sk_sk (l : List UInt8) : sk (sk l) = sk l := by
  unfold sk
  induction l with
  | nil => rfl
  | cons a l ih =>
    by_cases h : isBl a = true
    · simpa [List.dropWhile_cons, h] using ih
    · simp [h]

theorem blanks_c (W : World) (rb : Nat) (s : ByteArray) (k d : Nat) (w : World) (hr : St W w rb s k d) :
    Calls Tryz.prog 131 #[.pointer (some ⟨rb, 0, none⟩)] w fun e w' =>
      e = .returned (.tuple #[]) ∧ Kp (· = rb) w w' ∧ ∃ k', St W w' rb s k' d ∧ rest s k' = sk (rest s k) := by
  have hsz := hr.sz
  go_enter Tryz.func131, Tryz.ntmps131
  go_wp2
  go_loopg [] (s.size - k) (fun g wr => ∃ k', g = s.size - k' ∧ St W wr rb s k' d ∧ Kp (· = rb) w wr ∧ sk (rest s k') = sk (rest s k))
  case atStart => exact ⟨k, rfl, hr, Kp.refl _ _, rfl⟩
  case round =>
    obtain ⟨k', hg, h1, h2, h3⟩ := hrel
    have A := hide (And.intro hg h3)
    clear hg h3
    have hle := h1.le
    obtain ⟨c0, c1, c2, f1, f2, hb⟩ := h1.rdr.facts
    generalize hc : nxt (rest s k') = c
    have HC := hide hc
    clear hc
    have HB := hide (isBl_eq c)
    go_wp2_with (go_at_call 159; refine (next_c W rb s k' d _ h1).mono ?_; rintro e w' ⟨rfl, n, rfl⟩; rw [HC.out])
    iterate 4
      · have hbl : isBl c = true := by rw [HB.out]; simp [*]
        obtain ⟨g1, g2⟩ := bl_step HC.out hbl
        go_roundg (s.size - (k' + 1))
        case measure => rw [A.out.1]; omega
        case rel => exact ⟨k' + 1, rfl, (h1.drewN _).at (k' + 1) g1, Kp.setCell (p := ⟨rb, 1, none⟩) (h2.drewN _) (fun _ => rfl) _, g2.trans A.out.2⟩
    · have hbl : isBl c = false := by rw [HB.out]; simp [*]
      refine bodyPost_ret (results_none rfl _ _ _) rfl ?_
      exact ⟨rfl, h2.drewN _, k', h1.drewN _, (bl_stop HC.out hbl).trans A.out.2⟩

theorem take_yes (W : World) (rb : Nat) (s : ByteArray) (k d : Nat) (w : World) (hr : St W w rb s k d) (q : Int) (b : UInt8) (hq : q = b.toNat) (t : List UInt8) (ht : sk (rest s k) = b :: t) :
    Calls Tryz.prog 185 #[.pointer (some ⟨rb, 0, none⟩), .int .u8 q] w fun e w' =>
      e = .returned (.bool true) ∧ Kp (· = rb) w w' ∧ ∃ k', St W w' rb s k' d ∧ rest s k' = t := by
  have hsz := hr.sz
  have HT := hide ht
  have HQ := hide hq
  clear ht hq
  go_enter Tryz.func185, Tryz.ntmps185
  go_wp2_with fail
  refine (blanks_c W rb s k d _ hr).mono ?_
  rintro e w1 ⟨rfl, h1, k1, h2, h3⟩
  obtain ⟨g1, g2, g3, _⟩ := nxt_cons (h3.trans HT.out)
  have H := hide (And.intro h3 (And.intro g2 g3))
  clear h3 g2 g3
  have hle := h2.le
  obtain ⟨c0, c1, c2, f1, f2, hb⟩ := h2.rdr.facts
  have hb : (((b.toNat : Int)) != q) = false := by rw [HQ.out]; simp
  go_wp2_with fail
  refine (next_c W rb s k1 d _ h2).mono ?_
  rintro e w2 ⟨rfl, n, rfl⟩
  rw [H.out.2.1]
  go_wp2
  go_ret
  exact ⟨rfl, Kp.setCell (p := ⟨rb, 1, none⟩) (h1.drewN _) (fun _ => rfl) _, k1 + 1, (h2.drewN _).at _ g1, H.out.2.2⟩
theorem take_no (W : World) (rb : Nat) (s : ByteArray) (k d : Nat) (w : World) (hr : St W w rb s k d) (q : Int) (b : UInt8) (hq : q = b.toNat) (h0 : b ≠ 0) (ht : (sk (rest s k)).head? ≠ some b) :
    Calls Tryz.prog 185 #[.pointer (some ⟨rb, 0, none⟩), .int .u8 q] w fun e w' =>
      e = .returned (.bool false) ∧ Kp (· = rb) w w' ∧ ∃ k', St W w' rb s k' d ∧ rest s k' = sk (rest s k) := by
  have hsz := hr.sz
  have HT := hide ht
  have HQ := hide hq
  clear ht hq
  go_enter Tryz.func185, Tryz.ntmps185
  go_wp2_with fail
  refine (blanks_c W rb s k d _ hr).mono ?_
  rintro e w1 ⟨rfl, h1, k1, h2, h3⟩
  have hne : nxt (rest s k1) ≠ b := by
    rw [h3]
    intro e
    have := HT.out
    generalize sk (rest s k) = l at e this
    cases l with
    | nil => exact h0 e.symm
    | cons a l => exact this (by simpa [nxt] using e)
  generalize hc : nxt (rest s k1) = c at hne
  have H := hide (And.intro h3 (And.intro hc hne))
  have hb : (((c.toNat : Int)) != q) = true := by
    rw [HQ.out, bne_iff_ne]
    intro e
    exact hne (UInt8.toNat_inj.1 (by omega))
  clear h3 hc hne
  have hle := h2.le
  obtain ⟨c0, c1, c2, f1, f2, hb⟩ := h2.rdr.facts
  go_wp2_with fail
  refine (next_c W rb s k1 d _ h2).mono ?_
  rintro e w2 ⟨rfl, n, rfl⟩
  rw [H.out.2.1]
  go_wp2
  go_ret
  exact ⟨rfl, h1.drewN _, k1, h2.drewN _, H.out.1⟩
theorem need_yes (W : World) (rb : Nat) (s : ByteArray) (k d : Nat) (w : World) (hr : St W w rb s k d) (q : Int) (b : UInt8) (hq : q = b.toNat) (t : List UInt8) (ht : sk (rest s k) = b :: t) :
    Calls Tryz.prog 180 #[.pointer (some ⟨rb, 0, none⟩), .int .u8 q] w fun e w' =>
      e = .returned (.tuple #[]) ∧ Kp (· = rb) w w' ∧ ∃ k', St W w' rb s k' d ∧ rest s k' = t := by
  have HQ := hide hq
  clear hq
  go_enter Tryz.func180, Tryz.ntmps180
  go_wp2_with fail
  refine (take_yes W rb s k d _ hr q b HQ.out t ht).mono ?_
  rintro e w1 ⟨rfl, h1, k1, h2, h3⟩
  have H := hide h3
  clear h3
  go_wp2
  go_end0
  exact ⟨rfl, h1, k1, h2, H.out⟩
theorem need_no (W : World) (rb : Nat) (s : ByteArray) (k d : Nat) (w : World) (hr : St W w rb s k d) (q : Int) (b : UInt8) (hq : q = b.toNat) (h0 : b ≠ 0) (ht : (sk (rest s k)).head? ≠ some b) :
    Calls Tryz.prog 180 #[.pointer (some ⟨rb, 0, none⟩), .int .u8 q] w fun e w' => Kp (· = rb) w w' ∧ Thrown W w w' e := by
  have HQ := hide hq
  clear hq
  go_enter Tryz.func180, Tryz.ntmps180
  go_wp2_with fail
  refine (take_no W rb s k d _ hr q b HQ.out h0 ht).mono ?_
  rintro e w1 ⟨rfl, h1, k1, h2, h3⟩
  have H := hide h3
  clear h3
  obtain ⟨cb, hg, he⟩ := h2.err 19 (by decide) (by decide)
  go_wp2_with (go_at_call 132; refine (fault_c rb s k1 d _ h2.rdr _ _).mono ?_; rintro e w' ⟨rfl, rfl⟩)
  exact ⟨rfl, thrown_new h1 he⟩
end Go.Proofs.YtocligpfmfmihabGreatDoor

import Derived.Test.YtocligpfmfmihabGreatDoorIterG
namespace Go.Proofs.YtocligpfmfmihabGreatDoor
open Go Go.RowKit Go.Maps Go.WideMaps Go.Sort Go.Shelf
attribute [local go_sem] Oper.semAt_some

theorem members_c (b : Nat) (w : World) : Calls Tryz.prog 118 #[.map (some b)] w fun e w' =>
    e = .returned (.func (.func 148) #[] #[.pointer (some ⟨w.heap.size, 0, none⟩)]) ∧ w.alloc (.cells #[.map (some b)] 76) = w' := by
  have hmf : ∀ (fn : Fn) (first cap : Array Value) (w : World), (Instr.makeFunc fn first cap).run Tryz.prog w = .ok (.func fn first cap) w := fun _ _ _ _ => rfl
  go_enter Tryz.func118, Tryz.ntmps118
  go_wp2
  go_ret
  exact ⟨rfl, rfl⟩

/-- The variable's block behind the append. -/
theorem ob_after {B : Nat} {w w1 : World} {v : Value} {o : List UInt8} {x : Obj} {t : TypeId} {u : Value} (hr : Row B w v o) (y2 : ((w.alloc (.cells #[u] t)).alloc x).grownBy w1 v.ownBlock) : w1.heap[w.heap.size]? = some (.cells #[u] t) := by
  have h := (two_new w (.cells #[u] t) x).1
  rw [y2.block w.heap.size (lt_heap h) (by intro e; have := (hr.lt _ e.symm).2; omega)]
  exact h
theorem cells_at (w : World) (n : Nat) (hn : w.heap.size = n) (l : List Value) (t : TypeId) : ∀ (j : Nat) (u : Value), l[j]? = some u → (w.alloc (.cells l.toArray t)).cell? ((⟨n, 0, none⟩ : Addr).add j) = some u := by
  subst hn; exact cells_new w l t

theorem row_ne_cell {B k : Nat} {X : World} {v : Value} {o : List UInt8} {c : Array Value} {t : TypeId} {fz : Nat × Nat} (hr : Row B X v o) (h : X.heap[k]? = some (.cells c t fz)) (ht : t ≠ 5) : v.ownBlock ≠ some k := by
  intro e
  obtain ⟨_, ⟨rfl, _⟩ | ⟨g, cap, cur, rfl, _, hh, _⟩⟩ := hr
  · cases e
  · injection e with e
    subst e
    rw [h] at hh
    injection hh with hh
    injection hh with _ h2 _
    exact ht h2
/-- In the midst of a round. -/
structure Bd (B : Nat) (w X0 : World) (n0 ob fb : Nat) (X : World) (vv rv : Value) (o1 : List UInt8) (fl : Bool) : Prop where
  cob : X.heap[ob]? = some (.cells #[vv] 95)
  cfb : X.heap[fb]? = some (.cells #[.bool fl] 4)
  row : Row B X rv o1
  wx : Wr B w X
  ko : KeepsOthers X0 X
  kp : KpM n0 ob fb X0 X
  lo : w.heap.size ≤ ob ∧ w.heap.size ≤ fb ∧ B ≤ w.heap.size ∧ ob ≠ fb
variable {B : Nat} {w X0 X X2 : World} {n0 ob fb : Nat} {vv rv rv2 : Value} {o1 o2 : List UInt8} {fl : Bool}
theorem oth_cells {e : Lib.OthersKept 5 none X X2} {k : Nat} {c : Array Value} {t : TypeId} {fz : Nat × Nat} (h : X.heap[k]? = some (.cells c t fz)) (ht : t ≠ 5) : X2.heap[k]? = some (.cells c t fz) :=
  e k _ h (by simp) (by intro c' fz' e'; injection e' with _ h2 _; exact ht h2)
theorem Bd.step (h : Bd B w X0 n0 ob fb X vv rv o1 fl) (hw : Wr B X X2) (hr : Row B X2 rv2 o2) : Bd B w X0 n0 ob fb X2 vv rv2 o2 fl where
  cob := oth_cells (e := hw.oth) h.cob (by decide)
  cfb := oth_cells (e := hw.oth) h.cfb (by decide)
  row := hr
  wx := h.wx.trans hw
  ko := ⟨Nat.le_trans h.ko.size hw.below.size, fun k o h1 h2 => hw.oth k o (h.ko.same k o h1 h2) (by simp) (by rintro c fz rfl; cases h2)⟩
  kp := by
    refine ⟨Nat.le_trans h.kp.1 hw.below.size, ?_, ?_⟩
    · intro k c t fz h1 h2 h3 h4
      have e := h.kp.2.1 k c t fz h1 h2 h3 h4
      rw [oth_cells (e := hw.oth) (e.trans h1) h2, h1]
    · intro k es cl h0 h1
      have e := h.kp.2.2 k es cl h0 h1
      rw [hw.oth k _ (e.trans h1) (by simp) (by intro c fz; simp), h1]
  lo := h.lo
theorem Bd.put (h : Bd B w X0 n0 ob fb X vv rv o1 fl) (k : Nat) (hk : k = ob ∨ k = fb) (u : Value) (vv' : Value) (fl' : Bool) (h1 : (X.setCell ⟨k, 0, none⟩ u).heap[ob]? = some (.cells #[vv'] 95)) (h2 : (X.setCell ⟨k, 0, none⟩ u).heap[fb]? = some (.cells #[.bool fl'] 4)) : Bd B w X0 n0 ob fb (X.setCell ⟨k, 0, none⟩ u) vv' rv o1 fl' := by
  have hlo := h.lo
  have hkt : ∃ c t, X.heap[k]? = some (.cells c t) ∧ t ≠ 5 := by
    rcases hk with rfl | rfl
    · exact ⟨_, _, h.cob, by decide⟩
    · exact ⟨_, _, h.cfb, by decide⟩
  obtain ⟨c, t, hkc, hkt⟩ := hkt
  have hsz : (X.setCell ⟨k, 0, none⟩ u).heap.size = X.heap.size := by simp [World.setCell]
  refine ⟨h1, h2, h.row.old (fun i hi => heap_set_other (by show i ≠ k; rintro rfl; exact row_ne_cell h.row hkc hkt hi)), ⟨?_, ?_⟩, ⟨by rw [hsz]; exact h.ko.size, ?_⟩, ⟨by rw [hsz]; exact h.kp.1, ?_, ?_⟩, h.lo⟩
  · exact h.wx.below.setCell (p := ⟨k, 0, none⟩) (by show B ≤ k; rcases hk with rfl | rfl <;> omega) u
  · intro i o q1 q2 q3
    rw [heap_set_other (by show i ≠ k; have := lt_heap q1; rcases hk with rfl | rfl <;> omega)]
    exact h.wx.oth i o q1 q2 q3
  · intro i o q1 q2
    have := h.ko.same i o q1 q2
    rw [heap_set_other (by show i ≠ k; rintro rfl; rw [this] at hkc; injection hkc with hkc; subst hkc; cases q2)]
    exact this
  · intro i c' t' fz q1 q2 q3 q4
    rw [heap_set_other (by show i ≠ k; rcases hk with rfl | rfl <;> assumption)]
    exact h.kp.2.1 i c' t' fz q1 q2 q3 q4
  · intro i es cl q0 q1
    have e := h.kp.2.2 i es cl q0 q1
    rw [heap_set_other (by show i ≠ k; rintro rfl; rw [e, q1] at hkc; cases hkc)]
    exact e
theorem Bd.put_ob (h : Bd B w X0 n0 ob fb X vv rv o1 fl) : Bd B w X0 n0 ob fb (X.setCell ⟨ob, 0, none⟩ rv) rv rv o1 fl :=
  h.put ob (Or.inl rfl) rv rv fl (one_set h.cob rv) (by rw [heap_set_other (by show fb ≠ ob; exact Ne.symm h.lo.2.2.2)]; exact h.cfb)
theorem Bd.put_fb (h : Bd B w X0 n0 ob fb X vv rv o1 fl) (fl' : Bool) : Bd B w X0 n0 ob fb (X.setCell ⟨fb, 0, none⟩ (.bool fl')) vv rv o1 fl' :=
  h.put fb (Or.inr rfl) (.bool fl') vv fl' (by rw [heap_set_other (by show ob ≠ fb; exact h.lo.2.2.2)]; exact h.cob) (one_set h.cfb _)

theorem Bd.app {x : Obj} {c : UInt8} (h : Bd B w X0 n0 ob fb X vv rv o1 fl) (y1 : X2.ownsRow B 5 1 rv2 (o1.length + 1) (Lib.byteCells o1 ++ Lib.byteCells [c])) (y2 : (X.alloc x).grownBy X2 rv.ownBlock) : Bd B w X0 n0 ob fb X2 vv rv2 (o1 ++ [c]) fl := by
  have hlo := h.lo
  have := h.wx.below.size
  obtain ⟨z1, z2⟩ := app_bytes (Wr.refl B X) (by omega) h.row y1 y2
  exact h.step z2 z1
theorem Bd.bsz (h : Bd B w X0 n0 ob fb X vv rv o1 fl) : B ≤ X.heap.size := by
  have hlo := h.lo
  have := h.wx.below.size
  omega
theorem Repm.len {w : World} {F : Nat → Prop} {l : List (Bs × J)} {m : List (Bs × Value)} (h : Repm w F l m) : m.length = l.length := by
  have := congrArg List.length (Repm.keys l m h)
  simpa using this
theorem Repm.get {w : World} {F : Nat → Prop} : ∀ (l : List (Bs × J)) (m : List (Bs × Value)) (k : Nat) (hk : k < m.length), Repm w F l m → ∃ p, l[k]? = some p ∧ p ∈ l ∧ m[k].1 = p.1 ∧ Rep w F p.2 m[k].2
  | [], m, k, hk, h => by rw [Repm] at h; subst h; simp at hk
  | (a, y) :: l, m, k, hk, h => by
    rw [Repm] at h
    obtain ⟨u, r, rfl, h1, h2⟩ := h
    cases k with
    | zero => exact ⟨(a, y), rfl, by simp, rfl, h1⟩
    | succ k =>
      obtain ⟨p, q1, q2, q3, q4⟩ := Repm.get l r k (by simpa using hk) h2
      exact ⟨p, by simpa using q1, by simp [q2], q3, q4⟩
/-- The k-th member. -/
def nthM (l : List (Bs × J)) (k : Nat) : Bs × J := (l[k]?).getD ([], .null)
theorem nthM_all (l : List (Bs × J)) (n : Nat) (h : n = l.length) : (List.finRange n).map (fun i => cMem (nthM l i.val)) = l.map cMem := by
  subst h
  refine List.ext_getElem (by simp) ?_
  intro i h1 h2
  simp only [List.getElem_map, List.getElem_finRange]
  congr 1
  unfold nthM
  have : i < l.length := by simpa using h2
  simp [this]
/-- Between the rounds. -/
def Iv (B : Nat) (w : World) (l : List (Bs × J)) (o : List UInt8) (ob fb n : Nat) (pre : List (Fin n)) (X : World) : Prop :=
  ∃ vv, X.heap[ob]? = some (.cells #[vv] 95) ∧ Row B X vv (o ++ 123 :: joinC (pre.map fun i => cMem (nthM l i.val))) ∧ X.heap[fb]? = some (.cells #[.bool pre.isEmpty] 4) ∧ Wr B w X
theorem Iv.own {B : Nat} {w : World} {l : List (Bs × J)} {o : List UInt8} {ob fb n N : Nat} (hN : w.heap.size ≤ N) (hB : B ≤ w.heap.size) : OwnFrom N (Iv B w l o ob fb n) := by
  rintro pre X Y row ⟨vv, h1, h2, h3, h4⟩ hg hr
  have hk : ∀ (k : Nat) (c : Array Value) (t : TypeId) (fz : Nat × Nat), X.heap[k]? = some (.cells c t fz) → Y.heap[k]? = X.heap[k]? := by
    intro k c t fz h
    refine hg.block k (lt_heap h) ?_
    intro e
    obtain ⟨_, o', q1, q2⟩ := hr k e.symm
    rw [h] at q1
    injection q1 with q1
    subst q1
    cases q2
  refine ⟨vv, (hk _ _ _ _ h1).trans h1, h2.old ?_, (hk _ _ _ _ h3).trans h3, ⟨h4.below.grown hg (Nat.le_trans hB h4.below.size) (fun k e => by have := (hr k e).1; omega), ?_⟩⟩
  · intro k e
    obtain ⟨_, ⟨rfl, _⟩ | ⟨g, cap, cur, rfl, _, hh, _⟩⟩ := h2
    · cases e
    · injection e with e
      subst e
      exact hk _ _ _ _ hh
  · intro i x q1 q2 q3
    have := h4.oth i x q1 q2 q3
    rw [hg.block i (lt_heap this) (by intro e; have := (hr i e.symm).1; have := lt_heap q1; omega)]
    exact this

set_option maxRecDepth 20000 in
set_option maxHeartbeats 2000000 in
theorem appendObject_c (W : World) (l : List (Bs × J)) (hl : ∀ p ∈ l, AppC W p.2) (hsl : Srt l) (hll : l.length ≤ 1000000) : ObjC W l := by
  intro B w v o F b m M hW hWB hr hB hown hrep hM hlim
  obtain ⟨i0, hi, hz0, hz1, hz2⟩ := info_parts info8
  obtain ⟨sa, cap, g, cur, rfl, hsa⟩ := slice_shape hr
  clear hsa
  have hlo : o.length + 2 ≤ 139000000000000 := by
    have : (cntm l + 1) * (M + 2) ≥ 1 * 2 := Nat.mul_le_mul (by omega) (by omega)
    omega
  refine (callsIn_wide (n := 8)).1 ?_
  refine callsIn_of_wp_marks Tryz.func87 rfl trivial ?_ rfl
  simp only [Tryz.ntmps87, List.size_toArray, List.length_cons, List.length_nil, Nat.reduceAdd, Nat.reduceSub, Array.replicate_succ, Array.replicate_zero, List.push_toArray, List.append_toArray, List.nil_append, List.cons_append]
  have hfM : Fence.wide.fn 118 := trivial
  gi_wp2_with (first
    | (gi_at_builtin; refine wpListIn_append_own _ rfl (.tmp 8) (.tmp 9) 95 rfl B 5 i0 (.int .u8 0) 1 1 Tryz.underlying95 hi hz0 hz1 hz2 rfl (by decide) _ _ _ rfl (World.ownsRow.alloc (World.ownsRow.alloc hr _) _) ⟨w.heap.size + 1, 0, none⟩ 1 1 (Lib.byteCells [123]) rfl rfl (by exact cells_at (w.alloc _) _ (by simp) _ _) (bytes_one _) (by unfold maxLen; omega) (by omega) (by simp; omega) ?_; intro v1 w1 y1 y2 _; obtain ⟨g1, cap1, rfl⟩ := own_shape y1; obtain ⟨ca, fa⟩ := one_cells (ob_after hr y2))
    | (gi_at_call 118; refine (callsIn_wide.2 (members_c _ _)).mono ?_; rintro e w' ⟨rfl, rfl⟩))
  have hob := ob_after hr y2
  have y2' : ((w.alloc (.cells #[.slice sa o.length cap] 95)).alloc (.cells #[.int .u8 123] 5)).grownBy w1 (Value.slice sa o.length cap).ownBlock := y2
  clear y2
  have hsz1 : w.heap.size + 2 ≤ w1.heap.size := by have := y2'.size; simpa using this
  have hwr1 : Wr B w w1 := ((((Wr.refl B w).alloc hB _).alloc (by simp; omega) _)).grown (World.ownsRow.alloc (World.ownsRow.alloc hr _) _) y2' (by simp; omega)
  have hrow1 : Row B w1 (.slice (some ⟨g1, 0, none⟩) (o.length + 1) cap1) (o ++ [123]) := by
    unfold Row
    rw [byteCells_app, List.length_append]
    exact y1
  have hmlen := Repm.len hrep
  have hsm : Srt m := srt_keys (Repm.keys l m hrep) hsl
  have HX := hide (And.intro hM (And.intro hl (And.intro hrep (And.intro hlim (And.intro hW hWB)))))
  have hown1 : w1.ownsMap Tryz.prog 9 Rv b m.length (dm m) := by
    obtain ⟨es, clock, q1, q2⟩ := hown
    exact ⟨es, clock, hwr1.oth b _ q1 (by simp) (by intro c fz; simp), q2⟩
  have hbn := hown.lt
  have hMM : M + 2 ≤ 139000000000000 := by
    have : (cntm l + 1) * (M + 2) ≥ 1 * (M + 2) := Nat.mul_le_mul (by omega) (by omega)
    omega
  have hkl : ∀ p ∈ m, p.1.length ≤ 139000000000000 := by
    intro p hp
    obtain ⟨k, hk, rfl⟩ := List.getElem_of_mem hp
    obtain ⟨q, r1, r2, r3, r4⟩ := Repm.get l m k hk hrep
    rw [r3]
    have h1 := hM q r2
    have h2 := flat_ge q.1
    simp only [cMem, cStr, List.length_append, List.length_cons] at h1
    omega
  have hif : ∀ p ∈ m, ∃ t u, p.2 = .iface t u := by
    intro p hp
    obtain ⟨k, hk, rfl⟩ := List.getElem_of_mem hp
    obtain ⟨q, r1, r2, r3, r4⟩ := Repm.get l m k hk hrep
    exact Rep.iface r4
  clear hM hl hrep hlim hW hWB hown y1 y2' ca fa hr hsl
  generalize hX0 : (((w1.setCell ⟨w.heap.size, 0, none⟩ (.slice (some ⟨g1, 0, none⟩) (o.length + 1) cap1)).alloc (.cells #[.bool true] 4)).alloc (.cells #[.map (some b)] 76)) = X0
  have hX0s : X0.heap.size = w1.heap.size + 2 := by rw [← hX0]; simp [World.setCell]
  generalize hS : w1.setCell ⟨w.heap.size, 0, none⟩ (.slice (some ⟨g1, 0, none⟩) (o.length + 1) cap1) = S at hX0
  have hSs : S.heap.size = w1.heap.size := by rw [← hS]; simp [World.setCell]
  have hSo : S.heap[w.heap.size]? = some (.cells #[.slice (some ⟨g1, 0, none⟩) (o.length + 1) cap1] 95) := by rw [← hS]; exact one_set hob _
  have hSx : ∀ k, k ≠ w.heap.size → S.heap[k]? = w1.heap[k]? := by intro k hk; rw [← hS]; exact heap_set_other (by exact hk)
  have hX1 := two_new S (.cells #[.bool true] 4) (.cells #[.map (some b)] 76)
  have hX2 : ∀ k, k < w1.heap.size → X0.heap[k]? = S.heap[k]? := by
    intro k hk
    rw [← hX0, Below.heap_alloc _ _ _ (by simp; omega), Below.heap_alloc _ _ _ (by omega)]
  have hX3 : X0.heap[w1.heap.size]? = some (.cells #[.bool true] 4) := by rw [← hX0, ← hSs]; exact hX1.1
  have hbx : X0.heap[w1.heap.size + 1]? = some (.cells #[.map (some b)] 76) := by rw [← hX0, ← hSs]; exact hX1.2
  have hI0 : Iv B w l o w.heap.size w1.heap.size m.length [] X0 := by
    refine ⟨_, (hX2 _ (by omega)).trans hSo, hrow1.old ?_, hX3, ?_⟩
    · intro k hk
      have h1 := (hrow1.lt k hk).2
      have h2 : k ≠ w.heap.size := by rintro rfl; exact row_ne_cell hrow1 hob (by decide) hk
      rw [hX2 k h1, hSx k h2]
    · refine ⟨?_, ?_⟩
      · rw [← hX0, ← hS]
        exact ((hwr1.below.setCell (p := ⟨w.heap.size, 0, none⟩) (by exact hB) _).alloc (by simp [World.setCell]; omega) _).alloc (by simp [World.setCell]; omega) _
      · intro i x r1 r2 r3
        have := lt_heap r1
        rw [hX2 i (by omega), hSx i (by omega)]
        exact hwr1.oth i x r1 r2 r3
  have hownX : X0.ownsMap Tryz.prog 9 Rv b m.length (dm m) := ownsMap_heap hown1 (by rw [hX2 b (by omega), hSx b (by omega)])
  clear hX1 hX2 hX3 hSo hSx hS hSs
  clear hX0
  refine wpIn_rangeFunc_ownF (α := Fin m.length) rfl (by decide) (gf := 148) (lb := #[.pointer (some ⟨w1.heap.size + 1, 0, none⟩)]) rfl trivial (enters_of Tryz.func148 (by kernel_rfl) rfl)
    (encs := encM m) (Kp := KpM w.heap.size w.heap.size w1.heap.size) (S := fun xs => xs = List.finRange m.length) (Sp := fun _ => True) (N := m.length) (w0 := X0)
    (fun lr J Jx W1 hbl hJ _ hY h0 => members1 7 (by decide) lr (w1.heap.size + 1) b w.heap.size w.heap.size w1.heap.size m hsm (by omega) hkl hif J Jx W1 hJ hY ((hbl.block _ (by omega)).trans hbx) (by omega) (by have := hbl.size; omega) (ownsMap_heap hownX (hbl.block _ (by omega))) hbn h0)
    KpM.t (KpM.b (by omega)) (Below.refl _ _) (fun _ => rfl)
    (Iv B w l o w.heap.size w1.heap.size m.length) (fun _ _ _ => False) (Iv.own (by omega) hB) (fun _ _ _ _ _ hs _ _ => hs) hI0
    (fun x => { tmps := #[.slice sa o.length cap, .map (some b), .pointer (some ⟨w.heap.size, 0, none⟩), undef, .slice none 0 0, .pointer (some ⟨w1.heap.size, 0, none⟩), .string ⟨m[x].1.toArray⟩, m[x].2,
          .slice sa o.length cap, .slice (some ⟨w.heap.size + 1, 0, none⟩) 1 1, .slice (some ⟨g1, 0, none⟩) (o.length + 1) cap1, .map (some b),
          .func (.func 148) #[] #[.pointer (some ⟨w1.heap.size + 1, 0, none⟩)], .string ⟨m[x].1.toArray⟩, m[x].2,
          undef, undef, undef, undef, undef, undef, undef, undef, undef, undef, undef, undef, undef, undef, undef, undef, undef], defers := [] }) ?assign ?body ?done ?stop
  case assign =>
    intro l x W K hK
    simp only [encM]
    gi_wp2
    exact hK
  case body =>
    rintro lr pre x X ⟨vv, q1, q2, q3, q4⟩ hpre
    have hlq : ∃ p, l[x.val]? = some p ∧ p ∈ l ∧ m[x].1 = p.1 ∧ Rep w F p.2 m[x].2 := Repm.get l m x.val x.2 HX.out.2.2.1
    obtain ⟨p, hp1, hp2, hp3, hp4⟩ := hlq
    generalize m[x].2 = xv at hp4 ⊢
    generalize m[x].1 = xk at hp3 ⊢
    subst hp3
    have bd : Bd B w X w.heap.size w.heap.size w1.heap.size X vv vv _ pre.isEmpty := ⟨q1, q3, q2, q4, KeepsOthers.refl _, ⟨Nat.le_refl _, fun _ _ _ _ _ _ _ _ => rfl, fun _ _ _ _ _ => rfl⟩, by omega⟩
    have hbig : (o ++ 123 :: joinC (pre.map fun i => cMem (nthM l i.val))).length + 1 + (cMem p).length + (cnt p.2 + 1) * (M + 2) ≤ 139000000000000 := by
      have h1 := (cntm_ge l).2 p hp2
      have h2 := joinC_take (pre.map fun i => cMem (nthM l i.val)) M (by
        intro y hy
        obtain ⟨i, _, rfl⟩ := List.mem_map.1 hy
        have : i.val < l.length := by omega
        refine HX.out.1 _ ?_
        unfold nthM
        simp [this])
      have h3 := HX.out.1 p hp2
      have h4 := HX.out.2.2.2.1
      have h5 : (l.length + cnt p.2 + 1) * (M + 2) ≤ (cntm l + 1) * (M + 2) := Nat.mul_le_mul (by omega) (Nat.le_refl _)
      have h6 : (l.length + cnt p.2 + 1) * (M + 2) = l.length * (M + 1) + l.length + (cnt p.2 + 1) * (M + 2) := by
        rw [show l.length + cnt p.2 + 1 = l.length + (cnt p.2 + 1) by omega, Nat.add_mul, show M + 2 = M + 1 + 1 by omega, Nat.mul_add l.length (M + 1) 1]
        omega
      rw [List.length_map] at h2
      have h7 : (pre.length + 1) * (M + 1) ≤ l.length * (M + 1) := Nat.mul_le_mul (by omega) (Nat.le_refl _)
      rw [Nat.add_mul] at h7
      simp only [List.length_append, List.length_cons]
      omega
    have hlen1 : (o ++ 123 :: joinC (pre.map fun i => cMem (nthM l i.val))).length + 1 + (cMem p).length ≤ 138999999999998 := by
      have : (cnt p.2 + 1) * (M + 2) ≥ 1 * 2 := Nat.mul_le_mul (by omega) (by omega)
      omega
    have hj : joinC ((pre ++ [x]).map fun i => cMem (nthM l i.val)) = if pre.isEmpty then cMem p else joinC (pre.map fun i => cMem (nthM l i.val)) ++ 44 :: cMem p := by
      have e : nthM l x.val = p := by unfold nthM; rw [hp1]; rfl
      rw [List.map_append, List.map_cons, List.map_nil, e, joinC_snoc]
      cases pre <;> simp
    have hj0 : pre.isEmpty = true → joinC (pre.map fun i => cMem (nthM l i.val)) = [] := by
      intro h
      rw [List.isEmpty_iff.1 h]
      rfl
    clear q1 q2 q3 q4
    generalize hO1 : joinC (pre.map fun i => cMem (nthM l i.val)) = O1 at *
    generalize hO : o ++ 123 :: O1 = o1 at *
    have HO := hide (And.intro hO hj0)
    have HB := hide hbig
    clear hO hO1 hj0 hbig
    obtain ⟨sa2, cap2, g2, cur2, rfl, hsa2⟩ := slice_shape bd.row
    clear hsa2
    obtain ⟨cb, fb⟩ := one_cells bd.cfb
    obtain ⟨co, fo⟩ := one_cells bd.cob
    have hne : w1.heap.size ≠ w.heap.size := by omega
    have hne' : w.heap.size ≠ w1.heap.size := by omega
    cases hpe : pre.isEmpty
    · rw [hpe] at bd cb hj
      have HJ := hide hj
      have HPE := hide hpe
      clear hj
      gi_wp2_with (gi_at_builtin; refine wpListIn_append_own _ rfl (.tmp 17) (.tmp 18) 95 rfl B 5 i0 (.int .u8 0) 1 1 Tryz.underlying95 hi hz0 hz1 hz2 rfl (by decide) _ _ _ rfl (World.ownsRow.alloc bd.row _) ⟨X.heap.size, 0, none⟩ 1 1 (Lib.byteCells [44]) rfl rfl (by exact cells_at _ _ rfl _ _) (bytes_one _) (by unfold maxLen; omega) (by omega) (by have := bd.bsz; simp; omega) ?_; intro v4 X4 y4 y4' _; obtain ⟨g4, cap4, rfl⟩ := own_shape y4; have bd0 := bd.app y4 y4'; clear y4 y4'; obtain ⟨c0, f0⟩ := one_cells bd0.cob; obtain ⟨c0', f0'⟩ := one_cells bd0.cfb)
      have bd1 := (bd0.put_ob).put_fb false
      refine ⟨trivial, ?_⟩
      gi_at_call 85
      refine (CallsIn.inRound lr (callsIn_wide.2 (appendString_c B _ _ _ _ bd1.row bd1.bsz (by simp only [cMem, List.length_append, List.length_cons] at hlen1; simp; omega)))).mono ?_
      rintro e X2 ⟨v2, rfl, r2, u2⟩
      have bd2 := bd1.step u2 r2
      have bd3 := bd2.put_ob
      obtain ⟨sa3, cap3, g3, cur3, rfl, hsa3⟩ := slice_shape r2
      clear hsa3
      obtain ⟨c2, f2⟩ := one_cells bd2.cob
      have hl2 : ((o1 ++ [44]) ++ cStr (List.toArray p.1).toList).length + 2 ≤ 138999999999999 := by
        simp only [cMem, List.length_append, List.length_cons] at hlen1 ⊢
        simp
        omega
      generalize hO2 : (o1 ++ [44]) ++ cStr (List.toArray p.1).toList = o2 at *
      have HO2 := hide hO2
      clear hO2
      gi_wp2_with (gi_at_builtin; refine wpListIn_append_own _ rfl (.tmp 23) (.tmp 24) 95 rfl B 5 i0 (.int .u8 0) 1 1 Tryz.underlying95 hi hz0 hz1 hz2 rfl (by decide) _ _ _ rfl (World.ownsRow.alloc bd3.row _) ⟨X2.heap.size, 0, none⟩ 1 1 (Lib.byteCells [58]) rfl rfl (by exact cells_at _ _ (by simp [World.setCell]) _ _) (bytes_one _) (by unfold maxLen; omega) (by omega) (by have := bd3.bsz; simp [World.setCell] at this ⊢; omega) ?_; intro v4 X4 y4 y4' _; obtain ⟨g4, cap4, rfl⟩ := own_shape y4; have bd4 := bd3.app y4 y4'; clear y4 y4'; obtain ⟨c4, f4⟩ := one_cells bd4.cob)
      have bd5 := bd4.put_ob
      refine ⟨trivial, ?_⟩
      gi_at_call 55
      have hl5 : (o2 ++ [58]).length + (cnt p.2 + 1) * (M + 2) ≤ 139000000000000 := by
        have h1 := HB.out
        have h2 := congrArg List.length HO2.out
        simp only [cMem, List.length_append, List.length_cons, List.length_nil] at h1 h2 ⊢
        omega
      refine (CallsIn.inRound lr (callsIn_wide.2 (HX.out.2.1 p hp2 B _ _ _ F _ M (HX.out.2.2.2.2.1.trans (bd5.wx.below.mono HX.out.2.2.2.2.2)) HX.out.2.2.2.2.2 bd5.row bd5.bsz (Rep.oth bd5.wx.oth p.2 hp4) (by have := HX.out.1 p hp2; simp only [cMem, List.length_append, List.length_cons] at this; omega) (by exact hl5)))).mono ?_
      rintro e X6 ⟨v6, rfl, r6, u6⟩
      have bd6 := bd5.step u6 r6
      have bd7 := bd6.put_ob
      obtain ⟨sa7, cap7, g7, cur7, rfl, hsa7⟩ := slice_shape r6
      clear hsa7
      obtain ⟨c6, f6⟩ := one_cells bd6.cob
      generalize hO3 : o2 ++ [58] ++ cJ p.2 = o3 at *
      have HO3 := hide hO3
      clear hO3
      gi_wp2_with fail
      refine ⟨bd7.ko, bd7.kp, _, bd7.cob, ?_, (show (pre ++ [x]).isEmpty = false by cases pre <;> rfl) ▸ bd7.cfb, bd7.wx⟩
      have e : o ++ 123 :: joinC ((pre ++ [x]).map fun i => cMem (nthM l i.val)) = o3 := by
        rw [HJ.out, ← HO3.out, ← HO2.out, ← HO.out.1]
        simp [cMem]
      rw [e]
      exact bd7.row
    · rw [hpe] at bd cb hj
      have bd1 := bd.put_fb false
      have HJ := hide hj
      clear hj
      gi_wp2_with fail
      refine ⟨trivial, ?_⟩
      gi_at_call 85
      refine (CallsIn.inRound lr (callsIn_wide.2 (appendString_c B _ _ _ _ bd1.row bd1.bsz (by simp only [cMem, List.length_append, List.length_cons] at hlen1; simp; omega)))).mono ?_
      rintro e X2 ⟨v2, rfl, r2, u2⟩
      have bd2 := bd1.step u2 r2
      have bd3 := bd2.put_ob
      obtain ⟨sa3, cap3, g3, cur3, rfl, hsa3⟩ := slice_shape r2
      clear hsa3
      obtain ⟨c2, f2⟩ := one_cells bd2.cob
      have hl2 : (o1 ++ cStr (List.toArray p.1).toList).length + 2 ≤ 138999999999999 := by
        simp only [cMem, List.length_append, List.length_cons] at hlen1 ⊢
        simp
        omega
      generalize hO2 : o1 ++ cStr (List.toArray p.1).toList = o2 at *
      have HO2 := hide hO2
      clear hO2
      gi_wp2_with (gi_at_builtin; refine wpListIn_append_own _ rfl (.tmp 23) (.tmp 24) 95 rfl B 5 i0 (.int .u8 0) 1 1 Tryz.underlying95 hi hz0 hz1 hz2 rfl (by decide) _ _ _ rfl (World.ownsRow.alloc bd3.row _) ⟨X2.heap.size, 0, none⟩ 1 1 (Lib.byteCells [58]) rfl rfl (by exact cells_at _ _ (by simp [World.setCell]) _ _) (bytes_one _) (by unfold maxLen; omega) (by omega) (by have := bd3.bsz; simp [World.setCell] at this ⊢; omega) ?_; intro v4 X4 y4 y4' _; obtain ⟨g4, cap4, rfl⟩ := own_shape y4; have bd4 := bd3.app y4 y4'; clear y4 y4'; obtain ⟨c4, f4⟩ := one_cells bd4.cob)
      have bd5 := bd4.put_ob
      refine ⟨trivial, ?_⟩
      gi_at_call 55
      have hl5 : (o2 ++ [58]).length + (cnt p.2 + 1) * (M + 2) ≤ 139000000000000 := by
        have h1 := HB.out
        have h2 := congrArg List.length HO2.out
        simp only [cMem, List.length_append, List.length_cons, List.length_nil] at h1 h2 ⊢
        omega
      refine (CallsIn.inRound lr (callsIn_wide.2 (HX.out.2.1 p hp2 B _ _ _ F _ M (HX.out.2.2.2.2.1.trans (bd5.wx.below.mono HX.out.2.2.2.2.2)) HX.out.2.2.2.2.2 bd5.row bd5.bsz (Rep.oth bd5.wx.oth p.2 hp4) (by have := HX.out.1 p hp2; simp only [cMem, List.length_append, List.length_cons] at this; omega) (by exact hl5)))).mono ?_
      rintro e X6 ⟨v6, rfl, r6, u6⟩
      have bd6 := bd5.step u6 r6
      have bd7 := bd6.put_ob
      obtain ⟨sa7, cap7, g7, cur7, rfl, hsa7⟩ := slice_shape r6
      clear hsa7
      obtain ⟨c6, f6⟩ := one_cells bd6.cob
      generalize hO3 : o2 ++ [58] ++ cJ p.2 = o3 at *
      have HO3 := hide hO3
      clear hO3
      gi_wp2_with fail
      refine ⟨bd7.ko, bd7.kp, _, bd7.cob, ?_, (show (pre ++ [x]).isEmpty = false by cases pre <;> rfl) ▸ bd7.cfb, bd7.wx⟩
      have e : o ++ 123 :: joinC ((pre ++ [x]).map fun i => cMem (nthM l i.val)) = o3 := by
        rw [HJ.out, ← HO3.out, ← HO2.out, ← HO.out.1, HO.out.2 hpe]
        simp [cMem]
      rw [e]
      exact bd7.row
  case done =>
    rintro D ys X hD rfl ⟨vv, q1, q2, q3, q4⟩ hK
    rw [nthM_all l m.length hmlen] at q2
    have hlen1 : (o ++ 123 :: joinC (l.map cMem)).length + 1 ≤ 139000000000000 := by
      have h1 := (cntm_ge l).1
      have h2 := joinC_take (l.map cMem) M (by
        intro y hy
        obtain ⟨i, hi, rfl⟩ := List.mem_map.1 hy
        exact HX.out.1 _ hi)
      have h4 := HX.out.2.2.2.1
      have h5 : (l.length + 1) * (M + 2) ≤ (cntm l + 1) * (M + 2) := Nat.mul_le_mul (by omega) (Nat.le_refl _)
      have h6 : (l.length + 1) * (M + 2) = l.length * (M + 1) + l.length + M + 2 := by
        rw [Nat.add_mul, show M + 2 = M + 1 + 1 by omega, Nat.mul_add l.length (M + 1) 1]
        omega
      rw [List.length_map] at h2
      simp only [List.length_append, List.length_cons]
      have : l.length = 0 ∨ 1 ≤ l.length := by omega
      rcases this with h | h
      · have : l = [] := List.length_eq_zero_iff.1 h
        subst this
        simp [joinC]
        simp at h6
        omega
      · omega
    generalize hO : o ++ 123 :: joinC (l.map cMem) = o1 at *
    have HO := hide hO
    clear hO
    obtain ⟨sa2, cap2, g2, cur2, rfl, hsa2⟩ := slice_shape q2
    clear hsa2
    obtain ⟨co, fo⟩ := one_cells q1
    have hbs : B ≤ X.heap.size := Nat.le_trans hB q4.below.size
    gi_wp2_with (gi_at_builtin; refine wpListIn_append_own _ rfl (.tmp 29) (.tmp 30) 95 rfl B 5 i0 (.int .u8 0) 1 1 Tryz.underlying95 hi hz0 hz1 hz2 rfl (by decide) _ _ _ rfl (World.ownsRow.alloc q2 _) ⟨X.heap.size, 0, none⟩ 1 1 (Lib.byteCells [125]) rfl rfl (by exact cells_at _ _ rfl _ _) (bytes_one _) (by unfold maxLen; omega) (by omega) (by simp; omega) ?_; intro v4 X4 y4 y4' _; obtain ⟨g4, cap4, rfl⟩ := own_shape y4)
    obtain ⟨z1, z2⟩ := app_bytes q4 hbs q2 y4 y4'
    have hDX : D < X.heap.size := lt_heap hK
    have hK4 : X4.heap[D]? = some (.deferred (some [])) := by
      rw [y4'.block D (by simp; omega) ?_, Below.heap_alloc _ _ _ hDX]
      · exact hK
      · intro e
        obtain ⟨_, ⟨e1, _⟩ | ⟨g, cap, cur, e1, _, hh, _⟩⟩ := q2
        · injection e1 with e1
          subst e1
          cases e
        · injection e1 with e1
          subst e1
          injection e with e
          subst e
          rw [hK] at hh
          cases hh
    clear y4 y4'
    refine ⟨by simp, .inl ⟨_, _, rfl, run_takeDeferred hK4, ?_⟩⟩
    refine ⟨_, results_tmp rfl _ _ _, _, rfl, ?_, ?_⟩
    · have e : o ++ cJ (.obj l) = o1 ++ [125] := by
        rw [cJ_obj, ← HO.out]
        simp
      rw [e]
      refine z1.old ?_
      intro k hk
      have h1 := (z1.lt k hk).2
      rw [World.putObj_heap_other]
      rintro rfl
      obtain ⟨_, ⟨e1, _⟩ | ⟨g, cap, cur, e1, _, hh, _⟩⟩ := z1
      · cases e1
      · injection e1 with e1
        injection e1 with e1
        injection hk with hk
        subst hk
        injection e1 with e1
        subst e1
        rw [hK4] at hh
        cases hh
    · have hg := grownBy_putObj' X4 D (.deferred none)
      refine ⟨z2.below.grown hg (Nat.le_trans hB z2.below.size) (fun k e => by cases e; omega), ?_⟩
      intro i x r1 r2 r3
      have := lt_heap r1
      rw [World.putObj_heap_other (by omega)]
      exact z2.oth i x r1 r2 r3
  case stop =>
    rintro D c pre W _ _ h _
    exact h.elim
end Go.Proofs.YtocligpfmfmihabGreatDoor

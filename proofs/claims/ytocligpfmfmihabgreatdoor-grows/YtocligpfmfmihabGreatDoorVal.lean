import Derived.Test.YtocligpfmfmihabGreatDoorLenG
import Derived.Test.YtocligpfmfmihabGreatDoorMp
import Derived.Deep.RegionLaw
import Derived.Maps.AppendAt
namespace Go.Proofs.YtocligpfmfmihabGreatDoor
open Go Go.RowKit Go.Maps

/-- append onto a row of the call's own, as one step of a region that draws. -/
theorem step_append_own {P : Program} {ops : Array Oper} {o : Oper} {a : Act} {w : World} {K : Act → World → Prop} {Q : Exit → Act → World → Prop} {E : Prop} (hgd : o.guard = none) (s x : Operand) (t : TypeId)
    (ho : o.op = .call { callee := .builtin .append, args := #[s, x], argTypes := #[t, t] })
    (base : Nat) (e : TypeId) (i : TypeInfo) (z : Value) (size bytes : Nat) (ht : P.underlying t = some (.slice e)) (hi : P.info? e = some i) (hz : i.zero = some z)
    (hsize : i.size = size) (hby : i.bytes = bytes) (hzs : z.cells.size = size) (hsz : 0 < size)
    (v : Value) (n : Nat) (xs : List Value) (hs : a.eval s = v) (hown : w.ownsRow base e size v n xs)
    (ad : Addr) (m c : Nat) (news : List Value) (hx : a.eval x = .slice (some ad) m c) (hl : news.length = m * size) (hnews : ∀ j u, news[j]? = some u → w.cell? (ad.add j) = some u) (h1 : ∀ u ∈ news, u.oneCell' = true)
    (h63 : n + m ≤ maxLen) (hbytes : (n + m) * bytes ≤ 140737488355328) (hbase : base ≤ w.heap.size)
    (h : ∀ v' w', w'.ownsRow base e size v' (n + m) (xs ++ news) → w.grownBy w' v.ownBlock → (v'.ownBlock = v.ownBlock ∨ v'.ownBlock = some w.heap.size) → K (a.put o.dst v') w') :
    if Region.wanted o (yielded ops a.tmps) = true then Oper.wp P o a w K Q else E := by
  have hw : Region.wanted o (yielded ops a.tmps) = true := by simp [Region.wanted, hgd]
  rw [if_pos hw]
  obtain ⟨v', w', hr, h2, h3, h4, h5⟩ := run_append_own_at (P := P) w base t o.type e i z size bytes ht hi hz hsize hby hzs hsz v n xs hown ad m c news hl hnews h1 h63 hbytes hbase
  unfold Oper.wp execOp
  simp only [ho, resolve, invoke, builtin, Sem.run_bind, Sem.run_pure, Result.andThen_ok, List.map_toArray, List.map_cons, List.map_nil, hs, hx, hr]
  exact h v' w' h2 h3 h5

/-- a call of a Go function, as one step of a region that draws. -/
theorem step_call {P : Program} {ops : Array Oper} {o : Oper} {a : Act} {w : World} {K : Act → World → Prop} {Q : Exit → Act → World → Prop} {E : Prop} (hgd : o.guard = none) (f : FuncId) (args : Array Value)
    (hrun : (execOp a.eval o).run P w = .ok (.enter f args) w)
    (h : Calls P f args w fun | .returned v, w'' => K (a.put o.dst v) w'' | .panicked chain, w'' => Q (.panic chain) a w'' | .outgrown, _ => LetsOut Q) :
    if Region.wanted o (yielded ops a.tmps) = true then Oper.wp P o a w K Q else E := by
  have hw : Region.wanted o (yielded ops a.tmps) = true := by simp [Region.wanted, hgd]
  rw [if_pos hw]
  unfold Oper.wp
  rw [hrun, Oper.upon_enter]
  exact h

/-- What value does at depth d. -/
def ValC (W : World) (d : Nat) : Prop := ∀ (rb : Nat) (s : ByteArray) (k : Nat) (w : World), St W w rb s k d →
  Calls Tryz.prog 130 #[.pointer (some ⟨rb, 0, none⟩)] w fun e w' =>
    Res W rb s d w (pVal false (6 - d) (rest s k)) (fun w' j v => Rep w' (fun b => w.heap.size ≤ b ∧ b < w'.heap.size) j v) e w'

/-- The array that is being read, in the variable at block ab; the reader's variable at bb. -/
def ArrI (lo rb ab bb : Nat) (x : List J) (w : World) : Prop :=
  ∃ sv vs G, w.heap[ab]? = some (.cells #[sv] 201) ∧ w.heap[bb]? = some (.cells #[.pointer (some ⟨rb, 0, none⟩)] 258) ∧
    w.ownsRow lo 137 1 sv x.length vs ∧ Reps w G x vs ∧ (∀ k, G k → lo ≤ k ∧ k < w.heap.size ∧ k ≠ ab ∧ k ≠ bb) ∧ (∀ k, sv.ownBlock = some k → ¬ G k ∧ k ≠ ab ∧ k ≠ bb)

theorem infoV : (Tryz.prog.info? 137).map (fun i => (i.zero, i.size, i.bytes)) = some (some .nilIface, 1, 16) := by kernel_rfl
theorem lt_heap {w : World} {b : Nat} {o : Obj} (h : w.heap[b]? = some o) : b < w.heap.size := by
  rcases Nat.lt_or_ge b w.heap.size with h' | h'
  · exact h'
  · rw [Array.getElem?_eq_none h'] at h; cases h

theorem Rep.iface {w : World} {F : Nat → Prop} {j : J} {v : Value} (h : Rep w F j v) : ∃ t u, v = .iface t u := by
  cases j <;> rw [Rep] at h
  · exact ⟨_, _, h⟩
  · exact ⟨_, _, h⟩
  · exact ⟨_, _, h⟩
  · exact ⟨_, _, h⟩
  · obtain ⟨_, _, e, _⟩ := h
    exact ⟨_, _, e⟩
  · obtain ⟨_, _, e, _⟩ := h
    exact ⟨_, _, e⟩
theorem own_shape {w : World} {B : Nat} {e : TypeId} {v : Value} {n : Nat} {xs : List Value} (h : w.ownsRow B e 1 v (n + 1) xs) : ∃ g cap, v = .slice (some ⟨g, 0, none⟩) (n + 1) cap := by
  obtain ⟨_, ⟨_, h⟩ | ⟨g, cap, cur, h, _⟩⟩ := h
  · omega
  · exact ⟨g, cap, h⟩
theorem one_cells {w : World} {b : Nat} {v : Value} {t : TypeId} (h : w.heap[b]? = some (.cells #[v] t)) : w.cell? ⟨b, 0, none⟩ = some v ∧ w.frozen? ⟨b, 0, none⟩ = false := by
  constructor
  · simp [World.cell?, h]
  · simp [World.frozen?, h]
theorem one_set {w : World} {b : Nat} {v : Value} {t : TypeId} (h : w.heap[b]? = some (.cells #[v] t)) (u : Value) : (w.setCell ⟨b, 0, none⟩ u).heap[b]? = some (.cells #[u] t) := by
  simp [World.setCell, Array.getElem?_modify, h]
theorem heap_set_other {w : World} {p : Addr} {u : Value} {k : Nat} (h : k ≠ p.block) : (w.setCell p u).heap[k]? = w.heap[k]? := Below.heap_setCell _ _ _ _ h
theorem own_at {w : World} {o : Obj} {a b : Option Nat} (h : a = b ∨ a = some (w.alloc o).heap.size) : a = b ∨ ∃ q, w.heap.size ≤ q ∧ a = some q := by
  rcases h with h | h
  · exact Or.inl h
  · exact Or.inr ⟨_, ((Kp.refl (fun _ => False) w).alloc o).size, h⟩
/-- One value more in the array. -/
theorem arr_end {lo rb ab bb : Nat} (hab : ab ≠ bb) {x : List J} {j : J} {v : Value} {sv sv' : Value} {vs : List Value} {G : Nat → Prop} {w1 w2 w3 : World} (hrb : rb < lo) (ha1 : ab < w1.heap.size) (hb1 : bb < w1.heap.size)
    (hl1 : lo ≤ w1.heap.size)
    (i3 : w1.ownsRow lo 137 1 sv x.length vs) (i4 : Reps w1 G x vs) (i5 : ∀ k, G k → lo ≤ k ∧ k < w1.heap.size ∧ k ≠ ab ∧ k ≠ bb) (i6 : ∀ k, sv.ownBlock = some k → ¬ G k ∧ k ≠ ab ∧ k ≠ bb)
    (g1 : Kp (· = rb) w1 w2) (g3 : Rep w2 (fun b => w1.heap.size ≤ b ∧ b < w2.heap.size) j v) (B1 : Kp (fun k => sv.ownBlock = some k) w2 w3)
    (y1 : w3.ownsRow lo 137 1 sv' (x.length + 1) (vs ++ [v])) (y3 : sv'.ownBlock = sv.ownBlock ∨ ∃ q, w2.heap.size ≤ q ∧ sv'.ownBlock = some q)
    (h1 : w3.heap[ab]? = some (.cells #[sv] 201)) (h2 : w3.heap[bb]? = some (.cells #[.pointer (some ⟨rb, 0, none⟩)] 258)) :
    ArrI lo rb ab bb (x ++ [j]) (w3.setCell ⟨ab, 0, none⟩ sv') := by
  have hs12 := g1.size
  have hs23 := B1.size
  have hs34 : (w3.setCell ⟨ab, 0, none⟩ sv').heap.size = w3.heap.size := by simp [World.setCell]
  have old : ∀ k, G k → (w3.setCell ⟨ab, 0, none⟩ sv').heap[k]? = w1.heap[k]? := by
    intro k hk
    obtain ⟨q1, q2, q3, q4⟩ := i5 k hk
    rw [heap_set_other (by show k ≠ ab; omega), B1.block k (by omega) (fun e => (i6 k e).1 hk), g1.block k q2 (by omega)]
  have new : ∀ k, w1.heap.size ≤ k ∧ k < w2.heap.size → (w3.setCell ⟨ab, 0, none⟩ sv').heap[k]? = w2.heap[k]? := by
    rintro k ⟨q1, q2⟩
    rw [heap_set_other (by show k ≠ ab; omega), B1.block k q2 (fun e => by have := (i3.lt k e).2; omega)]
  have own' : ∀ k, sv'.ownBlock = some k → ¬ (G k ∨ (w1.heap.size ≤ k ∧ k < w2.heap.size)) ∧ k ≠ ab ∧ k ≠ bb := by
    intro k hk
    rcases y3 with e | ⟨q, hq, e⟩
    · obtain ⟨q1, q2, q3⟩ := i6 k (e.symm.trans hk)
      have := (i3.lt k (e.symm.trans hk)).2
      exact ⟨by rintro (h | h); exact q1 h; omega, q2, q3⟩
    · rw [e] at hk
      injection hk with hk
      refine ⟨?_, by omega, by omega⟩
      rintro (h | h)
      · have := i5 k h; omega
      · omega
  refine ⟨sv', vs ++ [v], fun k => G k ∨ (w1.heap.size ≤ k ∧ k < w2.heap.size), one_set h1 _, ?_, ?_, ?_, ?_, own'⟩
  · rw [heap_set_other (by show bb ≠ ab; omega)]; exact h2
  · rw [List.length_append]
    refine ownsRow_heap y1 ?_
    intro k hk
    exact heap_set_other (own' k hk).2.1
  · exact Reps.snoc (Rep.mono (fun k hk => Or.inr hk) j (Rep.frame new j g3)) _ _ (Reps.mono (fun k hk => Or.inl hk) x (Reps.frame old x i4))
  · rintro k (hk | ⟨hk1, hk2⟩)
    · obtain ⟨q1, q2, q3, q4⟩ := i5 k hk
      exact ⟨q1, by omega, q3, q4⟩
    · exact ⟨by omega, by omega, by omega, by omega⟩
set_option maxRecDepth 20000 in
theorem array1_some (W : World) (rb : Nat) (s : ByteArray) (d : Nat) (hv : ValC W d) (w0 : World) (ab bb : Nat) (hab : ab ≠ bb) (hrb : rb < w0.heap.size) (h0 : w0.heap.size ≤ ab) (h0' : w0.heap.size ≤ bb)
    (x : List J) (w1 : World) (k1 : Nat) (hr : St W w1 rb s k1 d) (hI : ArrI w0.heap.size rb ab bb x w1) (hk : Kp (· = rb) w0 w1) (j : J) (r : List UInt8) (hp : pVal false (6 - d) (rest s k1) = some (j, r)) (hx : x.length ≤ 700) :
    Calls Tryz.prog 181 #[.pointer (some ⟨ab, 0, none⟩), .pointer (some ⟨bb, 0, none⟩)] w1 fun e w2 => Ser W rb s d w0 (some (x ++ [j], r)) (ArrI w0.heap.size rb ab bb) e w2 := by
  obtain ⟨sv, vs, G, i1, i2, i3, i4, i5, i6⟩ := hI
  obtain ⟨i0, hi, hz0, hz1, hz2⟩ := info_parts infoV
  have ca : w1.cell? ⟨ab, 0, none⟩ = some sv := by simp [World.cell?, i1]
  have fa : w1.frozen? ⟨ab, 0, none⟩ = false := by simp [World.frozen?, i1]
  have cb : w1.cell? ⟨bb, 0, none⟩ = some (.pointer (some ⟨rb, 0, none⟩)) := by simp [World.cell?, i2]
  have HP := hide hp
  have HI := hide (And.intro i1 i2)
  clear hp i1 i2
  go_enter Tryz.func181, Tryz.ntmps181
  go_wp2_with fail
  go_region_law (first
    | (refine step_append_own rfl (.tmp 2) (.tmp 5) 201 rfl w0.heap.size 137 i0 .nilIface 1 16 Tryz.underlying201 hi hz0 hz1 hz2 rfl (by decide) sv x.length vs (by simp [Act.eval]) (own2.alloc _) ⟨w2.heap.size, 0, none⟩ 1 1 [.iface t u] (by simp [Act.eval]) rfl (cell_one_new _ _ _) (by intro q hq; simp at hq; subst hq; rfl) (by unfold maxLen; omega) (by omega) (by have := i5'; simp; omega) ?_; intro v' w3 y1 y2 y3; obtain ⟨g', cap', rfl⟩ := own_shape y1; obtain ⟨ca3, fa3⟩ := one_cells ((y2.block ab (by simp; omega) (by intro e; exact (i6 ab e.symm).2.1 rfl)).trans ((Below.heap_alloc _ _ _ (by omega)).trans (HI2.out))))
    | (refine step_call rfl 130 #[.pointer (some ⟨rb, 0, none⟩)] (by go_simp) ?_; refine (hv rb s k1 _ (hr.drewN 1)).mono ?_; rintro e w2 ⟨g0, g2⟩; have g1 : Kp (· = rb) w1 w2 := ((Kp.refl _ _).drewN 1).trans g0; rw [HP.out] at g2; obtain ⟨vv, k2, rfl, g3, g4, g5⟩ := g2; obtain ⟨t, u, rfl⟩ := Rep.iface g3; have HI2 : Hid (w2.heap[ab]? = some (.cells #[sv] 201)) := (g1.block ab (lt_heap HI.out.1) (by omega)).trans HI.out.1; obtain ⟨ca2, fa2⟩ := one_cells HI2.out; have ca4 : ∀ o, (w2.alloc o).cell? ⟨ab, 0, none⟩ = some sv := fun o => (World.cell?_of_block (w := w2) (Below.heap_alloc _ _ _ (lt_heap HI2.out))).trans ca2; have own2 := ownsRow_kp i3 g1 (fun k hk => by have := (i3.lt k hk).1; omega); have i5' := Nat.lt_of_lt_of_le (lt_heap HI.out.2) g1.size; have i5'' := lt_heap HI2.out))
  all_goals
    have B1 : Kp (fun k => sv.ownBlock = some k) w2 w3 := ((Kp.refl _ _).alloc _).grown y2 (fun k hk _ => hk)
    have hw3 : w2.heap.size < w3.heap.size := by have := y2.size; simp at this; omega
    have HA3 : w3.heap[ab]? = some (.cells #[sv] 201) := (B1.block ab (lt_heap HI2.out) (fun e => (i6 ab e).2.1 rfl)).trans HI2.out
    have HB2 : w2.heap[bb]? = some (.cells #[.pointer (some ⟨rb, 0, none⟩)] 258) := (g1.block bb (lt_heap HI.out.2) (by omega)).trans HI.out.2
    have HB3 : w3.heap[bb]? = some (.cells #[.pointer (some ⟨rb, 0, none⟩)] 258) := (B1.block bb (lt_heap HB2) (fun e => (i6 bb e).2.2 rfl)).trans HB2
    have S3 : St W w3 rb s k2 d := g4.keep B1 (fun i hi => by have := (own2.lt i hi).1; have := hr.old.size; have := hr.ge; omega) (fun hi => by have := (own2.lt rb hi).1; omega)
    have HR := hide (And.intro HA3 HB3)
    clear HA3 HB3
    have hy3 := own_at y3
    have AE := arr_end hab hrb (lt_heap HI.out.1) (lt_heap HI.out.2) hk.size i3 i4 i5 i6 g1 g3 B1 y1 hy3 HR.out.1 HR.out.2
    have S4 : St W (w3.setCell ⟨ab, 0, none⟩ (.slice (some ⟨g', 0, none⟩) (x.length + 1) cap')) rb s k2 d := S3.keep (S := fun k => k = ab) (Kp.setCell (p := ⟨ab, 0, none⟩) (Kp.refl (fun k => k = ab) w3) (fun _ => rfl) _) (fun i hi => by have := hr.old.size; have := hr.ge; omega) (by omega)
    have K4 : Kp (· = rb) w0 (w3.setCell ⟨ab, 0, none⟩ (.slice (some ⟨g', 0, none⟩) (x.length + 1) cap')) := Kp.setCell (p := ⟨ab, 0, none⟩) ((hk.trans g1).and B1 (fun i hi e => by have := (own2.lt i e).1; omega)) (fun hlt => by exact absurd hlt (by show ¬ ab < _; omega)) _
    have Z := hide (And.intro AE (And.intro S4 K4))
    clear AE S4 K4 hy3
    go_wp2
    go_end0
    exact ser_some rfl Z.out.2.2 Z.out.1 Z.out.2.1 g5

set_option maxRecDepth 20000 in
theorem array1_none (W : World) (rb : Nat) (s : ByteArray) (d : Nat) (hv : ValC W d) (w0 : World) (ab bb : Nat)
    (x : List J) (w1 : World) (k1 : Nat) (hr : St W w1 rb s k1 d) (hI : ArrI w0.heap.size rb ab bb x w1) (hk : Kp (· = rb) w0 w1) (hp : pVal false (6 - d) (rest s k1) = none) :
    Calls Tryz.prog 181 #[.pointer (some ⟨ab, 0, none⟩), .pointer (some ⟨bb, 0, none⟩)] w1 fun e w2 => Kp (· = rb) w0 w2 ∧ Thrown W w0 w2 e := by
  obtain ⟨sv, vs, G, i1, i2, i3, i4, i5, i6⟩ := hI
  obtain ⟨ca, fa⟩ := one_cells i1
  obtain ⟨cb, fb⟩ := one_cells i2
  have HP := hide hp
  clear hp i1 i2
  go_enter Tryz.func181, Tryz.ntmps181
  go_wp2_with fail
  refine wp_region_any (by kernel_rfl) ?_
  change wpAny _ _ _ _ _ _ _ (World.drew _)
  refine wpAny_ready (rs := [0, 1]) (by kernel_rfl) (by simp) ?_
  refine AllReady.cons rfl (fun K hK => ?_) ?_
  · go_simp
    refine hK _ _ ?_
    clear hK K
    refine wpAny_ready (rs := [1]) (by kernel_rfl) (by simp) ?_
    refine AllReady.cons rfl (fun K hK => ?_) AllReady.nil
    go_simp
    refine hK _ _ ?_
    clear hK K
    refine wpAny_ready (rs := [2]) (by kernel_rfl) (by simp) ?_
    refine AllReady.cons rfl (fun K hK => ?_) AllReady.nil
    (refine step_call rfl 130 #[.pointer (some ⟨rb, 0, none⟩)] (by go_simp) ?_; refine (hv rb s k1 _ (hr.drewN 1)).mono ?_; rintro e w2 ⟨g0, g2⟩; have g1 : Kp (· = rb) w1 w2 := ((Kp.refl _ _).drewN 1).trans g0; rw [HP.out] at g2; obtain ⟨fb', k9, g, cb', rfl, q⟩ := g2; exact ⟨rfl, hk.trans g1, fb', k9, g, cb', rfl, Nat.le_trans hk.size q.1, q.2⟩)
  refine AllReady.cons rfl (fun K hK => ?_) AllReady.nil
  go_simp
  refine hK _ _ ?_
  clear hK K
  refine wpAny_ready (rs := [0, 2]) (by kernel_rfl) (by simp) ?_
  refine AllReady.cons rfl (fun K hK => ?_) ?_
  · go_simp
    refine hK _ _ ?_
    clear hK K
    refine wpAny_ready (rs := [2]) (by kernel_rfl) (by simp) ?_
    refine AllReady.cons rfl (fun K hK => ?_) AllReady.nil
    (refine step_call rfl 130 #[.pointer (some ⟨rb, 0, none⟩)] (by go_simp) ?_; refine (hv rb s k1 _ (hr.drewN 1)).mono ?_; rintro e w2 ⟨g0, g2⟩; have g1 : Kp (· = rb) w1 w2 := ((Kp.refl _ _).drewN 1).trans g0; rw [HP.out] at g2; obtain ⟨fb', k9, g, cb', rfl, q⟩ := g2; exact ⟨rfl, hk.trans g1, fb', k9, g, cb', rfl, Nat.le_trans hk.size q.1, q.2⟩)
  refine AllReady.cons rfl (fun K hK => ?_) AllReady.nil
  (refine step_call rfl 130 #[.pointer (some ⟨rb, 0, none⟩)] (by go_simp) ?_; refine (hv rb s k1 _ (hr.drewN 1)).mono ?_; rintro e w2 ⟨g0, g2⟩; have g1 : Kp (· = rb) w1 w2 := ((Kp.refl _ _).drewN 1).trans g0; rw [HP.out] at g2; obtain ⟨fb', k9, g, cb', rfl, q⟩ := g2; exact ⟨rfl, hk.trans g1, fb', k9, g, cb', rfl, Nat.le_trans hk.size q.1, q.2⟩)
end Go.Proofs.YtocligpfmfmihabGreatDoor

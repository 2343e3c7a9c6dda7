import Derived.Test.YtocligpfmfmihabGreatDoorChn5wG
import Derived.Test.YtocligpfmfmihabGreatDoorMixG
namespace Go.Proofs.YtocligpfmfmihabGreatDoor
open Go Go.RowKit Go.Maps Go.WideMaps

/-- A key of its object. -/
def oneF (old : Bool) (till : Int) (id : Bs) (m : List (Bs × J)) : Option Ky := (strF (lookK kKey m)).bind fun k => if old then (momF (lookK kExp m)).map fun t => ⟨id, k, true, t⟩ else some ⟨id, k, false, till⟩
/-- What a closure that makes a key comes to. -/
def OnR (W w : World) (o : Option Ky) (e : Ending) (w' : World) : Prop := Kp (fun _ => False) w w' ∧ match o with
  | some k => e = .returned (.tuple #[.agg #[.string ⟨k.id.toArray⟩, .string ⟨k.key.toArray⟩, .bool k.old, .int .i64 k.till], .nilIface])
  | none => ∃ a b c d ev, e = .returned (.tuple #[.agg #[.string a, .string b, .bool c, .int .i64 d], ev]) ∧ Ech W w' ev
theorem kfacts {w : World} {q : Nat} {a b c d : Value} {T : TypeId} (h : w.heap[q]? = some (.cells #[a, b, c, d] T)) : w.cell? ⟨q, 0, none⟩ = some a ∧ w.cell? ⟨q, 1, none⟩ = some b ∧ w.cell? ⟨q, 2, none⟩ = some c ∧ w.cell? ⟨q, 3, none⟩ = some d ∧
    w.frozen? ⟨q, 0, none⟩ = false ∧ w.frozen? ⟨q, 1, none⟩ = false ∧ w.frozen? ⟨q, 2, none⟩ = false ∧ w.frozen? ⟨q, 3, none⟩ = false ∧ q < w.heap.size := by
  refine ⟨?_, ?_, ?_, ?_, ?_, ?_, ?_, ?_, lt_heap h⟩ <;> simp [World.cell?, World.frozen?, h]
theorem set4 {w : World} {q : Nat} {x y z u a b c d : Value} {T : TypeId} (h : w.heap[q]? = some (.cells #[x, y, z, u] T)) : ((((w.setCell ⟨q, 0, none⟩ a).setCell ⟨q, 1, none⟩ b).setCell ⟨q, 2, none⟩ c).setCell ⟨q, 3, none⟩ d).heap[q]? = some (.cells #[a, b, c, d] T) := by
  simp [World.setCell, Array.getElem?_modify, h]
theorem kp4 {w w6 : World} {a b c d : Value} (h : Kp (fun _ => False) w w6) : Kp (fun _ => False) w ((((w6.setCell ⟨w.heap.size, 0, none⟩ a).setCell ⟨w.heap.size, 1, none⟩ b).setCell ⟨w.heap.size, 2, none⟩ c).setCell ⟨w.heap.size, 3, none⟩ d) :=
  Kp.setCell (p := ⟨w.heap.size, 3, none⟩) (kp3 h) (fun q => absurd q (Nat.lt_irrefl _)) _
theorem k1_results {w : World} {rb : Nat} {a b c d ev : Value} (tmps : Array Value) (h2 : tmps[5]?.getD undef = .pointer (some ⟨rb, 0, none⟩)) (h3 : tmps[6]?.getD undef = ev) (hb : w.heap[rb]? = some (.cells #[a, b, c, d] 148)) :
    (results Tryz.f136 tmps).run Tryz.prog w = .ok (.tuple #[.agg #[a, b, c, d], ev]) w := by
  obtain ⟨c0, c1, c2, c3, _⟩ := kfacts hb
  simp [results, Tryz.results136, go_sem, h2, h3, c0, c1, c2, c3]
theorem k2_results {w : World} {rb : Nat} {a b c d ev : Value} (tmps : Array Value) (h2 : tmps[4]?.getD undef = .pointer (some ⟨rb, 0, none⟩)) (h3 : tmps[5]?.getD undef = ev) (hb : w.heap[rb]? = some (.cells #[a, b, c, d] 148)) :
    (results Tryz.f137 tmps).run Tryz.prog w = .ok (.tuple #[.agg #[a, b, c, d], ev]) w := by
  obtain ⟨c0, c1, c2, c3, _⟩ := kfacts hb
  simp [results, Tryz.results137, go_sem, h2, h3, c0, c1, c2, c3]
theorem Ech.old {W w w' : World} {ev : Value} (h : Ech W w ev) (hk : ∀ (k : Nat) (c : Array Value), w.heap[k]? = some (.cells c 190) → w'.heap[k]? = w.heap[k]?) : Ech W w' ev := by
  induction h with
  | base a h => exact .base a h
  | mem b s ev h _ ih => exact .mem b s ev ((hk b _ h).trans h) ih
theorem ech4 {W w : World} {q : Nat} {ev x y z u a b c d : Value} {T : TypeId} (h : Ech W w ev) (hq : w.heap[q]? = some (.cells #[x, y, z, u] T)) (hT : T ≠ 190) : Ech W ((((w.setCell ⟨q, 0, none⟩ a).setCell ⟨q, 1, none⟩ b).setCell ⟨q, 2, none⟩ c).setCell ⟨q, 3, none⟩ d) ev := by
  refine h.old ?_
  intro k c' hk
  have : k ≠ q := by
    rintro rfl
    rw [hq] at hk
    injection hk with hk
    injection hk with _ h2 _
    exact hT h2
  rw [heap_set_other (by exact this), heap_set_other (by exact this), heap_set_other (by exact this), heap_set_other (by exact this)]
theorem on_no {W w w6 : World} {o : Option Ky} {a b : ByteArray} {c : Bool} {d : Int} {ev x y z u : Value} (h : Kp (fun _ => False) w w6) (hq : w6.heap[w.heap.size]? = some (.cells #[x, y, z, u] 148)) (he : Ech W w6 ev) (ho : o = none) :
    OnR W w o (.returned (.tuple #[.agg #[.string a, .string b, .bool c, .int .i64 d], ev])) ((((w6.setCell ⟨w.heap.size, 0, none⟩ (.string a)).setCell ⟨w.heap.size, 1, none⟩ (.string b)).setCell ⟨w.heap.size, 2, none⟩ (.bool c)).setCell ⟨w.heap.size, 3, none⟩ (.int .i64 d)) := by
  subst ho
  exact ⟨kp4 h, _, _, _, _, _, rfl, ech4 he hq (by decide)⟩
theorem on_yes {W w w6 : World} {o : Option Ky} {k : Ky} (h : Kp (fun _ => False) w w6) (ho : o = some k) :
    OnR W w o (.returned (.tuple #[.agg #[.string ⟨k.id.toArray⟩, .string ⟨k.key.toArray⟩, .bool k.old, .int .i64 k.till], .nilIface])) ((((w6.setCell ⟨w.heap.size, 0, none⟩ (.string ⟨k.id.toArray⟩)).setCell ⟨w.heap.size, 1, none⟩ (.string ⟨k.key.toArray⟩)).setCell ⟨w.heap.size, 2, none⟩ (.bool k.old)).setCell ⟨w.heap.size, 3, none⟩ (.int .i64 k.till)) := by
  subst ho
  exact ⟨kp4 h, rfl⟩
set_option maxRecDepth 20000 in
theorem inUse1_c (W : World) (hN : NG2 W) (w : World) (hW : Below W.heap.size W w) (m : List (Bs × J)) (b ub : Nat) (id : Bs) (till : Int) (ho : Oz w m b) (hu : w.heap[ub]? = some (.cells #[.int .i64 till] 2)) :
    Calls Tryz.prog 136 #[.string ⟨id.toArray⟩, .map (some b), .pointer (some ⟨ub, 0, none⟩)] w fun e w' => OnR W w (oneF false till id m) e w' := by
  have K0 : Kp (fun _ => False) w (w.alloc (.cells #[.string ⟨#[]⟩, .string ⟨#[]⟩, .bool false, .int .i64 0] 148)) := (Kp.refl _ _).alloc _
  have I0 := heap_alloc_new w (.cells #[.string ⟨#[]⟩, .string ⟨#[]⟩, .bool false, .int .i64 0] 148)
  have HX := hide (textUnder_c W hN _ (below_kp hW K0) m b kKey (by decide) (ho.up K0))
  have hof : oneF false till id m = (strF (lookK kKey m)).map fun k => ⟨id, k, false, till⟩ := by
    unfold oneF
    cases strF (lookK kKey m) <;> rfl
  clear ho
  go_enter Tryz.func136, Tryz.ntmps136
  go_wp2_with fail
  generalize (w.alloc (.cells #[.string ⟨#[]⟩, .string ⟨#[]⟩, .bool false, .int .i64 0] 148)) = w0 at *
  refine HX.out.mono ?_
  rintro e w1 ⟨K1, h1⟩
  obtain ⟨cu, _⟩ := one_cells ((K0.trans K1).heap hu)
  have I1 := K1.heap I0
  obtain ⟨r0, r1, r2, r3, rf0, rf1, rf2, rf3, hrb⟩ := kfacts I1
  have HK := hide (K0.trans K1)
  clear HX K1 hu
  cases hs : strF (lookK kKey m) with
  | none =>
    rw [hs] at h1 hof
    obtain ⟨ev, rfl, he⟩ := h1
    obtain ⟨tt, u, rfl⟩ := he.iface
    have HE2 := hide (And.intro he hof)
    clear he hs hof
    go_wp2
    exact bodyPost_ret (k1_results _ rfl rfl (set4 I1)) rfl (on_no HK.out I1 HE2.out.1 HE2.out.2)
  | some s =>
    rw [hs] at h1 hof
    replace h1 : e = .returned (.tuple #[.string ⟨s.toArray⟩, .nilIface]) := h1
    subst h1
    have HE2 := hide hof
    clear hs hof
    go_wp2
    exact bodyPost_ret (k1_results _ rfl rfl (set4 I1)) rfl (on_yes (k := ⟨id, s, false, till⟩) HK.out HE2.out)
set_option maxRecDepth 20000 in
theorem old1_c (W : World) (hN : NG2 W) (w : World) (hW : Below W.heap.size W w) (m : List (Bs × J)) (b : Nat) (id : Bs) (till : Int) (ho : Oz w m b) :
    Calls Tryz.prog 137 #[.string ⟨id.toArray⟩, .map (some b)] w fun e w' => OnR W w (oneF true till id m) e w' := by
  have K0 : Kp (fun _ => False) w (w.alloc (.cells #[.string ⟨#[]⟩, .string ⟨#[]⟩, .bool false, .int .i64 0] 148)) := (Kp.refl _ _).alloc _
  have I0 := heap_alloc_new w (.cells #[.string ⟨#[]⟩, .string ⟨#[]⟩, .bool false, .int .i64 0] 148)
  have HX := hide (textUnder_c W hN _ (below_kp hW K0) m b kKey (by decide) (ho.up K0))
  have hof : oneF true till id m = (strF (lookK kKey m)).bind fun k => (momF (lookK kExp m)).map fun t => ⟨id, k, true, t⟩ := rfl
  go_enter Tryz.func137, Tryz.ntmps137
  go_wp2_with fail
  generalize (w.alloc (.cells #[.string ⟨#[]⟩, .string ⟨#[]⟩, .bool false, .int .i64 0] 148)) = w0 at *
  refine HX.out.mono ?_
  rintro e w1 ⟨K1, h1⟩
  have HY := hide (momentUnder_c W hN w1 (below_kp hW (K0.trans K1)) m b kExp (by decide) (ho.up (K0.trans K1)))
  have I1 := K1.heap I0
  obtain ⟨r0, r1, r2, r3, rf0, rf1, rf2, rf3, hrb⟩ := kfacts I1
  have HK := hide (K0.trans K1)
  clear HX K1
  cases hs : strF (lookK kKey m) with
  | none =>
    rw [hs] at h1 hof
    obtain ⟨ev, rfl, he⟩ := h1
    obtain ⟨tt, u, rfl⟩ := he.iface
    have HE2 := hide (And.intro he hof)
    clear he hs hof
    go_wp2
    exact bodyPost_ret (k2_results _ rfl rfl (set4 I1)) rfl (on_no HK.out I1 HE2.out.1 HE2.out.2)
  | some s =>
    rw [hs] at h1 hof
    replace h1 : e = .returned (.tuple #[.string ⟨s.toArray⟩, .nilIface]) := h1
    subst h1
    clear hs
    go_wp2_with fail
    refine HY.out.mono ?_
    rintro e w2 ⟨K2, h2⟩
    have HK2 := hide (HK.out.trans K2)
    have I2 := K2.heap I1
    clear r0 r1 r2 r3 rf0 rf1 rf2 rf3 hrb
    obtain ⟨r0, r1, r2, r3, rf0, rf1, rf2, rf3, hrb⟩ := kfacts I2
    clear HY K2
    cases hm : momF (lookK kExp m) with
    | none =>
      rw [hm] at h2 hof
      obtain ⟨ev, rfl, he⟩ := h2
      obtain ⟨tt, u, rfl⟩ := he.iface
      have HE2 := hide (And.intro he hof)
      clear he hm hof
      go_wp2
      exact bodyPost_ret (k2_results _ rfl rfl (set4 I2)) rfl (on_no HK2.out I2 HE2.out.1 HE2.out.2)
    | some t =>
      rw [hm] at h2 hof
      replace h2 : e = .returned (.tuple #[.int .i64 t, .nilIface]) := h2
      subst h2
      have HE2 := hide hof
      clear hm hof
      go_wp2
      exact bodyPost_ret (k2_results _ rfl rfl (set4 I2)) rfl (on_yes (k := ⟨id, s, true, t⟩) HK2.out HE2.out)
end Go.Proofs.YtocligpfmfmihabGreatDoor
namespace Go.Proofs.YtocligpfmfmihabGreatDoor
open Go Go.RowKit Go.Maps Go.WideMaps Go.Sort Go.Shelf

/-- What a round must keep: rows that are no keys but for one variable; maps that were there. -/
def KpT (n0 ob : Nat) (W W' : World) : Prop := W.heap.size ≤ W'.heap.size ∧ (∀ k c t fz, W.heap[k]? = some (.cells c t fz) → t ≠ 148 → k ≠ ob → W'.heap[k]? = W.heap[k]?) ∧ (∀ k es cl, k < n0 → W.heap[k]? = some (.map es cl) → W'.heap[k]? = W.heap[k]?)
theorem KpT.t {n0 ob : Nat} {A B C : World} (h : KpT n0 ob A B) (k : KpT n0 ob B C) : KpT n0 ob A C := by
  refine ⟨Nat.le_trans h.1 k.1, ?_, ?_⟩
  · intro i c t fz h1 h2 h3
    have e := h.2.1 i c t fz h1 h2 h3
    exact (k.2.1 i c t fz (e.trans h1) h2 h3).trans e
  · intro i es cl h0 h1
    have e := h.2.2 i es cl h0 h1
    exact (k.2.2 i es cl h0 (e.trans h1)).trans e
theorem KpT.b {n0 ob : Nat} {w : World} (hn : n0 ≤ w.heap.size) (W : World) (l : Nat) (o o' : Obj) (hl : w.heap.size ≤ l) (h : W.heap[l]? = some o) (hc : o.isCells = false) (_ : o.isWalk = false) : KpT n0 ob W (W.putObj l o') := by
  have hg := grownBy_putObj' W l o'
  refine ⟨hg.size, ?_, ?_⟩
  · intro i c t fz h1 _ _
    refine hg.block i (lt_heap h1) ?_
    intro e
    injection e with e
    subst e
    rw [h] at h1
    injection h1 with h1
    subst h1
    cases hc
  · intro i es cl h0 h1
    exact hg.block i (lt_heap h1) (by intro e; injection e with e; omega)
attribute [local go_sem] Oper.semAt_some
set_option maxRecDepth 20000 in
set_option maxHeartbeats 1000000 in
theorem members2 (n : Nat) (hn : 3 ≤ n) (lr bx b n0 ob : Nat) (m : List (Bs × Value)) (hm : Srt m) (hml : m.length ≤ 1000000) (hkl : ∀ p ∈ m, p.1.length ≤ 139000000000000) (hif : ∀ p ∈ m, ∃ t u, p.2 = .iface t u) (J Jx : List (Fin m.length) → World → Prop)
    (W : World) (hJ : AbidesFrom W.heap.size J)
    (hY : ∀ pre x W1, J pre W1 → pre.length < m.length → YieldAt Fence.wide (n - 1) Tryz.prog lr (encM m x) W1 fun e W' =>
      (e = .returned (.bool true) ∧ J (pre ++ [x]) W' ∧ KpT n0 ob W1 W') ∨ (e = .returned (.bool false) ∧ Jx (pre ++ [x]) W'))
    (hbx : W.heap[bx]? = some (.cells #[.map (some b)] 76)) (hbo : bx ≠ ob) (hob : ob < W.heap.size) (hown : W.ownsMap Tryz.prog 9 Rv b m.length (dm m)) (hbn : b < n0) (h0 : J [] W) :
    CallsIn Fence.wide n Tryz.prog 148 #[.func (.yield lr) #[] #[], .pointer (some ⟨bx, 0, none⟩)] W fun e W' => (∃ v, e = .returned v) ∧
      ((∃ xs, xs = List.finRange m.length ∧ J xs W') ∨ (∃ pre, True ∧ Jx pre W')) := by
  obtain ⟨cx, fx⟩ := one_cells hbx
  have hsz : Maps.size (dm m) = m.length := dm_size m
  refine callsIn_of_wp Tryz.func148 rfl trivial ?_ rfl
  simp only [Tryz.ntmps148, List.size_toArray, List.length_cons, List.length_nil, Nat.reduceAdd, Nat.reduceSub, Array.replicate_succ, Array.replicate_zero, List.push_toArray, List.append_toArray, List.nil_append, List.cons_append]
  have h1n : 1 ≤ n := by omega
  have hfK : Fence.wide.fn 150 := trivial
  have hfS : Fence.wide.fn 149 := trivial
  gi_wp2_with (first
    | (gi_at_call 150; refine (callsIn_wide.2 (callsIn_wide.1 (Tryz.maps_Keys_150 _ _))).mono ?_; rintro e w' ⟨rfl, rfl⟩)
    | (gi_at_call 149; refine (callsIn_wide.2 (callsIn_wide.1 (Tryz.slices_Sorted_keys_149_150 b m.length (dm m) Rv W hown (by rw [hsz]; unfold maxLen; omega) (by rw [hsz]; omega)))).mono ?_; rintro e w' ⟨v, ss, rfl, hS, hrow, hnil, hb⟩; obtain ⟨sa, cap, g, cur, rfl, hsa⟩ := slice_shape hrow))
  have hss : ss.length = m.length := by rw [hS.length_eq]; simp [strKeys, dm]
  rw [sorted_keys hm hS] at hsa
  have J2 : J [] w' := hJ [] _ _ none (hJ [] _ _ none h0 (World.grownBy_alloc W _ none) (fun r e => by cases e)) (below_grown hb) (fun r e => by cases e)
  have hbx2 : w'.heap[bx]? = some (.cells #[.map (some b)] 76) := (hb.block bx (by simp; have := lt_heap hbx; omega)).trans ((Below.heap_alloc _ _ _ (lt_heap hbx)).trans hbx)
  have hown2 : w'.ownsMap Tryz.prog 9 Rv b m.length (dm m) := ownsMap_heap hown ((hb.block b (by simp; have := hown.lt; omega)).trans (Below.heap_alloc _ _ _ hown.lt))
  have hgo : 0 < m.length → g ≠ ob := by
    intro h
    rw [hss] at hsa
    have := (hsa h).2.1
    simp at this
    omega
  clear hrow hnil hS
  generalize ss.length = L at *
  subst hss
  have HS := hide (And.intro hsa hgo)
  clear hsa hgo hsz cx fx hb
  gi_wp2_with fail
  have hmm : (m.length : Int) ≤ 1000000 := by omega
  gi_loopw [9] (fun i wr => ∃ k : Nat, k ≤ m.length ∧ i = .int .i64 (k : Int) ∧ J ((List.finRange m.length).take k) wr ∧ wr.heap[bx]? = some (.cells #[.map (some b)] 76) ∧ (0 < m.length → wr.heap[g]? = some (.cells cur 9)) ∧ wr.ownsMap Tryz.prog 9 Rv b m.length (dm m)) (fun i _ => m.length - (intOf i).toNat)
  case atStart => exact ⟨0, by omega, rfl, by simpa using J2, hbx2, fun h => (HS.out.1 h).2.2.1, hown2⟩
  case round =>
    obtain ⟨k, hk, rfl, hJr, hbr, hgr, hor⟩ := hrel
    by_cases hlt : k < m.length
    · obtain ⟨rfl, hg1, hg2, hcap, hcur⟩ := HS.out.1 (by omega)
      have hgr' := hgr (by omega)
      obtain ⟨tt, u, hif'⟩ := hif m[k] (List.getElem_mem hlt)
      have hck : wr.cell? ⟨g, k, none⟩ = some (.string ⟨m[k].1.toArray⟩) := by
        have e1 := hcur k hlt
        simp only [List.getElem?_map, List.getElem?_eq_getElem hlt, Option.map_some] at e1
        simp [World.cell?, hgr', e1]
      have hlook : lookK m[k].1 m = some m[k].2 := look_nth m hm k hlt
      obtain ⟨lv, lps, hlk, hlr⟩ := hor.lookup keyed Tryz.underlying76 (zeroV wr) (R := Rv) (zd := .held .nilIface) (zp := []) rfl (key_mk2 (hkl m[k] (List.getElem_mem hlt)))
      have hlv : lv = .iface tt u := by
        rw [dm_at, hlook] at hlr
        simp only [Rv, Option.some.injEq, Prod.mk.injEq, DataW.held.injEq] at hlr
        rw [hlr.1, hif']
      rw [hlv] at hlk
      obtain ⟨cx, fx⟩ := one_cells hbr
      have htl : ((List.finRange m.length).take k).length < m.length := by simp; omega
      obtain ⟨fn, tmps, assign, body, hy, hR⟩ := hY _ ⟨k, hlt⟩ wr hJr htl
      simp only [encM, Fin.getElem_fin, hif'] at hy
      generalize m[k].1 = key at *
      have hlt' : decide ((k : Int) < (m.length : Int)) = true := by simp; omega
      have HX := hide (And.intro hbr (And.intro hgr' hor))
      clear hlook hlr hlv hif' hbr hgr hgr' hor hcur hg2
      have htk : (List.finRange m.length).take (k + 1) = (List.finRange m.length).take k ++ [⟨k, hlt⟩] := by
        rw [List.take_succ_eq_append_getElem (by simpa using hlt)]
        simp
      have HT := hide htk
      clear htk
      gi_wp2
      refine hR.mono ?_
      rintro e W3 (⟨rfl, hJ3, hk3⟩ | ⟨rfl, hJx3⟩)
      · have hx1 := hk3.2.1 bx _ _ _ HX.out.1 (by decide) hbo
        have hx2 := hk3.2.1 g _ _ _ HX.out.2.1 (by decide) (HS.out.2 (by omega))
        have hx3 : W3.ownsMap Tryz.prog 9 Rv b m.length (dm m) := by
          obtain ⟨es, cl, q1, q2⟩ := HX.out.2.2
          exact ⟨es, cl, (hk3.2.2 b es cl hbn q1).trans q1, q2⟩
        have HZ := hide (And.intro (hx1.trans HX.out.1) (And.intro (hx2.trans HX.out.2.1) hx3))
        clear hx1 hx2 hx3
        gi_wp2
        go_roundw
        case rel => exact ⟨k + 1, by omega, int_i64 (by omega), by rw [HT.out]; exact hJ3, HZ.out.1, fun _ => HZ.out.2.1, HZ.out.2.2⟩
        case measure => simp [intOf]; omega
      · gi_wp2
        refine bodyPost_ret (results_none rfl _ _ _) rfl ?_
        exact ⟨⟨_, rfl⟩, .inr ⟨_, trivial, hJx3⟩⟩
    · have hlt' : decide ((k : Int) < (m.length : Int)) = false := by simp; omega
      gi_wp2
      go_end0
      refine ⟨⟨_, rfl⟩, .inl ⟨_, rfl, ?_⟩⟩
      have e1 : (List.finRange m.length).take k = List.finRange m.length := List.take_of_length_le (by simp; omega)
      rw [e1] at hJr
      exact hJr
end Go.Proofs.YtocligpfmfmihabGreatDoor
namespace Go.Proofs.YtocligpfmfmihabGreatDoor
open Go Go.RowKit Go.Maps Go.WideMaps Go.Sort Go.Shelf
attribute [local go_sem] Oper.semAt_some

/-- What keysUnder comes to. -/
def KuR (W w : World) (o : Option (List Ky)) (e : Ending) (w' : World) : Prop := Kp (fun _ => False) w w' ∧ match o with
  | some ks => ∃ v, e = .returned (.tuple #[v, .nilIface]) ∧ w'.ownsRow w.heap.size 148 4 v ks.length (ks.flatMap kyC)
  | none => ∃ ev, e = .returned (.tuple #[.slice none 0 0, ev]) ∧ Ech W w' ev
/-- The contract of a closure that makes a key. -/
def OneC (W : World) (fn : Nat) (cap : Array Value) (P : World → Prop) (old : Bool) (till : Int) : Prop := ∀ (w : World) (m : List (Bs × J)) (b : Nat) (id : Bs), Below W.heap.size W w → P w → Oz w m b →
  Calls Tryz.prog fn (#[.string ⟨id.toArray⟩, .map (some b)] ++ cap) w fun e w' => OnR W w (oneF old till id m) e w'
theorem four_new (w : World) (A B C D : Obj) : let x := (((w.alloc A).alloc B).alloc C).alloc D
    x.heap[w.heap.size]? = some A ∧ x.heap[w.heap.size + 1]? = some B ∧ x.heap[w.heap.size + 1 + 1]? = some C ∧ x.heap[w.heap.size + 1 + 1 + 1]? = some D := by
  refine ⟨?_, ?_, ?_, ?_⟩
  · rw [Below.heap_alloc _ _ _ (by simp only [World.size_alloc]; omega), Below.heap_alloc _ _ _ (by simp only [World.size_alloc]; omega), Below.heap_alloc _ _ _ (by simp only [World.size_alloc]; omega)]
    exact heap_alloc_new w A
  · rw [Below.heap_alloc _ _ _ (by simp only [World.size_alloc]; omega), Below.heap_alloc _ _ _ (by simp only [World.size_alloc]; omega)]
    have := heap_alloc_new (w.alloc A) B
    rwa [World.size_alloc] at this
  · rw [Below.heap_alloc _ _ _ (by simp)]
    have := heap_alloc_new ((w.alloc A).alloc B) C
    rwa [World.size_alloc, World.size_alloc] at this
  · have := heap_alloc_new (((w.alloc A).alloc B).alloc C) D
    rwa [World.size_alloc, World.size_alloc, World.size_alloc] at this
theorem three_new (w : World) (A B C : Obj) : let x := ((w.alloc A).alloc B).alloc C
    x.heap[w.heap.size]? = some A ∧ x.heap[w.heap.size + 1]? = some B ∧ x.heap[w.heap.size + 1 + 1]? = some C := by
  refine ⟨?_, ?_, ?_⟩
  · rw [Below.heap_alloc _ _ _ (by simp only [World.size_alloc]; omega), Below.heap_alloc _ _ _ (by simp only [World.size_alloc]; omega)]
    exact heap_alloc_new w A
  · rw [Below.heap_alloc _ _ _ (by simp only [World.size_alloc]; omega)]
    have := heap_alloc_new (w.alloc A) B
    rwa [World.size_alloc] at this
  · have := heap_alloc_new ((w.alloc A).alloc B) C
    rwa [World.size_alloc, World.size_alloc] at this
theorem keysF_none {old : Bool} {till : Int} : ∀ {l : List (Bs × J)} {p : Bs × J}, p ∈ l → keyF old till p.1 p.2 = none → keysF old till l = none
  | (a, j) :: l, p, hp, h => by
    simp only [keysF]
    rcases List.mem_cons.1 hp with rfl | hp
    · rw [h]; rfl
    · rw [keysF_none hp h]
      cases keyF old till a j <;> rfl
theorem keyF_one (old : Bool) (till : Int) (id : Bs) (j : J) : keyF old till id j = if isNm id then (objF (some j)).bind (oneF old till id) else none := by
  unfold keyF
  cases j <;> rfl
theorem look_nthJ {α : Type} : ∀ (m : List (Bs × α)) (_ : Srt m) (k : Nat) (p : Bs × α), m[k]? = some p → lookK p.1 m = some p.2
  | (a, x) :: l, hm, 0, p, h => by
    simp at h
    subst h
    simp [lookK]
  | (a, x) :: l, hm, k + 1, p, h => by
    obtain ⟨h1, h2⟩ := List.pairwise_cons.1 hm
    have h' : l[k]? = some p := by simpa using h
    have h3 := h1 p (List.mem_of_getElem? h')
    simp only [lookK]
    rw [if_neg (by intro e; rw [← e] at h3; exact lt_irr _ h3)]
    exact look_nthJ l h2 k p h'
theorem nthM_list (l : List (Bs × J)) (n : Nat) (h : n = l.length) : (List.finRange n).map (fun i => nthM l i.val) = l := by
  subst h
  refine List.ext_getElem (by simp) ?_
  intro i h1 h2
  simp only [List.getElem_map, List.getElem_finRange]
  unfold nthM
  simp [h2]
theorem ku_results {w : World} {q z : Nat} {v ev : Value} (tmps : Array Value) (h2 : tmps[6]?.getD undef = .pointer (some ⟨q, 0, none⟩)) (h3 : tmps[7]?.getD undef = .pointer (some ⟨z, 0, none⟩)) (hb : w.heap[q]? = some (.cells #[v] 81)) (hc : w.heap[z]? = some (.cells #[ev] 58)) :
    (results Tryz.f135 tmps).run Tryz.prog w = .ok (.tuple #[v, ev]) w := by
  obtain ⟨c0, _⟩ := one_cells hb
  obtain ⟨c1, _⟩ := one_cells hc
  simp [results, Tryz.results135, go_sem, h2, h3, c0, c1]
theorem grown_cells {W W' : World} {row : Option Nat} (hg : W.grownBy W' row) (hr : ∀ r, row = some r → ∃ o : Obj, W.heap[r]? = some o ∧ o.isCells = false) {k : Nat} {c : Array Value} {t : TypeId} {fz : Nat × Nat} (h : W.heap[k]? = some (.cells c t fz)) : W'.heap[k]? = some (.cells c t fz) := by
  rw [hg.block k (lt_heap h) ?_]
  · exact h
  · intro e
    obtain ⟨o', q1, q2⟩ := hr k e.symm
    rw [h] at q1
    injection q1 with q1
    subst q1
    cases q2
theorem kp_keeps {S : Nat → Prop} {X Y : World} (h : Kp S X Y) (hS : ∀ k, S k → ∃ c t fz, X.heap[k]? = some (.cells c t fz)) : KeepsOthers X Y :=
  ⟨h.size, fun k o h1 h2 => (h.block k (lt_heap h1) (fun hs => by obtain ⟨c, t, fz, e⟩ := hS k hs; rw [h1] at e; injection e with e; subst e; cases h2)).trans h1⟩
theorem set_kp2 {w X : World} {q z : Nat} {a b : Value} (h : Kp (fun _ => False) w X) (hq : w.heap.size ≤ q) (hz : w.heap.size ≤ z) : Kp (fun _ => False) w ((X.setCell ⟨q, 0, none⟩ a).setCell ⟨z, 0, none⟩ b) :=
  Kp.setCell (p := ⟨z, 0, none⟩) (Kp.setCell (p := ⟨q, 0, none⟩) h (fun e => by exact absurd e (Nat.not_lt.2 hq)) _) (fun e => by exact absurd e (Nat.not_lt.2 hz)) _
theorem set_two {X : World} {q z : Nat} {x y a b : Value} {T U : TypeId} (hq : X.heap[q]? = some (.cells #[x] T)) (hz : X.heap[z]? = some (.cells #[y] U)) (hqz : q ≠ z) : ((X.setCell ⟨q, 0, none⟩ a).setCell ⟨z, 0, none⟩ b).heap[q]? = some (.cells #[a] T) ∧ ((X.setCell ⟨q, 0, none⟩ a).setCell ⟨z, 0, none⟩ b).heap[z]? = some (.cells #[b] U) := by
  constructor
  · rw [heap_set_other (by exact hqz)]
    exact one_set hq a
  · exact one_set (v := y) (by rw [heap_set_other (by exact Ne.symm hqz)]; exact hz) b
theorem ech2 {W X : World} {q z : Nat} {ev x y a b : Value} {T U : TypeId} (h : Ech W X ev) (hq : X.heap[q]? = some (.cells #[x] T)) (hz : X.heap[z]? = some (.cells #[y] U)) (hT : T ≠ 190) (hU : U ≠ 190) : Ech W ((X.setCell ⟨q, 0, none⟩ a).setCell ⟨z, 0, none⟩ b) ev := by
  refine h.old ?_
  intro k c' hk
  have h1 : k ≠ q := by
    rintro rfl
    rw [hq] at hk
    injection hk with hk
    injection hk with _ h2 _
    exact hT h2
  have h2 : k ≠ z := by
    rintro rfl
    rw [hz] at hk
    injection hk with hk
    injection hk with _ h2 _
    exact hU h2
  rw [heap_set_other (by exact h2), heap_set_other (by exact h1)]
/-- The invariant of the rounds. -/
def KIv (X0 : World) (kb : Nat) (old : Bool) (till : Int) (m : List (Bs × J)) (n : Nat) (pre : List (Fin n)) (X : World) : Prop :=
  ∃ vv ks, X.heap[kb]? = some (.cells #[vv] 81) ∧ X.ownsRow X0.heap.size 148 4 vv ks.length (ks.flatMap kyC) ∧ keysF old till (pre.map fun i => nthM m i.val) = some ks ∧ Kp (· = kb) X0 X
/-- Where a round goes back. -/
def KIx (W w : World) (q z : Nat) (old : Bool) (till : Int) (m : List (Bs × J)) (n : Nat) (c : Code) (_ : List (Fin n)) (X : World) : Prop :=
  c = .ret ∧ ∃ ev, X.heap[q]? = some (.cells #[.slice none 0 0] 81) ∧ X.heap[z]? = some (.cells #[ev] 58) ∧ Ech W X ev ∧ keysF old till m = none ∧ Kp (fun _ => False) w X
theorem Kp.gr {S : Nat → Prop} {a X Y : World} {row : Option Nat} (h : Kp S a X) (hg : X.grownBy Y row) (hr : ∀ r, row = some r → a.heap.size ≤ r) : Kp S a Y := h.grown hg (fun k e hk => by have := hr k e; omega)
theorem KIv.own {X0 : World} {kb : Nat} {old : Bool} {till : Int} {m : List (Bs × J)} {n : Nat} : OwnFrom X0.heap.size (KIv X0 kb old till m n) := by
  rintro pre X Y row ⟨vv, ks, h1, h2, h3, h4⟩ hg hr
  refine ⟨vv, ks, grown_cells hg (fun r e => (hr r e).2) h1, ownsRow_heap h2 ?_, h3, h4.gr hg (fun r e => (hr r e).1)⟩
  intro k e
  obtain ⟨_, ⟨rfl, _⟩ | ⟨g, cap, cur, rfl, _, hh, _⟩⟩ := h2
  · cases e
  · injection e with e
    subst e
    rw [grown_cells hg (fun r e => (hr r e).2) hh, hh]
theorem KIx.own {W w : World} {B q z : Nat} {old : Bool} {till : Int} {m : List (Bs × J)} {n : Nat} (c : Code) (hB : w.heap.size ≤ B) : OwnFrom B (KIx W w q z old till m n c) := by
  rintro pre X Y row ⟨h0, ev, h1, h2, h3, h4, h5⟩ hg hr
  exact ⟨h0, ev, grown_cells hg (fun r e => (hr r e).2) h1, grown_cells hg (fun r e => (hr r e).2) h2, h3.old (fun k c hk => (grown_cells hg (fun r e => (hr r e).2) hk).trans hk.symm), h4, h5.gr hg (fun r e => by have := (hr r e).1; omega)⟩
theorem kix_out {W w X Y : World} {q z : Nat} {old : Bool} {till : Int} {m : List (Bs × J)} {n : Nat} {pre : List (Fin n)} {ev x y : Value} (hXY : Kp (fun _ => False) X Y) (hwY : Kp (fun _ => False) w Y) (hq : X.heap[q]? = some (.cells #[x] 81)) (hz : X.heap[z]? = some (.cells #[y] 58)) (hqz : q ≠ z) (hwq : w.heap.size ≤ q) (hwz : w.heap.size ≤ z) (he : Ech W Y ev) (hn : keysF old till m = none) :
    KeepsOthers X ((Y.setCell ⟨q, 0, none⟩ (.slice none 0 0)).setCell ⟨z, 0, none⟩ ev) ∧ KIx W w q z old till m n .ret pre ((Y.setCell ⟨q, 0, none⟩ (.slice none 0 0)).setCell ⟨z, 0, none⟩ ev) := by
  have hq' := hXY.heap hq
  have hz' := hXY.heap hz
  obtain ⟨s1, s2⟩ := set_two (a := .slice none 0 0) (b := ev) hq' hz' hqz
  refine ⟨kp_keeps (S := fun k => k = q ∨ k = z) ?_ ?_, rfl, ev, s1, s2, ech2 he hq' hz' (by decide) (by decide), hn, set_kp2 hwY hwq hwz⟩
  · exact Kp.setCell (p := ⟨z, 0, none⟩) (Kp.setCell (p := ⟨q, 0, none⟩) (hXY.mono (fun _ _ h => h.elim)) (fun _ => Or.inl rfl) _) (fun _ => Or.inr rfl) _
  · rintro k (rfl | rfl)
    · exact ⟨_, _, _, hq⟩
    · exact ⟨_, _, _, hz⟩
end Go.Proofs.YtocligpfmfmihabGreatDoor

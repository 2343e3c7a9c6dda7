import Derived.Test.YtocligpfmfmihaaGreatDoorPn11
import Derived.Test.YtocligpfmfmihaaGreatDoorRef16
import Derived.Test.YtocligpfmfmihaaGreatDoorLaw1
import Derived.Test.YtocligpfmfmihaaGreatDoorRows
import Derived.Deep.Slices
import Derived.SliceStrings
namespace Go.Proofs.YtocligpfmfmihaaGreatDoor
open Go Go.RowKit Go.Maps Go.WideMaps Go.MuLone
attribute [local go_sem] Oper.semAt_some

theorem nilS (w : World) : (binOp .eql 36 (.slice none 0 0) (.slice none 0 0)).run Tryz.prog w = .ok (.bool true) w := by kernel_rfl
theorem someS (ad : Addr) (n c : Nat) (w : World) : (binOp .eql 36 (.slice (some ad) n c) (.slice none 0 0)).run Tryz.prog w = .ok (.bool false) w := by kernel_rfl
set_option maxRecDepth 20000 in
set_option maxHeartbeats 4000000 in
theorem clone_c (w : World) (B : Nat) (v : Value) (xs : List Bs) (row : w.ownsRow B 9 1 v xs.length (xs.map fun s => .string ⟨s.toArray⟩)) (hn : xs.length ≤ 1100000000) :
    Calls Tryz.prog 54 #[v] w fun e w' => ∃ v', e = .returned v' ∧ Kp (fun _ => False) w w' ∧ w'.ownsRow w.heap.size 9 1 v' xs.length (xs.map fun s => .string ⟨s.toArray⟩) := by
  obtain ⟨va, vc, rfl⟩ := own_slice row
  cases va with
  | none =>
    have hz : xs = [] ∧ vc = 0 := by
      rcases row.2 with ⟨e1, e⟩ | ⟨g, cap, cur, e, _⟩
      · injection e1 with _ _ e1
        exact ⟨List.length_eq_zero_iff.1 e, e1⟩
      · injection e with e; cases e
    obtain ⟨rfl, rfl⟩ := hz
    clear row
    have hq := nilS
    go_enter Tryz.func54, Tryz.ntmps54
    go_wp2
    go_ret
    exact ⟨_, rfl, Kp.refl _ _, World.ownsRow_nil _ _ _ _⟩
  | some ad =>
    have hq := someS ad xs.length vc
    go_enter Tryz.func54, Tryz.ntmps54
    obtain ⟨i0, hi, hz0, hz1, hz2⟩ := info_parts infoStr
    obtain ⟨g, rfl⟩ : ∃ g, ad = ⟨g, 0, none⟩ := by
      rcases row.2 with ⟨e1, _⟩ | ⟨g, cap, cur, e, _⟩
      · injection e1 with e1; cases e1
      · injection e with e
        injection e with e
        exact ⟨g, e⟩
    have hnew : ∀ ad, some (⟨g, 0, none⟩ : Addr) = some ad → ∀ j u, (xs.map fun s => Value.string ⟨s.toArray⟩)[j]? = some u → (w.alloc (.cells #[] 9)).cell? (ad.add j) = some u := by
      intro ad h j u hu
      injection h with h
      subst h
      exact (row.alloc (.cells #[] 9)).cells (g := g) rfl j u hu
    have hone : ∀ u ∈ (xs.map fun s => Value.string ⟨s.toArray⟩), u.oneCell' = true := by
      intro u hu
      obtain ⟨s, _, rfl⟩ := List.mem_map.1 hu
      rfl
    have r0 := World.ownsRow_lit (base := w.heap.size) (e := 9) (size := 1) w #[] 0 (Nat.le_refl _) (Nat.zero_le _) rfl
    have HN := hide (And.intro hnew (And.intro hone r0))
    clear hnew hone r0 row
    go_wp2_with (at_builtin; (refine wpList_append_any _ rfl _ _ 36 rfl w.heap.size 9 i0 (.string ⟨#[]⟩) 1 16 Tryz.underlying36 hi hz0 hz1 hz2 rfl (by decide) _ _ _ rfl HN.out.2.2 (some ⟨g, 0, none⟩) xs.length vc (xs.map fun s => Value.string ⟨s.toArray⟩) rfl (by simp) (fun h => by cases h) HN.out.1 HN.out.2.1 (by unfold maxLen; omega) (by omega) (by simp) ?_))
    intro v' w' y1 y2 y3
    have K2 : Kp (fun _ => False) w w' := ((Kp.refl _ w).alloc _).gr y2 (fun r e => by have := Option.some.inj (show some w.heap.size = some r from e); omega)
    have HY := hide (And.intro y1 K2)
    clear y1 y2 y3 K2
    go_wp2
    go_ret
    refine ⟨_, rfl, HY.out.2, ?_⟩
    exact HY.out.1
set_option maxRecDepth 20000 in
theorem newKnown_c (w : World) : Calls Tryz.prog 55 #[] w fun e w' => ∃ F kb, e = .returned (.pointer (some ⟨kb, 0, none⟩)) ∧ Kp (fun _ => False) w w' ∧ KN w' F kb Ldg.zero 0 ∧ (∀ k, F k → w.heap.size ≤ k ∧ k < w'.heap.size) := by
  have hm1 : ∀ (w : World), (Instr.makeMap 168 none).run Tryz.prog w = .ok (.map (some w.heap.size)) (w.alloc (.map #[] 0)) := by
    intro w
    simp [Instr.makeMap, Result.andThen]
  have hm2 : ∀ (w : World), (Instr.makeMap 169 none).run Tryz.prog w = .ok (.map (some w.heap.size)) (w.alloc (.map #[] 0)) := by
    intro w
    simp [Instr.makeMap, Result.andThen]
  go_enter Tryz.func55, Tryz.ntmps55
  go_wp2
  go_ret
  obtain ⟨i1, i2, i3⟩ := three_new w (.map #[] 0) (.map #[] 0) (.cells #[.int .i32 0, .int .u32 0, .map (some w.heap.size), .map (some (w.heap.size + 1))] 177)
  have o1 : (w.alloc (.map #[] 0)).ownsMap Tryz.prog 9 Rv w.heap.size 0 (dm []) := by simpa [dm] using World.ownsMap_made w Tryz.prog 9 Rv
  have o2 : ((w.alloc (.map #[] 0)).alloc (.map #[] 0)).ownsMap Tryz.prog 9 Rv (w.heap.size + 1) 0 (dm []) := by
    have h := World.ownsMap_made (w.alloc (.map #[] 0)) Tryz.prog 9 Rv
    rw [World.size_alloc] at h
    simpa [dm] using h
  have Kf : Kp (fun _ => False) w (((w.alloc (.map #[] 0)).alloc (.map #[] 0)).alloc (.cells #[.int .i32 0, .int .u32 0, .map (some w.heap.size), .map (some (w.heap.size + 1))] 177)) := (((Kp.refl _ _).alloc _).alloc _).alloc _
  have hsz : (((w.alloc (.map #[] 0)).alloc (.map #[] 0)).alloc (.cells #[.int .i32 0, .int .u32 0, .map (some w.heap.size), .map (some (w.heap.size + 1))] 177)).heap.size = w.heap.size + 3 := by simp
  refine ⟨fun k => k = w.heap.size ∨ k = w.heap.size + 1 ∨ k = w.heap.size + 1 + 1, w.heap.size + 1 + 1, rfl, Kf, ⟨w.heap.size, w.heap.size + 1, [], [], fun _ => 0, fun _ => 0, fun _ => [], ?_⟩, ?_⟩
  · refine ⟨i3, ?_, ?_, List.Pairwise.nil, List.Pairwise.nil, fun _ => rfl, fun _ => rfl, fun _ _ h => (by cases h), fun _ _ _ => rfl, fun _ _ _ _ h => (by cases h), fun _ _ h => (by cases h), (by omega), Nat.le_refl _, Nat.le_refl _, Or.inr (Or.inr rfl), Or.inl rfl, Or.inr (Or.inl rfl), fun _ _ h => by cases h⟩
    · refine ownsMap_heap o1 ?_
      rw [i1, heap_alloc_new]
    · refine ownsMap_heap o2 ?_
      rw [i2]
      have h := heap_alloc_new (w.alloc (.map #[] 0)) (.map #[] 0)
      rw [World.size_alloc] at h
      exact h.symm
  · rintro k (rfl | rfl | rfl)
    all_goals rw [hsz]
    all_goals omega
set_option maxRecDepth 20000 in
set_option maxHeartbeats 4000000 in
theorem new_c (w : World) (nm id ky : Bs) (B : Nat) (v : Value) (xs : List Bs) (row : w.ownsRow B 9 1 v xs.length (xs.map fun s => .string ⟨s.toArray⟩)) (hn : xs.length ≤ 1100000000) :
    Calls Tryz.prog 28 #[.string ⟨nm.toArray⟩, .string ⟨id.toArray⟩, .string ⟨ky.toArray⟩, v] w fun e w' => ∃ F nb, e = .returned (.pointer (some ⟨nb, 0, none⟩)) ∧ Kp (fun _ => False) w w' ∧ PN w' F nb nm id ky xs Ldg.zero 0 ∧ (∀ k, F k → w.heap.size ≤ k) := by
  have HC : Hid (∀ X, Kp (fun _ => False) w X → Calls Tryz.prog 54 #[v] X fun e w' => ∃ v', e = .returned v' ∧ Kp (fun _ => False) X w' ∧ w'.ownsRow X.heap.size 9 1 v' xs.length (xs.map fun s => .string ⟨s.toArray⟩)) := fun X hX => clone_c X B v xs (ownsRow_kp row hX (by simp)) hn
  obtain ⟨va, vc, rfl⟩ := own_slice row
  clear row
  go_enter Tryz.func28, Tryz.ntmps28
  go_wp2_with fail
  refine (HC.out w (Kp.refl _ _)).mono ?_
  rintro e w1 ⟨v1, rfl, K1, row1⟩
  obtain ⟨v1a, v1c, rfl⟩ := own_slice row1
  have HR := hide row1
  have HK1 := hide K1
  clear row1 K1 HC
  go_wp2_with fail
  refine (newKnown_c w1).mono ?_
  rintro e w2 ⟨Fk, kb, rfl, K2, hkn, hFk⟩
  have HN := hide (And.intro K2 (And.intro hkn hFk))
  clear K2 hkn hFk
  go_wp2
  go_ret
  have K3 : Kp (fun _ => False) w2 (w2.alloc (.cells #[.string ⟨nm.toArray⟩, .string ⟨id.toArray⟩, .string ⟨ky.toArray⟩, .slice v1a xs.length v1c, .pointer (some ⟨kb, 0, none⟩)] 100)) := (Kp.refl _ _).alloc _
  have row3 := ownsRow_kp HR.out (HN.out.1.trans K3) (by simp)
  have hs1 := HK1.out.size
  have hs2 := HN.out.1.size
  refine ⟨fun k => Fk k ∨ k = w2.heap.size ∨ (Value.slice v1a xs.length v1c).ownBlock = some k, w2.heap.size, rfl, (HK1.out.trans HN.out.1).trans K3, ⟨Fk, kb, .slice v1a xs.length v1c, ?_⟩, ?_⟩
  · refine ⟨heap_alloc_new w2 _, HN.out.2.1.kp (fun k h => (HN.out.2.2 k h).2) K3, own_base (Nat.zero_le _) row3, Or.inr (Or.inl rfl), ?_, fun _ h => Or.inl h, ?_, ?_⟩
    · intro k e
      refine ⟨Or.inr (Or.inr e), fun hf => ?_⟩
      have h1 := (HN.out.2.2 k hf).1
      have h2 := (HR.out.lt k e).2
      omega
    · intro hf
      have := (HN.out.2.2 _ hf).2
      omega
    · rw [World.size_alloc]
      rintro k (hf | rfl | e)
      · have := (HN.out.2.2 k hf).2
        omega
      · omega
      · have := (HR.out.lt k e).2
        omega
  · rintro k (hf | rfl | e)
    · have := (HN.out.2.2 k hf).1
      omega
    · omega
    · exact (HR.out.lt k e).1
end Go.Proofs.YtocligpfmfmihaaGreatDoor
namespace Go.Proofs.YtocligpfmfmihaaGreatDoor
open Go Go.RowKit Go.Maps
attribute [local go_sem] Oper.semAt_some
theorem rn_zero {w : World} {rb : Nat} {nm id ky : Bs} {so : Value} (h : w.heap[rb]? = some (rnCells nm id ky so (.slice none 0 0) (.slice none 0 0) (.slice none 0 0))) : RN w (fun k => k = rb) rb nm id ky so Ldg.zero 0 :=
  ⟨_, _, _, [], [], [], ⟨h, World.ownsRow_nil _ _ _ _, World.ownsRow_nil _ _ _ _, World.ownsRow_nil _ _ _ _⟩, ⟨fun _ _ => rfl, fun _ => rfl, fun _ => rfl, List.nodup_nil, List.nodup_nil, List.nodup_nil⟩, Nat.le_refl _, Nat.le_refl _, Nat.le_refl _, rfl, fun k h => by rcases h with h | h | h <;> cases h⟩
set_option maxRecDepth 20000 in
set_option maxHeartbeats 4000000 in
theorem pair_c (w : World) (nm id ky : Bs) (xs : List Bs) (va : Option Addr) (vc : Nat) (hn : va = none → xs.length = 0 ∧ vc = 0) (hcell : ∀ ad, va = some ad → ∀ j u, (xs.map fun s => Value.string ⟨s.toArray⟩)[j]? = some u → w.cell? (ad.add j) = some u) (hx : xs.length ≤ 1100000000) :
    Calls Tryz.prog 50 #[.string ⟨nm.toArray⟩, .string ⟨id.toArray⟩, .string ⟨ky.toArray⟩, .slice va xs.length vc] w fun e w' => ∃ (F : Nat → Prop) (pb : Nat), e = .returned (.pointer (some ⟨pb, 0, none⟩)) ∧ Kp (fun _ => False) w w' ∧ PR w' F pb nm id ky xs (.slice va xs.length vc) Ldg.zero 0 ∧ (∀ k, F k → w.heap.size ≤ k) := by
  obtain ⟨i0, hi, hz0, hz1, hz2⟩ := info_parts infoStr
  have hnew : ∀ ad, va = some ad → ∀ j u, (xs.map fun s => Value.string ⟨s.toArray⟩)[j]? = some u → (w.alloc (.cells #[] 9)).cell? (ad.add j) = some u := fun ad h j u hu => ((Kp.refl _ w).alloc _).cel (hcell ad h j u hu)
  have hone : ∀ u ∈ (xs.map fun s => Value.string ⟨s.toArray⟩), u.oneCell' = true := by
    intro u hu
    obtain ⟨s, _, rfl⟩ := List.mem_map.1 hu
    rfl
  have r0 := World.ownsRow_lit (base := w.heap.size) (e := 9) (size := 1) w #[] 0 (Nat.le_refl _) (Nat.zero_le _) rfl
  have HN := hide (And.intro hnew (And.intro hone (And.intro r0 hn)))
  clear hnew hone r0 hcell hn
  go_enter Tryz.func50, Tryz.ntmps50
  go_wp2_with (at_builtin; (refine wpList_append_any _ rfl _ _ 36 rfl w.heap.size 9 i0 (.string ⟨#[]⟩) 1 16 Tryz.underlying36 hi hz0 hz1 hz2 rfl (by decide) _ _ _ rfl HN.out.2.2.1 va xs.length vc (xs.map fun s => Value.string ⟨s.toArray⟩) rfl (by simp) HN.out.2.2.2 HN.out.1 HN.out.2.1 (by unfold maxLen; omega) (by omega) (by simp) ?_))
  intro v1 w1 y1 y2 y3
  have K1 : Kp (fun _ => False) w w1 := ((Kp.refl _ w).alloc _).gr y2 (fun r e => by have := Option.some.inj (show some w.heap.size = some r from e); omega)
  have y4 : w1.ownsRow w.heap.size 9 1 v1 xs.length (xs.map fun s => Value.string ⟨s.toArray⟩) := by simpa using y1
  obtain ⟨la, lc, rfl, hlm, hla⟩ := own_sl y4
  have HY := hide (And.intro y4 (And.intro K1 hla))
  clear y1 y2 y3 K1 y4 hla
  go_wp2_with fail
  refine (new_c w1 nm id ky w.heap.size _ xs HY.out.1 hx).mono ?_
  rintro e w2 ⟨Fn, nb, rfl, K2, hPN, hFl⟩
  have hsz1 := HY.out.2.1.size
  have hsz2 := K2.size
  have HP := hide (And.intro K2 (And.intro hPN hFl))
  clear K2 hPN hFl
  go_wp2_with fail
  go_loopg [11] xs.length (fun gg q wx => ∃ (i : Nat) (ys : List Value), gg = xs.length - i ∧ i ≤ xs.length ∧ q = .int .i64 (i : Int) ∧ wx.ownsRow w.heap.size 9 1 (.slice la xs.length lc) xs.length ys ∧ Kp (fun k => (Value.slice la xs.length lc).ownBlock = some k) w2 wx)
  case atStart => exact ⟨0, _, rfl, by omega, rfl, ownsRow_kp HY.out.1 HP.out.1 (by simp), Kp.refl _ _⟩
  case round =>
    obtain ⟨i, ys, hgg, hin, rfl, row, Kr⟩ := hrel
    by_cases hlt : i < xs.length
    · have hlt' : (i : Int) < (xs.length : Int) := by omega
      obtain ⟨g, rfl, _⟩ := HY.out.2.2 (by omega)
      have m4 := row.frozenAt i
      have hyl := row.1
      obtain ⟨u, hu⟩ : ∃ u, ys[i]? = some u := ⟨ys[i]'(by omega), List.getElem?_eq_getElem (by omega)⟩
      have m5 : wr.cell? ⟨g, i, none⟩ = some u := own_cell row i u hu
      have HR := hide (And.intro hgg (And.intro row Kr))
      clear hgg row Kr hu hyl
      go_wp2
      go_roundg (xs.length - (i + 1))
      all_goals first
        | (rw [HR.out.1]; omega)
        | exact ⟨i + 1, _, rfl, by omega, int_i64 (by omega), (HR.out.2.1.stored i _).1, HR.out.2.2.setCell (p := ⟨g, i, none⟩) (fun _ => rfl) _⟩
    · have hlt' : ¬ (i : Int) < (xs.length : Int) := by omega
      have HR := hide (And.intro hgg (And.intro row Kr))
      clear hgg row Kr
      go_wp2
      go_ret
      have Ka : Kp (fun _ => False) w wr := (HY.out.2.1.trans HP.out.1).and HR.out.2.2 (fun q hq e => by have := (HY.out.1.lt q e).1; omega)
      have hsr := HR.out.2.2.size
      have hlt2 : ∀ k, Fn k → k < w2.heap.size := by
        obtain ⟨Fk, kb, so, h⟩ := HP.out.2.1
        exact h.lt
      have ha := heap_alloc_new wr (rnCells nm id ky (.slice va xs.length vc) (.slice none 0 0) (.slice none 0 0) (.slice none 0 0))
      have hb := heap_alloc_new (wr.alloc (rnCells nm id ky (.slice va xs.length vc) (.slice none 0 0) (.slice none 0 0) (.slice none 0 0))) (.cells #[.pointer (some ⟨nb, 0, none⟩), .pointer (some ⟨wr.heap.size, 0, none⟩)] 90)
      have hz : (wr.alloc (rnCells nm id ky (.slice va xs.length vc) (.slice none 0 0) (.slice none 0 0) (.slice none 0 0))).heap.size = wr.heap.size + 1 := by simp
      have hz2 : ((wr.alloc (rnCells nm id ky (.slice va xs.length vc) (.slice none 0 0) (.slice none 0 0) (.slice none 0 0))).alloc (.cells #[.pointer (some ⟨nb, 0, none⟩), .pointer (some ⟨wr.heap.size, 0, none⟩)] 90)).heap.size = wr.heap.size + 2 := by simp
      rw [hz] at hb
      have hr : ((wr.alloc (rnCells nm id ky (.slice va xs.length vc) (.slice none 0 0) (.slice none 0 0) (.slice none 0 0))).alloc (.cells #[.pointer (some ⟨nb, 0, none⟩), .pointer (some ⟨wr.heap.size, 0, none⟩)] 90)).heap[wr.heap.size]? = _ := (Below.heap_alloc _ _ _ (by rw [hz]; omega)).trans ha
      unfold rnCells at hz hz2
      refine ⟨fun k => Fn k ∨ k = wr.heap.size ∨ k = wr.heap.size + 1, wr.heap.size + 1, rfl, (Ka.alloc _).alloc _, ⟨Fn, fun k => k = wr.heap.size, nb, wr.heap.size, hb, ?_, rn_zero hr, ?_, ?_, Or.inr (Or.inr rfl), ?_⟩, ?_⟩
      · refine HP.out.2.1.frame (by rw [hz2]; omega) (fun k hf => ?_)
        have h1 := hlt2 k hf
        have h2 := HP.out.2.2 k hf
        rw [Below.heap_alloc _ _ _ (by rw [hz]; omega), Below.heap_alloc _ _ _ (by omega)]
        exact HR.out.2.2.block k h1 (fun e => by have := (HY.out.1.lt k e).2; omega)
      · intro k hf
        have h1 := hlt2 k hf
        exact ⟨Or.inl hf, by omega, by omega⟩
      · intro k hf
        exact ⟨Or.inr (Or.inl hf), by omega⟩
      · intro k hf
        rw [hz2]
        rcases hf with hf | hf | hf
        · have h1 := hlt2 k hf
          omega
        · omega
        · omega
      · intro k hf
        rcases hf with hf | hf | hf
        · have h2 := HP.out.2.2 k hf
          omega
        · omega
        · omega
end Go.Proofs.YtocligpfmfmihaaGreatDoor
namespace Go.Proofs.YtocligpfmfmihaaGreatDoor
open Go Go.RowKit Go.Maps
attribute [local go_sem] Oper.semAt_some
/-- A step of a script. -/
structure OpR where
  kind : Int
  two : Bool
  s : Bs
  t : Bs
  now : Int
  rp : Option Addr
  rn : Nat
  rc : Nat
  li : Option Addr
  ln : Nat
  lc : Nat
def opC (o : OpR) : List Value := [.int .i64 o.kind, .bool o.two, .string ⟨o.s.toArray⟩, .string ⟨o.t.toArray⟩, .int .i64 o.now, .slice o.rp o.rn o.rc, .slice o.li o.ln o.lc]
theorem PR.cell {w : World} {F : Nat → Prop} {pb : Nat} {nm id ky : Bs} {srcs : List Bs} {so : Value} {st : Ldg} {c : Nat} (h : PR w F pb nm id ky srcs so st c) : ∃ nb, w.cell? ⟨pb, 0, none⟩ = some (.pointer (some ⟨nb, 0, none⟩)) := by
  obtain ⟨Fn, Fr, nb, rb, h1, _⟩ := h
  exact ⟨nb, by simp [World.cell?, h1]⟩
theorem inv_step {w wy w3 : World} {F1 F2 : Nat → Prop} {pb qb : Nat} {nm id ky nm2 id2 ky2 : Bs} {xs xs2 : List Bs} {so so2 : Value} {st2 : Ldg} {c c' : Nat} (K : Kp (fun _ => False) w wy) (h1 : PrR wy F1 pb nm id ky xs so c' w3) (h2 : PR wy F2 qb nm2 id2 ky2 xs2 so2 st2 c) (hc : c ≤ c') (hd : ∀ k, F1 k → w.heap.size ≤ k ∧ ¬ F2 k) :
    ∃ (F1' : Nat → Prop) (st1' : Ldg), Kp (fun _ => False) w w3 ∧ PR w3 F1' pb nm id ky xs so st1' c' ∧ PR w3 F2 qb nm2 id2 ky2 xs2 so2 st2 c' ∧ (∀ k, F1' k → w.heap.size ≤ k ∧ ¬ F2 k) := by
  obtain ⟨F1', st', K3, h3, hp⟩ := h1
  refine ⟨F1', st', K.and K3 (fun i hi h => by have := (hd i h).1; omega), hp, h2.frame K3.size (fun k hf => K3.block k (h2.lt k hf) (fun h => (hd k h).2 hf)) hc, fun k hk => ?_⟩
  rcases h3 k hk with h | h
  · exact hd k h
  · have := K.size
    exact ⟨by omega, fun hf => by have := h2.lt k hf; omega⟩
theorem ky_two (ky : Bs) : (⟨ky.toArray⟩ ++ ⟨#[50]⟩ : ByteArray) = ⟨(ky ++ [50]).toArray⟩ := by
  apply ByteArray.ext
  simp
set_option maxRecDepth 20000 in
set_option maxHeartbeats 4000000 in
theorem plays_c (W : World) (hN : NG3 W) (hG : GL W) (hSg : RSigned W) (w : World) (hW : Below W.heap.size W w) (nm ky : Bs) (h1 : nm.length ≤ 1048576) (h3 : ky.length ≤ 1048576) (xs : List Bs) (va : Option Addr) (vc : Nat) (hn : va = none → xs.length = 0 ∧ vc = 0) (hcell : ∀ ad, va = some ad → ∀ j u, (xs.map fun s => Value.string ⟨s.toArray⟩)[j]? = some u → w.cell? (ad.add j) = some u) (hx : xs.length ≤ 1048576)
    (os : List OpR) (sa : Option Addr) (sc : Nat) (hsa : 0 < os.length → ∃ sb so, sa = some ⟨sb, so, none⟩ ∧ ∀ j o, os[j]? = some o → ∀ m u, (opC o)[m]? = some u → w.cell? ⟨sb, so + j * 7 + m, none⟩ = some u) (hos : os.length ≤ 131072) (hok : ∀ o ∈ os, o.s.length ≤ 1048576 ∧ o.t.length ≤ 1048576 ∧ -9223372036854775808 ≤ o.now ∧ o.rn ≤ 1048576 ∧ o.ln ≤ 1048576) (upTo : Int) (hup : upTo ≤ 3) :
    Calls Tryz.prog 23 #[.string ⟨nm.toArray⟩, .string ⟨ky.toArray⟩, .slice va xs.length vc, .slice sa os.length sc, .int .i64 upTo] w fun e w' => e = .returned (.bool true) ∧ Kp (fun _ => False) w w' := by
  have HP1 := hide (pair_c w nm [105, 100] ky xs va vc hn hcell (by omega))
  have hl1 : (os.length : Int) ≤ 1073741824 := by omega
  have hl2 : (xs.length : Int) ≤ 1073741824 := by omega
  have HO := hide (And.intro hsa hok)
  clear hsa hok hn hcell
  go_enter Tryz.func23, Tryz.ntmps23
  go_wp2_with fail
  refine HP1.out.mono ?_
  rintro e w1 ⟨F1, pb, rfl, K1, hP, hF1⟩
  have HA1 := hide (And.intro K1 (And.intro hP hF1))
  clear K1 hP hF1 HP1
  go_wp2_with fail
  rw [ky_two]
  have HP2 : Hid (Calls Tryz.prog 50 #[.string ⟨nm.toArray⟩, .string ⟨#[111, 116, 104, 101, 114]⟩, .string ⟨(ky ++ [50]).toArray⟩, .slice none 0 0] w1 fun e w' => ∃ (F : Nat → Prop) (pb : Nat), e = .returned (.pointer (some ⟨pb, 0, none⟩)) ∧ Kp (fun _ => False) w1 w' ∧ PR w' F pb nm [111, 116, 104, 101, 114] (ky ++ [50]) [] (.slice none 0 0) Ldg.zero 0 ∧ (∀ k, F k → w1.heap.size ≤ k)) := pair_c w1 nm [111, 116, 104, 101, 114] (ky ++ [50]) [] none 0 (fun _ => ⟨rfl, rfl⟩) (fun _ h => by cases h) (by simp)
  refine HP2.out.mono ?_
  rintro e w2 ⟨F2, qb, rfl, K2, hQ, hF2⟩
  have hP2 := HA1.out.2.1.frame K2.size (fun k hf => K2.block k (HA1.out.2.1.lt k hf) (by simp)) (Nat.le_refl _)
  obtain ⟨nb, hnb⟩ := hP2.cell
  obtain ⟨mb, hmb⟩ := hQ.cell
  have HB := hide (And.intro (HA1.out.1.trans K2) (And.intro hP2 (And.intro hQ hF2)))
  clear K2 hP2 hQ hF2 HP2
  go_wp2_with fail
  clear hnb hmb
  go_loopg [13] os.length (fun gg q wx => ∃ (i : Nat) (G1 G2 : Nat → Prop) (st1 st2 : Ldg), gg = os.length - i ∧ i ≤ os.length ∧ q = .int .i64 (i : Int) ∧ Kp (fun _ => False) w wx ∧ PR wx G1 pb nm [105, 100] ky xs (.slice va xs.length vc) st1 (1200 * i) ∧ PR wx G2 qb nm [111, 116, 104, 101, 114] (ky ++ [50]) [] (.slice none 0 0) st2 (1200 * i) ∧ (∀ k, G1 k → w.heap.size ≤ k ∧ ¬ G2 k) ∧ (∀ k, G2 k → w.heap.size ≤ k))
  case atStart =>
    have hs1 := HA1.out.1.size
    exact ⟨0, F1, F2, _, _, rfl, by omega, rfl, HB.out.1, HB.out.2.1, HB.out.2.2.1, fun k hk => ⟨HA1.out.2.2 k hk, fun h => by have h1 := HA1.out.2.1.lt k hk; have h2 := HB.out.2.2.2 k h; omega⟩, fun k h => by have h2 := HB.out.2.2.2 k h; omega⟩
  case round =>
    obtain ⟨i, G1, G2, st1, st2, hgg, hin, rfl, Kr, p1, p2, hd1, hd2⟩ := hrel
    by_cases hlt : i < os.length
    · have hlt' : (i : Int) < (os.length : Int) := by omega
      obtain ⟨o, ho⟩ : ∃ o, os[i]? = some o := ⟨os[i], List.getElem?_eq_getElem hlt⟩
      obtain ⟨sb, so, rfl, hop⟩ := HO.out.1 (by omega)
      have c0 := Kr.cel (hop i o ho 0 _ rfl)
      have c1 := Kr.cel (hop i o ho 1 _ rfl)
      have c2 := Kr.cel (hop i o ho 2 _ rfl)
      have c3 := Kr.cel (hop i o ho 3 _ rfl)
      have c4 := Kr.cel (hop i o ho 4 _ rfl)
      have c5 := Kr.cel (hop i o ho 5 _ rfl)
      have c6 := Kr.cel (hop i o ho 6 _ rfl)
      rw [Nat.add_zero] at c0
      have hoo := HO.out.2 o (List.mem_of_getElem? ho)
      have hr1 : (o.rn : Int) ≤ 1073741824 := by omega
      have hr2 : (o.ln : Int) ≤ 1073741824 := by omega
      have HR := hide (And.intro hgg (And.intro Kr (And.intro p1 (And.intro p2 (And.intro hd1 (And.intro hd2 hoo))))))
      clear hgg Kr p1 p2 hd1 hd2 hoo ho hop
      have hWs := hW.size
      have fr : ∀ (X : Obj) (G : Nat → Prop) (pb : Nat) (nm id ky : Bs) (xs : List Bs) (so : Value) (st : Ldg) (c c' : Nat), PR wr G pb nm id ky xs so st c → c ≤ c' → PR (wr.alloc X) G pb nm id ky xs so st c' := fun X G pb nm id ky xs so st c c' h hc => h.frame (by simp) (fun k hf => Below.heap_alloc _ _ _ (h.lt k hf)) hc
      have HFR := hide fr
      clear fr
      by_cases hk : upTo < o.kind
      · go_wp2
        go_roundg (os.length - (i + 1))
        all_goals first
          | (rw [HR.out.1]; omega)
          | exact ⟨i + 1, G1, G2, st1, st2, rfl, by omega, int_i64 (by omega), HR.out.2.1.alloc _, HFR.out _ _ _ _ _ _ _ _ _ _ _ HR.out.2.2.1 (by omega), HFR.out _ _ _ _ _ _ _ _ _ _ _ HR.out.2.2.2.1 (by omega), HR.out.2.2.2.2.1, HR.out.2.2.2.2.2.1⟩
      · have hoo := HR.out.2.2.2.2.2.2
        cases htw : o.two with
        | false =>
          rw [htw] at c1
          clear htw
          go_wp2_with fail
          refine (step_c W hN hG hSg _ (below_kp hW (HR.out.2.1.alloc _)) G1 (fun k h => Nat.le_trans hWs (HR.out.2.2.2.2.1 k h).1) pb nm [105, 100] ky xs _ st1 (1200 * i) (HFR.out _ _ _ _ _ _ _ _ _ _ _ HR.out.2.2.1 (Nat.le_refl _)) (by omega) (by simp) (by omega) o.kind (by omega) false o.s o.t o.now _ _ (by omega) (by omega) hoo.2.2.1 (by omega) ⟨_, _, _, rfl⟩ ⟨_, _, _, rfl⟩).mono ?_
          rintro e w3 ⟨rfl, hq⟩
          have HI := hide (inv_step (HR.out.2.1.alloc _) hq (HFR.out _ _ _ _ _ _ _ _ _ _ _ HR.out.2.2.2.1 (Nat.le_refl _)) (by omega) HR.out.2.2.2.2.1)
          clear hq c0 c1 c2 c3 c4 c5 c6
          go_wp2
          go_roundg (os.length - (i + 1))
          all_goals first
            | (rw [HR.out.1]; omega)
            | (obtain ⟨G1', st1', a1, a2, a3, a4⟩ := HI.out
               exact ⟨i + 1, G1', G2, st1', st2, rfl, by omega, int_i64 (by omega), a1, a2, a3, a4, HR.out.2.2.2.2.2.1⟩)
        | true =>
          rw [htw] at c1
          clear htw
          go_wp2_with fail
          refine (step_c W hN hG hSg _ (below_kp hW (HR.out.2.1.alloc _)) G2 (fun k h => Nat.le_trans hWs (HR.out.2.2.2.2.2.1 k h)) qb nm [111, 116, 104, 101, 114] (ky ++ [50]) [] _ st2 (1200 * i) (HFR.out _ _ _ _ _ _ _ _ _ _ _ HR.out.2.2.2.1 (Nat.le_refl _)) (by omega) (by simp) (by rw [List.length_append, List.length_singleton]; omega) o.kind (by omega) true o.s o.t o.now _ _ (by omega) (by omega) hoo.2.2.1 (by omega) ⟨_, _, _, rfl⟩ ⟨_, _, _, rfl⟩).mono ?_
          rintro e w3 ⟨rfl, hq⟩
          have HI := hide (inv_step (HR.out.2.1.alloc _) hq (HFR.out _ _ _ _ _ _ _ _ _ _ _ HR.out.2.2.1 (Nat.le_refl _)) (by omega) (fun k h => ⟨HR.out.2.2.2.2.2.1 k h, fun h' => (HR.out.2.2.2.2.1 k h').2 h⟩))
          clear hq c0 c1 c2 c3 c4 c5 c6
          go_wp2
          go_roundg (os.length - (i + 1))
          all_goals first
            | (rw [HR.out.1]; omega)
            | (obtain ⟨G2', st2', a1, a2, a3, a4⟩ := HI.out
               exact ⟨i + 1, G1, G2', st1, st2', rfl, by omega, int_i64 (by omega), a1, a3, a2, fun k h => ⟨(HR.out.2.2.2.2.1 k h).1, fun h' => (a4 k h').2 h⟩, fun k h => (a4 k h).1⟩)
    · have hlt' : ¬ (i : Int) < (os.length : Int) := by omega
      go_wp2
      go_ret
      exact ⟨rfl, Kr⟩
set_option maxRecDepth 20000 in
theorem learns_c (W : World) (hN : NG3 W) (hG : GL W) (hSg : RSigned W) (w : World) (hW : Below W.heap.size W w) (nm ky : Bs) (h1 : nm.length ≤ 1048576) (h3 : ky.length ≤ 1048576) (xs : List Bs) (va : Option Addr) (vc : Nat) (hn : va = none → xs.length = 0 ∧ vc = 0) (hcell : ∀ ad, va = some ad → ∀ j u, (xs.map fun s => Value.string ⟨s.toArray⟩)[j]? = some u → w.cell? (ad.add j) = some u) (hx : xs.length ≤ 1048576)
    (os : List OpR) (sa : Option Addr) (sc : Nat) (hsa : 0 < os.length → ∃ sb so, sa = some ⟨sb, so, none⟩ ∧ ∀ j o, os[j]? = some o → ∀ m u, (opC o)[m]? = some u → w.cell? ⟨sb, so + j * 7 + m, none⟩ = some u) (hos : os.length ≤ 131072) (hok : ∀ o ∈ os, o.s.length ≤ 1048576 ∧ o.t.length ≤ 1048576 ∧ -9223372036854775808 ≤ o.now ∧ o.rn ≤ 1048576 ∧ o.ln ≤ 1048576) :
    Calls Tryz.prog 7 #[.string ⟨nm.toArray⟩, .string ⟨ky.toArray⟩, .slice va xs.length vc, .slice sa os.length sc] w fun e w' => e = .returned (.bool true) ∧ Kp (fun _ => False) w w' := by
  have HP := hide (plays_c W hN hG hSg w hW nm ky h1 h3 xs va vc hn hcell hx os sa sc hsa hos hok 3 (Int.le_refl _))
  clear hn hcell hsa hok
  go_enter Tryz.func7, Tryz.ntmps7
  go_wp2_with fail
  refine HP.out.mono ?_
  rintro e w1 ⟨rfl, K1⟩
  have HK := hide K1
  clear K1
  go_wp2
  go_ret
  exact ⟨rfl, HK.out⟩
end Go.Proofs.YtocligpfmfmihaaGreatDoor
namespace Go.Proofs.YtocligpfmfmihaaGreatDoor
open Go Go.RowKit Go.ChangeShapes Go.WideShapes

theorem bulk_one {H : Type} (d : DataW H) : 1 ≤ Rows.uptoBulk d := by
  cases d with
  | lit l => cases l <;> simp [Rows.uptoBulk]
  | _ => simp [Rows.uptoBulk]
theorem bulk_len {H : Type} : ∀ l : List (DataW H), l.length ≤ Rows.uptoBulkAll l
  | [] => by simp [Rows.uptoBulkAll]
  | d :: r => by
    have := bulk_one d
    have := bulk_len r
    simp only [Rows.uptoBulkAll, List.length_cons]
    omega
theorem bulk_mem {H : Type} {d : DataW H} : ∀ {l : List (DataW H)}, d ∈ l → Rows.uptoBulk d ≤ Rows.uptoBulkAll l
  | [], h => by cases h
  | e :: r, h => by
    simp only [Rows.uptoBulkAll]
    rcases List.mem_cons.1 h with rfl | h
    · omega
    · have := bulk_mem h
      omega
theorem bulk_eight {H : Type} : ∀ {l : List (DataW H)}, (∀ d ∈ l, 8 ≤ Rows.uptoBulk d) → 8 * l.length ≤ Rows.uptoBulkAll l
  | [], _ => by simp
  | d :: r, h => by
    have := h d (by simp)
    have := bulk_eight (l := r) (fun e he => h e (by simp [he]))
    simp only [Rows.uptoBulkAll, List.length_cons]
    omega

theorem list7 {α : Type} {l : List α} (h : l.length = 7) : ∃ a b c d e f g, l = [a, b, c, d, e, f, g] := by
  match l, h with
  | [a, b, c, d, e, f, g], _ => exact ⟨a, b, c, d, e, f, g, rfl⟩
theorem cell_spot {w : World} {a : Addr} {v : Value} (h : w.cell? a = some v) : a.spot = none := by
  unfold World.cell? at h
  split at h
  · split at h
    · cases h
    · rename_i hn
      simpa using hn
  · cases h
section
variable {H : Type} {enc : TypeId × Value → H} {W : World} {fuel : Nat} {cs : List Value} {x : DataW H × List MemPlace}
/-- A slice of whatever, opened as far as its length. -/
theorem open_len {t e : TypeId} (ht : Tryz.prog.underlying t = some (.slice e)) (h : DataW.trod enc Tryz.prog W 0 (fun _ => true) true fuel t cs = some x) : ∃ a len cap, cs = [.slice a len cap] ∧ len + 1 ≤ Rows.uptoBulk x.1 := by
  rcases DataW.trod_slice ht h with ⟨rfl, rfl⟩ | ⟨a, len, cap, elems, rest, n, _, rfl, rfl, _, _, _, hlen, _⟩
  · exact ⟨none, 0, 0, rfl, by simp [Rows.uptoBulk]⟩
  · refine ⟨some a, len, cap, rfl, ?_⟩
    have := bulk_len (elems.map (·.1))
    simp only [Rows.uptoBulk]
    rw [List.length_map] at this
    omega
/-- A step of a script, opened. -/
theorem open_op (h : DataW.trod enc Tryz.prog W 0 (fun _ => true) true fuel 93 cs = some x) : ∃ o : OpR, cs = opC o ∧ o.s.length + o.t.length + o.rn + o.ln + 8 ≤ Rows.uptoBulk x.1 ∧ -9223372036854775808 ≤ o.now := by
  obtain ⟨xs, n, _, rfl, hl, hlen, hf⟩ := DataW.trod_struct Tryz.underlying93 h
  have hl7 : cs.length = 7 := hl.trans (by kernel_rfl)
  clear h hl
  obtain ⟨y0, y1, y2, y3, y4, y5, y6, rfl⟩ := list7 hlen
  obtain ⟨c0, c1, c2, c3, c4, c5, c6, rfl⟩ := list7 hl7
  have k0 : Tryz.prog.cellsOf 3 = 1 := by kernel_rfl
  have k1 : Tryz.prog.cellsOf 4 = 1 := by kernel_rfl
  have k2 : Tryz.prog.cellsOf 9 = 1 := by kernel_rfl
  have k3 : Tryz.prog.cellsOf 2 = 1 := by kernel_rfl
  have k4 : Tryz.prog.cellsOf 91 = 1 := by kernel_rfl
  have k5 : Tryz.prog.cellsOf 36 = 1 := by kernel_rfl
  have e0 : DataW.trod enc Tryz.prog W 0 (fun _ => true) true n 3 [c0] = some y0 := by
    have q : DataW.trod enc Tryz.prog W 0 (fun _ => true) true n 3 (([c0, c1, c2, c3, c4, c5, c6].drop 0).take (Tryz.prog.cellsOf 3)) = some y0 := hf 0 _ rfl
    rw [k0] at q
    exact q
  have e1 : DataW.trod enc Tryz.prog W 0 (fun _ => true) true n 4 [c1] = some y1 := by
    have q : DataW.trod enc Tryz.prog W 0 (fun _ => true) true n 4 (([c0, c1, c2, c3, c4, c5, c6].drop 1).take (Tryz.prog.cellsOf 4)) = some y1 := hf 1 _ rfl
    rw [k1] at q
    exact q
  have e2 : DataW.trod enc Tryz.prog W 0 (fun _ => true) true n 9 [c2] = some y2 := by
    have q : DataW.trod enc Tryz.prog W 0 (fun _ => true) true n 9 (([c0, c1, c2, c3, c4, c5, c6].drop 2).take (Tryz.prog.cellsOf 9)) = some y2 := hf 2 _ rfl
    rw [k2] at q
    exact q
  have e3 : DataW.trod enc Tryz.prog W 0 (fun _ => true) true n 9 [c3] = some y3 := by
    have q : DataW.trod enc Tryz.prog W 0 (fun _ => true) true n 9 (([c0, c1, c2, c3, c4, c5, c6].drop 3).take (Tryz.prog.cellsOf 9)) = some y3 := hf 3 _ rfl
    rw [k2] at q
    exact q
  have e4 : DataW.trod enc Tryz.prog W 0 (fun _ => true) true n 2 [c4] = some y4 := by
    have q : DataW.trod enc Tryz.prog W 0 (fun _ => true) true n 2 (([c0, c1, c2, c3, c4, c5, c6].drop 4).take (Tryz.prog.cellsOf 2)) = some y4 := hf 4 _ rfl
    rw [k3] at q
    exact q
  have e5 : DataW.trod enc Tryz.prog W 0 (fun _ => true) true n 91 [c5] = some y5 := by
    have q : DataW.trod enc Tryz.prog W 0 (fun _ => true) true n 91 (([c0, c1, c2, c3, c4, c5, c6].drop 5).take (Tryz.prog.cellsOf 91)) = some y5 := hf 5 _ rfl
    rw [k4] at q
    exact q
  have e6 : DataW.trod enc Tryz.prog W 0 (fun _ => true) true n 36 [c6] = some y6 := by
    have q : DataW.trod enc Tryz.prog W 0 (fun _ => true) true n 36 (([c0, c1, c2, c3, c4, c5, c6].drop 6).take (Tryz.prog.cellsOf 36)) = some y6 := hf 6 _ rfl
    rw [k5] at q
    exact q
  obtain ⟨k, h0, rfl, _⟩ := DataW.trod_int Tryz.underlying3 e0
  obtain ⟨b, h1, rfl⟩ := DataW.trod_bool Tryz.underlying4 e1
  obtain ⟨s, h2, rfl, _⟩ := DataW.trod_string Tryz.underlying9 e2
  obtain ⟨t, h3, rfl, _⟩ := DataW.trod_string Tryz.underlying9 e3
  obtain ⟨nw, h4, rfl, w4⟩ := DataW.trod_int Tryz.underlying2 e4
  obtain ⟨a5, l5, k5, h5, b5⟩ := open_len Tryz.underlying91 e5
  obtain ⟨a6, l6, k6, h6, b6⟩ := open_len Tryz.underlying36 e6
  obtain rfl := List.singleton_inj.1 h0
  obtain rfl := List.singleton_inj.1 h1
  obtain rfl := List.singleton_inj.1 h2
  obtain rfl := List.singleton_inj.1 h3
  obtain rfl := List.singleton_inj.1 h4
  obtain rfl := List.singleton_inj.1 h5
  obtain rfl := List.singleton_inj.1 h6
  refine ⟨⟨k, b, s.data.toList, t.data.toList, nw, a5, l5, k5, a6, l6, k6⟩, rfl, ?_, ?_⟩
  · simp only [List.map_cons, List.map_nil, Rows.uptoBulk, Rows.uptoBulkAll]
    omega
  · simp [Lit.wf, IntKind.min, IntKind.max, IntKind.signed, IntKind.bits] at w4
    show -9223372036854775808 ≤ nw
    omega
/-- A script, opened. -/
theorem open_script (h : DataW.trod enc Tryz.prog W 0 (fun _ => true) true fuel 37 cs = some x) :
    ∃ (os : List OpR) (sa : Option Addr) (sc : Nat), cs = [.slice sa os.length sc] ∧
      (0 < os.length → ∃ sb so, sa = some ⟨sb, so, none⟩ ∧ ∀ j o, os[j]? = some o → ∀ m u, (opC o)[m]? = some u → W.cell? ⟨sb, so + j * 7 + m, none⟩ = some u) ∧
      8 * os.length ≤ Rows.uptoBulk x.1 ∧ ∀ o ∈ os, o.s.length ≤ Rows.uptoBulk x.1 ∧ o.t.length ≤ Rows.uptoBulk x.1 ∧ -9223372036854775808 ≤ o.now ∧ o.rn ≤ Rows.uptoBulk x.1 ∧ o.ln ≤ Rows.uptoBulk x.1 := by
  rcases Deep.open_slice Tryz.underlying37 h with ⟨rfl, rfl⟩ | ⟨a, len, cap, m, n, D, Pl, rfl, _, hl, _, hm, rfl, hx⟩
  · exact ⟨[], none, 0, rfl, fun h => (by cases h), by simp, fun o ho => (by cases ho)⟩
  have h7 : Tryz.prog.cellsOf 93 = 7 := by kernel_rfl
  rw [if_pos rfl] at hm
  subst hm
  rw [h7] at hx
  obtain ⟨O, hO⟩ := Deep.choose_lt (α := Option OpR) (n := len) (p := fun i o => ∃ o', o = some o' ∧ W.cells? 0 (a.add (i * 7)) 7 = some (opC o') ∧ o'.s.length + o'.t.length + o'.rn + o'.ln + 8 ≤ Rows.uptoBulk (D i) ∧ -9223372036854775808 ≤ o'.now) (fun i hi => by
    obtain ⟨cs', h1, h2⟩ := hx i (by omega)
    obtain ⟨o, rfl, h3, h4⟩ := open_op h2
    exact ⟨some o, o, rfl, h1, h3, h4⟩)
  have hos : ∃ os : List OpR, os.length = len ∧ ∀ j o, os[j]? = some o → O j = some o := by
    have : ∀ k, k ≤ len → ∃ os : List OpR, os.length = k ∧ ∀ j o, os[j]? = some o → O j = some o := by
      intro k
      induction k with
      | zero => exact fun _ => ⟨[], rfl, fun j o h => by cases h⟩
      | succ k ih =>
        intro hk
        obtain ⟨os, h1, h2⟩ := ih (by omega)
        obtain ⟨o, h3, _⟩ := hO k (by omega)
        refine ⟨os ++ [o], by simp [h1], fun j o' hj => ?_⟩
        by_cases hjk : j < os.length
        · exact h2 j o' (by rwa [List.getElem?_append_left hjk] at hj)
        · rw [List.getElem?_append_right (by omega)] at hj
          have : j - os.length = 0 := by
            rcases Nat.eq_zero_or_pos (j - os.length) with h | h
            · exact h
            · rw [List.getElem?_eq_none (by simp; omega)] at hj
              cases hj
          rw [this] at hj
          obtain rfl : o = o' := by simpa using hj
          rw [show j = k by omega]
          exact h3
    exact this len (Nat.le_refl _)
  obtain ⟨os, rfl, hos⟩ := hos
  refine ⟨os, some a, m, rfl, fun h0 => ?_, ?_, fun o ho => ?_⟩
  · have hcell : ∀ j o, os[j]? = some o → ∀ m u, (opC o)[m]? = some u → W.cell? (a.add (j * 7 + m)) = some u := by
      intro j o hj m u hu
      obtain ⟨o', e1, e2, _⟩ := hO j (List.getElem?_eq_some_iff.1 hj).1
      obtain rfl : o' = o := Option.some.inj (e1.symm.trans (hos j o hj))
      have hm : m < 7 := (List.getElem?_eq_some_iff.1 hu).1
      have := (World.cells?_some e2).2.2 m hm
      rw [Deep.add_add, hu] at this
      exact this
    obtain ⟨ab, ao, asp⟩ := a
    have hsp : asp = none := cell_spot (hcell 0 os[0] (List.getElem?_eq_getElem h0) 0 _ rfl)
    subst hsp
    refine ⟨ab, ao, rfl, fun j o hj m u hu => ?_⟩
    have := hcell j o hj m u hu
    unfold Addr.add at this
    split at this
    · rename_i h0
      rwa [show ao + j * 7 + m = ao by omega]
    · rwa [Nat.add_assoc]
  · have := bulk_eight (l := (List.range os.length).map D) (fun d hd => by
      obtain ⟨i, hi, rfl⟩ := List.mem_map.1 hd
      obtain ⟨o, _, _, h, _⟩ := hO i (by simpa using hi)
      omega)
    simp only [Rows.uptoBulk]
    simp at this
    omega
  · obtain ⟨j, hj⟩ := List.getElem?_of_mem ho
    have hlt := (List.getElem?_eq_some_iff.1 hj).1
    obtain ⟨o', e1, _, e3, e4⟩ := hO j hlt
    obtain rfl : o' = o := Option.some.inj (e1.symm.trans (hos j o hj))
    have := bulk_mem (d := D j) (l := (List.range os.length).map D) (List.mem_map.2 ⟨j, by simpa using hlt, rfl⟩)
    simp only [Rows.uptoBulk]
    omega
/-- The sources, opened. -/
theorem open_srcs (h : DataW.trod enc Tryz.prog W 0 (fun _ => true) true fuel 36 cs = some x) :
    ∃ (xs : List Bs) (va : Option Addr) (vc : Nat), cs = [.slice va xs.length vc] ∧ (va = none → xs.length = 0 ∧ vc = 0) ∧
      (∀ ad, va = some ad → ∀ j u, (xs.map fun s => Value.string ⟨s.toArray⟩)[j]? = some u → W.cell? (ad.add j) = some u) ∧ xs.length ≤ Rows.uptoBulk x.1 := by
  rcases open_strings Tryz.underlying36 Tryz.underlying9 (by kernel_rfl) h with ⟨rfl, rfl⟩ | ⟨a, len, cap, ss, rfl, _, hl, _, hz, rfl, hcell, _⟩
  · exact ⟨[], none, 0, rfl, fun _ => ⟨rfl, rfl⟩, fun _ h => (by cases h), by simp⟩
  rw [if_pos rfl] at hz
  have hlen : ((ss.take len).map fun s => s.data.toList).length = len := by simp; omega
  refine ⟨(ss.take len).map fun s => s.data.toList, some a, cap, by rw [hlen], fun h => (by cases h), ?_, ?_⟩
  · rintro ad h j u hu
    obtain rfl := Option.some.inj h
    have hj : j < len := by
      have := (List.getElem?_eq_some_iff.1 hu).1
      rwa [List.length_map, hlen] at this
    rw [hcell j (by omega), ← hu]
    rw [List.getElem?_map, List.getElem?_map, List.getElem?_take_of_lt hj, List.getElem?_eq_getElem (by omega)]
    simp [List.getD, List.getElem?_eq_getElem (show j < ss.length by omega)]
  · rw [hlen]
    have h1 := bulk_len (strs (H := H) (ss.take len))
    have h2 : (strs (H := H) (ss.take len)).length = len := by
      simp only [strs, List.length_map, List.length_take]
      omega
    simp only [Rows.uptoBulk]
    omega
end
end Go.Proofs.YtocligpfmfmihaaGreatDoor

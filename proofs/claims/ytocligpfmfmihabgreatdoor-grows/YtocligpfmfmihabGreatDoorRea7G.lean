import Derived.Test.YtocligpfmfmihabGreatDoorRef27G
import Derived.Shelf.SlMaps.Clone
import Derived.Shelf.SlMaps.Copy
import Derived.Test.YtocligpfmfmihabGreatDoorProg
import Derived.Test.YtocligpfmfmihabGreatDoorCanG
import Derived.Maps.OwnSet
import Derived.WideMake
namespace Go.Proofs.YtocligpfmfmihabGreatDoor
open Go Go.RowKit Go.Maps

theorem dfacts {w : World} {q : Nat} {a b c : Value} {T : TypeId} (h : w.heap[q]? = some (.cells #[a, b, c] T)) : w.cell? ⟨q, 0, none⟩ = some a ∧ w.cell? ⟨q, 1, none⟩ = some b ∧ w.cell? ⟨q, 2, none⟩ = some c ∧
    w.frozen? ⟨q, 0, none⟩ = false ∧ w.frozen? ⟨q, 1, none⟩ = false ∧ w.frozen? ⟨q, 2, none⟩ = false ∧ q < w.heap.size := by
  refine ⟨?_, ?_, ?_, ?_, ?_, ?_, lt_heap h⟩ <;> simp [World.cell?, World.frozen?, h]
theorem set3 {w : World} {q : Nat} {x y z a b c : Value} {T : TypeId} (h : w.heap[q]? = some (.cells #[x, y, z] T)) : (((w.setCell ⟨q, 0, none⟩ a).setCell ⟨q, 1, none⟩ b).setCell ⟨q, 2, none⟩ c).heap[q]? = some (.cells #[a, b, c] T) := by
  simp [World.setCell, Array.getElem?_modify, h]
theorem kp3 {w w6 : World} {a b c : Value} (h : Kp (fun _ => False) w w6) : Kp (fun _ => False) w (((w6.setCell ⟨w.heap.size, 0, none⟩ a).setCell ⟨w.heap.size, 1, none⟩ b).setCell ⟨w.heap.size, 2, none⟩ c) :=
  Kp.setCell (p := ⟨w.heap.size, 2, none⟩) (Kp.setCell (p := ⟨w.heap.size, 1, none⟩) (Kp.setCell (p := ⟨w.heap.size, 0, none⟩) h (fun q => absurd q (Nat.lt_irrefl _)) _) (fun q => absurd q (Nat.lt_irrefl _)) _) (fun q => absurd q (Nat.lt_irrefl _)) _
end Go.Proofs.YtocligpfmfmihabGreatDoor
namespace Go.Proofs
open Go.Shelf
def Tryz.clone89_ren : Go.Shelf.Ren := ⟨fun | 5 => 89 | 7 => 133 | n => n, fun | 23 => 76 | 25 => 9 | 3 => 137 | 4 => 4 | 20 => 20 | n => n, fun | n => n⟩
theorem Tryz.clone89 : Go.Proofs.SlLaysW.n5 Tryz.prog Tryz.clone89_ren := {
  mixed := by kernel_rfl
  f5 := ⟨Tryz.f89.name, by decide, Tryz.func89.trans (congrArg some (by kernel_rfl))⟩
  f7 := Tryz.func133.trans (congrArg some (by kernel_rfl))
  t4 := Tryz.underlying4
  a4 := Tryz.isAgg4
  z4 := Tryz.sizeOf4
  v4 := Tryz.zeroValue4
  t20 := Tryz.underlying20
  a20 := Tryz.isAgg20
  z20 := Tryz.sizeOf20
  v20 := Tryz.zeroValue20
  t23 := Tryz.underlying76
  a23 := Tryz.isAgg76
  z23 := Tryz.sizeOf76
  v23 := Tryz.zeroValue76 }
def Tryz.copy116_ren : Go.Shelf.Ren := ⟨fun | 5 => 116 | n => n, fun | 23 => 76 | 24 => 76 | 26 => 9 | 27 => 137 | 0 => 0 | 4 => 4 | n => n, fun | n => n⟩
theorem Tryz.copy116 : Go.Proofs.SlLaysX.n5 Tryz.prog Tryz.copy116_ren := {
  mixed := by kernel_rfl
  f5 := ⟨Tryz.f116.name, by decide, Tryz.func116.trans (congrArg some (by kernel_rfl))⟩
  t0 := Tryz.underlying0
  a0 := Tryz.isAgg0
  z0 := Tryz.sizeOf0
  v0 := Tryz.zeroValue0
  t4 := Tryz.underlying4
  a4 := Tryz.isAgg4
  z4 := Tryz.sizeOf4
  v4 := Tryz.zeroValue4
  t23 := Tryz.underlying76
  a23 := Tryz.isAgg76
  z23 := Tryz.sizeOf76
  v23 := Tryz.zeroValue76
  t24 := Tryz.underlying76
  a24 := Tryz.isAgg76
  z24 := Tryz.sizeOf76
  v24 := Tryz.zeroValue76
  a26 := Tryz.isAgg9
  z26 := Tryz.sizeOf9
  a27 := Tryz.isAgg137
  z27 := Tryz.sizeOf137 }
end Go.Proofs
namespace Go.Proofs.YtocligpfmfmihabGreatDoor
open Go Go.RowKit Go.Maps Go.WideMaps

theorem to0 (w : World) : (Instr.typeAssert (.iface 194 (.agg #[])) 137 76 true).run Tryz.prog w = .ok (.tuple #[.map none, .bool false]) w := by kernel_rfl
theorem to1 (b : Bool) (w : World) : (Instr.typeAssert (.iface 195 (.bool b)) 137 76 true).run Tryz.prog w = .ok (.tuple #[.map none, .bool false]) w := by kernel_rfl
theorem to2 (n : Int) (w : World) : (Instr.typeAssert (.iface 197 (.int .i64 n)) 137 76 true).run Tryz.prog w = .ok (.tuple #[.map none, .bool false]) w := by kernel_rfl
theorem to3 (s : ByteArray) (w : World) : (Instr.typeAssert (.iface 167 (.string s)) 137 76 true).run Tryz.prog w = .ok (.tuple #[.map none, .bool false]) w := by kernel_rfl
theorem to4 (sv : Value) (w : World) : (Instr.typeAssert (.iface 201 sv) 137 76 true).run Tryz.prog w = .ok (.tuple #[.map none, .bool false]) w := by kernel_rfl
/-- Is it an object? -/
def isO : J → Bool | .obj _ => true | _ => false
theorem rep_no {w : World} {F : Nat → Prop} {j : J} {tt : TypeId} {u : Value} (h : Rep w F j (.iface tt u)) (hj : isO j = false) : ∀ w, (Instr.typeAssert (.iface tt u) 137 76 true).run Tryz.prog w = .ok (.tuple #[.map none, .bool false]) w := by
  cases j with
  | null => rw [Rep] at h; cases h; exact to0
  | bool b => rw [Rep] at h; cases h; exact to1 b
  | num n => rw [Rep] at h; cases h; exact to2 n
  | str s => rw [Rep] at h; cases h; exact to3 _
  | arr l => rw [Rep] at h; obtain ⟨sv, vs, e, _⟩ := h; cases e; exact to4 _
  | obj l => cases hj

/-- An object of the program. -/
def Ob (w : World) (F : Nat → Prop) (l : List (Bs × J)) (v : Value) : Prop := Rep w F (.obj l) (.iface 76 v)
theorem Ob.shape {w : World} {F : Nat → Prop} {l : List (Bs × J)} {v : Value} (h : Ob w F l v) : ∃ b m, v = .map (some b) ∧ F b ∧ w.ownsMap Tryz.prog 9 Rv b m.length (dm m) ∧ Repm w F l m := by
  unfold Ob at h
  rw [Rep] at h
  obtain ⟨b, m, e, h1, h2, h3⟩ := h
  cases e
  exact ⟨b, m, rfl, h1, h2, h3⟩
def OoR (W w : World) (l : Bs) (e : Ending) (w' : World) : Prop := Kp (fun _ => False) w w' ∧ ((∃ o b, objectF l = .ok o ∧ e = .returned (.tuple #[.map (some b), .nilIface]) ∧ Ob w' (fun b => w.heap.size ≤ b ∧ b < w'.heap.size) o (.map (some b))) ∨
    (∃ n ev, objectF l = .error n ∧ e = .returned (.tuple #[.map none, ev]) ∧ EV W w' ev n ∧ ∃ t u, ev = .iface t u))
set_option maxRecDepth 20000 in
theorem readObject_c (W : World) (hN : NG W) (s : ByteArray) (w : World) (hW : Below W.heap.size W w) :
    Calls Tryz.prog 33 #[.string s] w fun e w' => OoR W w s.data.toList e w' := by
  obtain ⟨a, c, t, ho1, _⟩ := hN.obj
  go_enter Tryz.func33, Tryz.ntmps33
  go_wp2_with fail
  refine (readValue_c W hN s w hW).mono ?_
  rintro e w' ⟨hk, ⟨j, v, hv, rfl, hr⟩ | ⟨n, ev, hv, rfl, he, tt, u, rfl⟩⟩
  · have hb := below_kp hW hk
    obtain ⟨tt, u, rfl⟩ := Rep.iface hr
    cases hj : isO j with
    | false =>
      have hta := rep_no hr hj
      have hc := Below.cl hb ho1
      have HE : Hid (EV W w' (errV a) 3) := Or.inr (Or.inr ⟨rfl, ho1⟩)
      have HV := hide (show objectF s.data.toList = .error 3 by unfold objectF; rw [hv]; cases j <;> simp_all [isO])
      have HK := hide hk
      unfold errV at hc HE
      clear hk hv hr ho1 hj
      go_wp2
      go_quiet (fail)
      go_wp2
      go_ret2
      exact ⟨HK.out.drewN _, Or.inr ⟨3, _, HV.out, rfl, HE.out, _, _, rfl⟩⟩
    | true =>
      cases j with
      | obj l =>
        have HO := hide hr
        rw [Rep] at hr
        obtain ⟨b, m, e, _⟩ := hr
        cases e
        have hta := ta55 (some b)
        have HV := hide (show objectF s.data.toList = .ok l by unfold objectF; rw [hv])
        have HK := hide hk
        clear hk hv ho1 hj
        go_wp2
        go_ret2
        exact ⟨HK.out, Or.inl ⟨l, b, HV.out, rfl, HO.out⟩⟩
      | null => cases hj
      | bool _ => cases hj
      | num _ => cases hj
      | str _ => cases hj
      | arr _ => cases hj
  · have HV := hide (show objectF s.data.toList = .error n by unfold objectF; rw [hv])
    have HK := hide (And.intro hk he)
    clear hk hv he ho1
    go_wp2
    go_ret2
    exact ⟨HK.out.1, Or.inr ⟨n, _, HV.out, rfl, HK.out.2, _, _, rfl⟩⟩
end Go.Proofs.YtocligpfmfmihabGreatDoor
namespace Go.Proofs.YtocligpfmfmihabGreatDoor
open Go Go.RowKit Go.Maps Go.WideMaps

theorem Repm.del {w : World} {F : Nat → Prop} (k : Bs) : ∀ (l : List (Bs × J)) (m : List (Bs × Value)), Repm w F l m → Repm w F (delK k l) (delK k m)
  | [], m, h => by
    rw [Repm] at h
    subst h
    simp only [delK, List.filter_nil]
    rw [Repm]
  | (a, y) :: l, m, h => by
    rw [Repm] at h
    obtain ⟨u, r, rfl, h1, h2⟩ := h
    have ih := Repm.del k l r h2
    unfold delK at ih ⊢
    by_cases e : a = k
    · simpa [e] using ih
    · simp only [e, decide_false, Bool.not_false, List.filter_cons_of_pos]
      rw [Repm]
      exact ⟨u, _, rfl, h1, ih⟩
theorem Kp.of_below {w w' : World} (h : Below w.heap.size w w') : Kp (fun _ => False) w w' := ⟨h.os, h.tape, h.output, h.size, fun k hk _ => h.block k hk⟩
theorem Kp.of_grown {w w1 w' : World} {b : Nat} (h : Kp (fun _ => False) w w1) (hg : w1.grownBy w' (some b)) (hb : w.heap.size ≤ b) : Kp (fun _ => False) w w' := h.grown hg (fun k e hk => by cases e; omega)
theorem two_cells {w : World} {b : Nat} {u v : Value} {t : TypeId} (h : w.heap[b]? = some (.cells #[u, v] t)) : w.cell? ⟨b, 0, none⟩ = some u ∧ w.cell? ⟨b, 1, none⟩ = some v := by
  constructor <;> simp [World.cell?, h]
theorem keyS : keyOf Tryz.prog 9 (.string ⟨#[115, 105, 103, 110, 97, 116, 117, 114, 101, 115]⟩) = some (.string kSig) := key_mk2 (o := kSig) (by decide)
theorem keyU : keyOf Tryz.prog 9 (.string ⟨#[117, 110, 115, 105, 103, 110, 101, 100]⟩) = some (.string kUns) := key_mk2 (o := kUns) (by decide)

set_option maxRecDepth 20000 in
/-- Without, of the two keys. -/
theorem without_c (w : World) (F : Nat → Prop) (l : List (Bs × J)) (b kb : Nat) (ho : Ob w F l (.map (some b))) (hF : ∀ k, F k → k < w.heap.size) (hk : w.heap[kb]? = some (.cells #[.string ⟨#[115, 105, 103, 110, 97, 116, 117, 114, 101, 115]⟩, .string ⟨#[117, 110, 115, 105, 103, 110, 101, 100]⟩] 9)) :
    Calls Tryz.prog 57 #[.map (some b), .slice (some ⟨kb, 0, none⟩) 2 2] w fun e w' => e = .returned (.map (some w.heap.size)) ∧ Kp (fun _ => False) w w' ∧ Ob w' (fun k => F k ∨ k = w.heap.size) (bareL l) (.map (some w.heap.size)) := by
  obtain ⟨b', m, e, hFb, hown, hrep⟩ := ho.shape
  cases e
  have hkb := lt_heap hk
  go_enter Tryz.func57, Tryz.ntmps57
  go_wp2_with fail
  refine (AnyW.maps_Clone_owns Tryz.clone89 9 Rv b m.length (dm m) w hown).mono ?_
  rintro e w1 ⟨rfl, o1, _, hb1⟩
  obtain ⟨c0, c1⟩ := two_cells ((hb1.block kb hkb).trans hk)
  have K1 := hide (Kp.of_below hb1)
  clear hb1
  go_wp2_with fail
  refine wp_loop_rounds 3 ?_
  rw [rounds_succ]
  go_wp2_with (first | (at_delete; refine wpList_delete_own _ rfl _ _ 76 9 rfl 137 keyed Tryz.underlying76 Rv w.heap.size m.length _ rfl o1 _ _ rfl keyS ?_; intro w2 o2 t2; have g2 := t2.grown; have c1' : w2.cell? ⟨kb, 1, none⟩ = some (.string ⟨#[117, 110, 115, 105, 103, 110, 101, 100]⟩) := (World.cell?_of_block (w := w1) (a := ⟨kb, 1, none⟩) (g2.block kb (by have := K1.out.size; omega) (by intro e; injection e with e; omega))).trans c1; clear t2 c0 c1) | go_in)
  rw [dm_del] at o2
  have K2 := hide (K1.out.of_grown g2 (Nat.le_refl _))
  clear g2
  rw [rounds_succ]
  go_wp2_with (first | (at_delete; refine wpList_delete_own _ rfl _ _ 76 9 rfl 137 keyed Tryz.underlying76 Rv w.heap.size m.length _ rfl o2 _ _ rfl keyU ?_; intro w3 o3 t3; have g3 := t3.grown; clear t3) | go_in)
  rw [dm_del] at o3
  have K3 := hide (K2.out.of_grown g3 (Nat.le_refl _))
  have HO := hide (ownsMap_tight o3)
  clear g3
  rw [rounds_succ]
  go_wp2
  go_ret
  refine ⟨rfl, K3.out, ?_⟩
  unfold Ob
  rw [Rep]
  refine ⟨w.heap.size, delK kUns (delK kSig m), rfl, Or.inr rfl, HO.out, ?_⟩
  refine Repm.mono (fun k hk => Or.inl hk) _ (Repm.frame (w := w) (fun k hk => K3.out.block k (hF k hk) (by simp)) _ ?_)
  exact Repm.del _ _ _ (Repm.del _ _ _ hrep)

set_option maxRecDepth 20000 in
theorem messageOf_c (W : World) (hN : NG W) (w : World) (hW : Below W.heap.size W w) (F : Nat → Prop) (l : List (Bs × J)) (b : Nat) (ho : Ob w F l (.map (some b))) (hF : ∀ k, F k → k < w.heap.size) (hwf : WF 6 (.obj (bareL l))) (hc : cnt (.obj (bareL l)) ≤ 1000000) (hlen : (cnt (.obj (bareL l)) + 1) * ((bareF l).length + 2) ≤ 139000000000000) :
    Calls Tryz.prog 34 #[.map (some b)] w fun e w' => e = .returned (.string ⟨(bareF l).toArray⟩) ∧ Kp (fun _ => False) w w' := by
  obtain ⟨b', m, e, hFb, hown, hrep⟩ := ho.shape
  cases e
  have H := hide (And.intro hwf (And.intro hc (And.intro hlen hF)))
  have hW1 : Kp (fun _ => False) w (w.alloc (.cells #[.string ⟨#[115, 105, 103, 110, 97, 116, 117, 114, 101, 115]⟩, .string ⟨#[117, 110, 115, 105, 103, 110, 101, 100]⟩] 9)) := (Kp.refl _ w).alloc _
  have ho1 : Ob (w.alloc (.cells #[.string ⟨#[115, 105, 103, 110, 97, 116, 117, 114, 101, 115]⟩, .string ⟨#[117, 110, 115, 105, 103, 110, 101, 100]⟩] 9)) F l (.map (some b)) := Rep.frame (fun k hk => hW1.block k (hF k hk) (by simp)) _ ho
  have hnew := heap_alloc_new w (.cells #[.string ⟨#[115, 105, 103, 110, 97, 116, 117, 114, 101, 115]⟩, .string ⟨#[117, 110, 115, 105, 103, 110, 101, 100]⟩] 9)
  have H1 := hide (And.intro hW1 (And.intro ho1 hnew))
  clear hwf hc hlen hW1 ho1 hnew hF ho hown hrep
  go_enter Tryz.func34, Tryz.ntmps34
  go_wp2_with fail
  refine (without_c _ F l b w.heap.size H1.out.2.1 (fun k hk => by have := H.out.2.2.2 k hk; simp; omega) H1.out.2.2).mono ?_
  rintro e w2 ⟨rfl, k2, o2⟩
  simp only [World.size_alloc] at o2
  have hK := H1.out.1.trans k2
  have hb2 := below_kp hW hK
  have H2 := hide (And.intro hK o2)
  clear k2 o2 hK
  go_wp2_with fail
  refine (vcanon_c W hN.gl 6 (.obj (bareL l)) H.out.1 H.out.2.1 H.out.2.2.1 _ _ w2 hb2 H2.out.2).mono ?_
  rintro e w3 ⟨rfl, hw⟩
  have HK := hide (H2.out.1.trans (kp_wr hw))
  clear hw
  go_wp2
  go_ret
  exact ⟨rfl, HK.out⟩

theorem cntm_del (k : Bs) : ∀ (l : List (Bs × J)), cntm (delK k l) ≤ cntm l
  | [] => by simp [delK]
  | (a, y) :: l => by
    have ih := cntm_del k l
    unfold delK at ih ⊢
    by_cases e : a = k
    · simp only [e, decide_true, Bool.not_true, Bool.false_eq_true, not_false_iff, List.filter_cons_of_neg]
      rw [cntm]
      omega
    · simp only [e, decide_false, Bool.not_false, List.filter_cons_of_pos]
      rw [cntm, cntm]
      omega
end Go.Proofs.YtocligpfmfmihabGreatDoor
namespace Go.Proofs.YtocligpfmfmihabGreatDoor
open Go Go.RowKit Go.Maps Go.WideMaps

theorem merge_nil (m : List (Bs × Value)) (hm : Srt m) : Lib.mergeD (dm []) (dm m) = dm m := by
  have h : ∀ (l : List (Bs × Value)) (acc : List (Bs × Value)), Srt acc → (l.map dE).foldl (fun D p => D.put p.1 p.2) (dm acc) = dm (l.foldl (fun a p => insK p.1 p.2 a) acc) := by
    intro l
    induction l with
    | nil => intro acc _; rfl
    | cons p l ih =>
      intro acc ha
      simp only [List.map_cons, List.foldl_cons]
      have := dm_put p.1 p.2 acc ha
      rw [← ih (insK p.1 p.2 acc) (srt_insK p.1 p.2 acc ha), ← this]
      rfl
  have h1 := h m [] (by simp [Srt])
  have h2 := ofL_srt m hm
  unfold ofL at h2
  rw [h2] at h1
  exact h1

set_option maxRecDepth 20000 in
/-- Child. -/
theorem child_c (w : World) (F : Nat → Prop) (l : List (Bs × J)) (b : Nat) (k : Bs) (hk : k.length ≤ 139000000000000) (ho : Ob w F l (.map (some b))) :
    Calls Tryz.prog 70 #[.map (some b), .string ⟨k.toArray⟩] w fun e w' => ∃ b2, e = .returned (.map (some b2)) ∧ Kp (fun _ => False) w w' ∧ Ob w' (fun j => F j ∨ (w.heap.size ≤ j ∧ j < w'.heap.size)) (childF k l) (.map (some b2)) := by
  obtain ⟨b', m, e, hFb, hown, hrep⟩ := ho.shape
  cases e
  have hempty : ∀ G : Nat → Prop, G w.heap.size → Ob (w.alloc (.map #[] 0)) G [] (.map (some w.heap.size)) := by
    intro G hG
    unfold Ob
    rw [Rep]
    refine ⟨w.heap.size, [], rfl, hG, ?_, by rw [Repm]⟩
    simpa [dm] using World.ownsMap_made w Tryz.prog 9 Rv
  obtain ⟨lv, lps, hlk, hlr⟩ := hown.lookup keyed Tryz.underlying76 (zeroV w) (R := Rv) (zd := .held .nilIface) (zp := []) rfl (key_mk2 hk)
  have hmm := @run_makeMap Tryz.prog
  rw [dm_at] at hlr
  rcases Repm.look k l m hrep with ⟨e1, e2⟩ | ⟨v, x, e1, e2, hx⟩
  · rw [e1] at hlr
    simp only [Rv, Option.some.injEq, Prod.mk.injEq, DataW.held.injEq] at hlr
    obtain ⟨rfl, _⟩ := hlr
    have hta : ∀ w, (Instr.typeAssert .nilIface 137 76 true).run Tryz.prog w = .ok (.tuple #[.map none, .bool false]) w := fun w => by kernel_rfl
    have HC := hide (show childF k l = [] by unfold childF; rw [e2])
    clear e1 e2
    go_enter Tryz.func70, Tryz.ntmps70
    go_wp2
    go_ret
    refine ⟨_, rfl, (Kp.refl _ w).alloc _, ?_⟩
    rw [HC.out]
    exact hempty _ (Or.inr ⟨Nat.le_refl _, by simp⟩)
  · rw [e1] at hlr
    simp only [Rv, Option.some.injEq, Prod.mk.injEq, DataW.held.injEq] at hlr
    obtain ⟨rfl, _⟩ := hlr
    obtain ⟨tt, u, rfl⟩ := Rep.iface hx
    cases hj : isO x with
    | false =>
      have hta := rep_no hx hj
      have HC := hide (show childF k l = [] by unfold childF; rw [e2]; cases x <;> simp_all [isO])
      clear e1 e2 hx
      go_enter Tryz.func70, Tryz.ntmps70
      go_wp2
      go_ret
      refine ⟨_, rfl, (Kp.refl _ w).alloc _, ?_⟩
      rw [HC.out]
      exact hempty _ (Or.inr ⟨Nat.le_refl _, by simp⟩)
    | true =>
      cases x with
      | obj l' =>
        have HO := hide hx
        rw [Rep] at hx
        obtain ⟨b2, m2, e, _⟩ := hx
        cases e
        have hta := ta55 (some b2)
        have HC := hide (show childF k l = l' by unfold childF; rw [e2])
        clear e1 e2 hmm
        go_enter Tryz.func70, Tryz.ntmps70
        go_wp2
        go_ret
        refine ⟨_, rfl, Kp.refl _ w, ?_⟩
        rw [HC.out]
        exact Rep.mono (fun k hk => Or.inl hk) _ HO.out
      | null => cases hj
      | bool _ => cases hj
      | num _ => cases hj
      | str _ => cases hj
      | arr _ => cases hj

set_option maxRecDepth 20000 in
/-- With. -/
theorem with_c (w : World) (F G : Nat → Prop) (l : List (Bs × J)) (b : Nat) (k : Bs) (x : J) (xv : Value) (hk : k.length ≤ 139000000000000) (hs : Srt l) (hl : l.length ≤ 1000000) (ho : Ob w F l (.map (some b))) (hx : Rep w G x xv) (hF : ∀ k, F k → k < w.heap.size) (hG : ∀ k, G k → k < w.heap.size) :
    Calls Tryz.prog 71 #[.map (some b), .string ⟨k.toArray⟩, xv] w fun e w' => e = .returned (.map (some w.heap.size)) ∧ Kp (fun _ => False) w w' ∧ Ob w' (fun j => F j ∨ G j ∨ j = w.heap.size) (insK k x l) (.map (some w.heap.size)) := by
  obtain ⟨b', m, e, hFb, hown, hrep⟩ := ho.shape
  cases e
  obtain ⟨tt, u, rfl⟩ := Rep.iface hx
  have hml := Repm.len hrep
  have hsm : Srt m := srt_keys (Repm.keys l m hrep) hs
  have hbl := hown.lt
  have hmm : ∀ (n : Int) (w : World), (Instr.makeMap 76 (some (.int .i64 n))).run Tryz.prog w = .ok (.map (some w.heap.size)) (w.alloc (.map #[] 0)) := by
    intro n w
    simp [Instr.makeMap, run_underlying Tryz.underlying76, asInt, asIntOf, Result.andThen]
  have hwr : wrap64 ((m.length : Int) + 1) = (m.length : Int) + 1 := by unfold wrap64; omega
  go_enter Tryz.func71, Tryz.ntmps71
  go_wp2_with (first | (at_len; refine wpList_len_own _ rfl _ 76 rfl 9 137 Tryz.underlying76 Rv b m.length (dm m) rfl hown ?_; rw [dm_size]) | fail)
  have k1 : Kp (fun _ => False) w (w.alloc (.map #[] 0)) := (Kp.refl _ w).alloc _
  have o0 : (w.alloc (.map #[] 0)).ownsMap Tryz.prog 9 Rv w.heap.size 0 (dm []) := by simpa [dm] using World.ownsMap_made w Tryz.prog 9 Rv
  have o1 : (w.alloc (.map #[] 0)).ownsMap Tryz.prog 9 Rv b m.length (dm m) := ownsMap_heap hown (Below.heap_alloc _ _ _ hbl)
  have HR := hide (And.intro hrep (And.intro hx (And.intro hF (And.intro hG hs))))
  clear hmm hwr hown hrep hx hF hG ho
  refine (AnyX.maps_Copy Tryz.copy116 keyed Rv w.heap.size b 0 m.length (dm []) (dm m) _ o0 o1 (by omega) (by rw [dm_size]; unfold maxLen; omega)).mono ?_
  rintro e w2 ⟨rfl, o2, _, g2⟩
  rw [merge_nil m hsm, dm_size] at o2
  have K2 := hide (k1.of_grown g2 (Nat.le_refl _))
  clear g2 k1 o0 o1
  have hky := key_mk2 hk
  go_wp2_with (first | (at_mapUpdate; refine wpList_mapUpdate_own _ rfl _ _ _ 76 rfl 9 137 keyed Tryz.underlying76 Rv w.heap.size _ _ rfl o2 (by unfold maxLen; omega) _ _ _ rfl rfl hky (.held (.iface tt u)) [] rfl ?_; intro w3 o3 g3) | go_in)
  rw [dm_put k (.iface tt u) m hsm] at o3
  have K3 := hide (K2.out.of_grown g3 (Nat.le_refl _))
  have O3 := hide (ownsMap_tight o3)
  clear g3 o3
  go_ret
  refine ⟨rfl, K3.out, ?_⟩
  unfold Ob
  rw [Rep]
  refine ⟨w.heap.size, _, rfl, Or.inr (Or.inr rfl), O3.out, ?_⟩
  refine Repm.ins ?_ _ _ ?_
  · exact Rep.mono (fun j hj => Or.inr (Or.inl hj)) _ (Rep.frame (w := w) (fun j hj => K3.out.block j (HR.out.2.2.2.1 j hj) (by simp)) _ HR.out.2.1)
  · exact Repm.mono (fun j hj => Or.inl hj) _ (Repm.frame (w := w) (fun j hj => K3.out.block j (HR.out.2.2.1 j hj) (by simp)) _ HR.out.1)
end Go.Proofs.YtocligpfmfmihabGreatDoor

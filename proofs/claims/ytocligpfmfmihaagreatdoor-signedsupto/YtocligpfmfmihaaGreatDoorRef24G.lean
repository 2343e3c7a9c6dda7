import Derived.Test.YtocligpfmfmihaaGreatDoorRef22
import Derived.Test.YtocligpfmfmihaaGreatDoorRef21
import Derived.Test.YtocligpfmfmihaaGreatDoorSgn4
import Derived.Test.YtocligpfmfmihaaGreatDoorValid
namespace Go.Proofs.YtocligpfmfmihaaGreatDoor
open Go Go.RowKit Go.Maps

def keepK (key : Bs) (p : Bs × Nat) : Bool := !decide (p.1 = key)
/-- What put comes to. -/
def PuR (w : World) (key : Bs) (xb : Nat) (x : List (Bs × Nat)) (e : Ending) (w' : World) : Prop :=
  e = .returned (.pointer (some ⟨w.heap.size, 0, none⟩)) ∧ Kp (fun _ => False) w w' ∧ ∃ K L, BaI w.heap.size w.heap.size (x.filter (keepK key) ++ [(key, xb)]) K L w'
set_option maxRecDepth 20000 in
set_option maxHeartbeats 4000000 in
/-- put, of an object. -/
theorem rput_c (w : World) (b xb : Nat) (key : Bs) (x : List (Bs × Nat)) (K L : Value) (h : w.heap[b]? = some (vCells 123 0 [] K L))
    (hK : w.ownsRow 0 9 1 K x.length (x.map fun p => .string ⟨p.1.toArray⟩)) (hL : w.ownsRow 0 66 1 L x.length (x.map fun p => ptr p.2)) (hxl : x.length ≤ 1000000) :
    Calls Tryz.prog 46 #[.pointer (some ⟨b, 0, none⟩), .string ⟨key.toArray⟩, .pointer (some ⟨xb, 0, none⟩)] w fun e w' => PuR w key xb x e w' := by
  obtain ⟨i0, hi, hz0, hz1, hz2⟩ := info_parts infoPtr
  obtain ⟨i1, hj, hy0, hy1, hy2⟩ := info_parts infoStr
  have hbl := lt_heap h
  have I0 := heap_alloc_new w (vCells 123 0 [] (.slice none 0 0) (.slice none 0 0))
  have A0 : BaI w.heap.size w.heap.size [] (.slice none 0 0) (.slice none 0 0) (w.alloc (vCells 123 0 [] (.slice none 0 0) (.slice none 0 0))) :=
    ⟨I0, World.ownsRow_nil _ _ _ _, World.ownsRow_nil _ _ _ _, fun k hk => (by simp [Value.ownBlock] at hk), fun k hk => (by simp [Value.ownBlock] at hk), fun k hk => (by simp [Value.ownBlock] at hk)⟩
  have K0 : Kp (fun _ => False) w (w.alloc (vCells 123 0 [] (.slice none 0 0) (.slice none 0 0))) := (Kp.refl _ _).alloc _
  obtain ⟨ka, kc, rfl⟩ := own_slice hK
  obtain ⟨la, lc, rfl⟩ := own_slice hL
  have hck : ∀ i p, x[i]? = some p → ∃ g, ka = some ⟨g, 0, none⟩ ∧ g < w.heap.size ∧ w.cell? ⟨g, i, none⟩ = some (.string ⟨p.1.toArray⟩) := by
    intro i p hp
    have hlt := (List.getElem?_eq_some_iff.1 hp).1
    obtain ⟨_, ⟨e, e0⟩ | ⟨g, cap, cur, e, _⟩⟩ := id hK
    · omega
    · injection e with e1 e2 e3
      subst e1
      exact ⟨g, rfl, (hK.lt g rfl).2, own_cell hK i _ (by rw [List.getElem?_map, hp]; rfl)⟩
  have hcl : ∀ i p, x[i]? = some p → ∃ g, la = some ⟨g, 0, none⟩ ∧ g < w.heap.size ∧ w.cell? ⟨g, i, none⟩ = some (ptr p.2) := by
    intro i p hp
    have hlt := (List.getElem?_eq_some_iff.1 hp).1
    obtain ⟨_, ⟨e, e0⟩ | ⟨g, cap, cur, e, _⟩⟩ := id hL
    · omega
    · injection e with e1 e2 e3
      subst e1
      exact ⟨g, rfl, (hL.lt g rfl).2, own_cell hL i _ (by rw [List.getElem?_map, hp]; rfl)⟩
  have CK := hide (And.intro hck hcl)
  clear hck hcl hK hL I0
  obtain ⟨o0, o1, o2, o3, o4, p0, p1, p2, p3, p4, hob⟩ := vfacts h
  go_enter Tryz.func46, Tryz.ntmps46
  go_wp2_with fail
  go_loopg [8] x.length (fun gg a wr => ∃ (i : Nat) (K' L' : Value), gg = x.length - i ∧ i ≤ x.length ∧ a = .int .i64 (i : Int) ∧ Kp (fun _ => False) w wr ∧ BaI w.heap.size w.heap.size ((x.take i).filter (keepK key)) K' L' wr)
  case atStart => exact ⟨0, _, _, rfl, by omega, rfl, K0, A0⟩
  case round =>
    clear A0 K0 o0 o1 o2 o3 o4 p0 p1 p2 p3 p4 hob
    obtain ⟨i, K', L', hg, hin, rfl, K1, A1⟩ := hrel
    have HG := hide hg
    clear hg
    obtain ⟨o0, o1, o2, o3, o4, p0, p1, p2, p3, p4, hob⟩ := vfacts (vkp h K1)
    by_cases hlt : i < x.length
    · have hlt' : (i : Int) < (x.length : Int) := by omega
      obtain ⟨p, hp⟩ : ∃ p, x[i]? = some p := ⟨x[i], List.getElem?_eq_getElem hlt⟩
      obtain ⟨kg, rfl, hkg, ck⟩ := CK.out.1 i p hp
      obtain ⟨lg, rfl, hlg, cl⟩ := CK.out.2 i p hp
      have ck1 := (K1.cell (p := ⟨kg, i, none⟩) hkg (by simp)).trans ck
      have cl1 := (K1.cell (p := ⟨lg, i, none⟩) hlg (by simp)).trans cl
      have htk : x.take (i + 1) = x.take i ++ [p] := by rw [List.take_succ_eq_append_getElem hlt, (List.getElem?_eq_some_iff.1 hp).2]
      have HP := hide (And.intro hp htk)
      clear hp htk
      by_cases hs : p.1 = key
      · have hs' : (p.1 == key) = true := by simpa using hs
        have HS := hide hs
        clear hs
        go_wp2
        go_roundg (x.length - (i + 1))
        case measure => rw [HG.out]; omega
        case rel =>
          refine ⟨i + 1, K', L', rfl, by omega, int_i64 (by omega), K1, ?_⟩
          rw [HP.out.2, List.filter_append]
          have : (keepK key) p = false := by simp [keepK, HS.out]
          simpa [this] using A1
      · have hs' : (p.1 == key) = false := by simpa using hs
        have HS := hide hs
        clear hs
        have hyl : ((x.take i).filter (keepK key)).length ≤ 1000000 := Nat.le_trans (List.length_filter_le _ _) (by rw [List.length_take]; omega)
        generalize hyy : (x.take i).filter (keepK key) = y at *
        have HY := hide hyy
        clear hyy
        obtain ⟨n0, n1, n2, n3, n4, q0, q1, q2, q3, q4, hnb⟩ := vfacts A1.blk
        have hsw := K1.size
        go_upto_region 7 with fail
        go_cut [] from 20 to 69 (fun wx => ∃ g' cap', BaK w.heap.size w.heap.size y p.1 (.slice (some ⟨g', 0, none⟩) (y.length + 1) cap') L' wx ∧ Kp (fun _ => False) w wx)
        case first =>
         go_region_law (refine step_append_own rfl (.tmp 42) (.tmp 50) 36 rfl w.heap.size 9 i1 (.string ⟨#[]⟩) 1 16 Tryz.underlying36 hj hy0 hy1 hy2 rfl (by decide) K' y.length (y.map fun p => .string ⟨p.1.toArray⟩) (by simp [Act.eval]) (by exact World.ownsRow.alloc A1.rowK _) ⟨wr.heap.size, 0, none⟩ 1 1 [.string ⟨p.1.toArray⟩] (by simp [Act.eval]) rfl (by exact cell_one_new wr _ _) (by intro u hu; simp at hu; subst hu; rfl) (by unfold maxLen; omega) (by omega) (by simp; omega) ?_; intro v' w3 y1 y2 y3; obtain ⟨g', cap', rfl⟩ := own_shape y1; have B3 : Kp (fun k => K'.ownBlock = some k) wr w3 := (((Kp.refl _ wr).drew).alloc _).grown y2 (fun k hk _ => hk); have i3 : w3.heap[w.heap.size]? = some (vCells 123 0 [] K' L') := (B3.block _ hnb (fun e => A1.ownK _ e rfl)).trans A1.blk; obtain ⟨m0, m1, m2, m3, m4, r0, r1, r2, r3, r4, hmb⟩ := vfacts i3)
         all_goals
           have hy3 : (Value.slice (some ⟨g', 0, none⟩) (y.length + 1) cap').ownBlock = K'.ownBlock ∨ ∃ q, wr.heap.size ≤ q ∧ (Value.slice (some ⟨g', 0, none⟩) (y.length + 1) cap').ownBlock = some q := by
             rcases y3 with e | e
             · exact Or.inl e
             · exact Or.inr ⟨_, by simp, e⟩
           have A3 := A1.key B3 y1 hy3
           have K3 : Kp (fun _ => False) w (w3.setCell ⟨w.heap.size, 3, none⟩ (.slice (some ⟨g', 0, none⟩) (y.length + 1) cap')) :=
             Kp.setCell (p := ⟨w.heap.size, 3, none⟩) (K1.and B3 (fun i hi e => by have := (A1.rowK.lt i e).1; omega)) (fun hlt => by exact absurd hlt (by show ¬ w.heap.size < _; omega)) _
           clear hy3 y1 y2 y3 B3 i3 n0 n1 n2 n3 n4 q0 q1 q2 q3 q4 hnb o0 o1 o2 o3 o4 p0 p1 p2 p3 p4 hob ck1 cl1 m0 m1 m2 m3 m4 r0 r1 r2 r3 r4 hmb
           go_wp2_with fail
           go_meet
           exact ⟨g', cap', A3, K3⟩
        case rest =>
          obtain ⟨g', cap', A3, K3⟩ := hcut
          clear n0 n1 n2 n3 n4 q0 q1 q2 q3 q4 hnb o0 o1 o2 o3 o4 p0 p1 p2 p3 p4 hob ck1 cl1
          obtain ⟨o0, o1, o2, o3, o4, p0, p1, p2, p3, p4, hob⟩ := vfacts (vkp h K3)
          have cl4 := (K3.cell (p := ⟨lg, i, none⟩) hlg (by simp)).trans cl
          unfold ptr at cl4
          obtain ⟨n0, n1, n2, n3, n4, q0, q1, q2, q3, q4, hnb⟩ := vfacts A3.blk
          have hswc := K3.size
          go_wp2_with fail
          go_region_law (refine step_append_own rfl (.tmp 58) (.tmp 66) 78 rfl w.heap.size 66 i0 (.pointer none) 1 8 Tryz.underlying78 hi hz0 hz1 hz2 rfl (by decide) L' y.length (y.map fun p => ptr p.2) (by simp [Act.eval]) (by exact World.ownsRow.alloc A3.rowL _) ⟨wc.heap.size, 0, none⟩ 1 1 [ptr p.2] (by simp [Act.eval]) rfl (by exact cell_one_new wc _ _) (by intro u hu; simp at hu; subst hu; rfl) (by unfold maxLen; omega) (by omega) (by simp; omega) ?_; intro v' w5 y1 y2 y3; obtain ⟨g2, cap2, rfl⟩ := own_shape y1; have B5 : Kp (fun k => L'.ownBlock = some k) wc w5 := (((Kp.refl _ wc).drew).alloc _).grown y2 (fun k hk _ => hk); have i5 : w5.heap[w.heap.size]? = some (vCells 123 0 [] (.slice (some ⟨g', 0, none⟩) (y.length + 1) cap') L') := (B5.block _ hnb (fun e => A3.ownL _ e rfl)).trans A3.blk; obtain ⟨m0, m1, m2, m3, m4, r0, r1, r2, r3, r4, hmb⟩ := vfacts i5)
          all_goals
            have hy3 : (Value.slice (some ⟨g2, 0, none⟩) (y.length + 1) cap2).ownBlock = L'.ownBlock ∨ ∃ q, wc.heap.size ≤ q ∧ (Value.slice (some ⟨g2, 0, none⟩) (y.length + 1) cap2).ownBlock = some q := by
              rcases y3 with e | e
              · exact Or.inl e
              · exact Or.inr ⟨_, by simp, e⟩
            have A5 := A3.more B5 y1 hy3
            have K5 : Kp (fun _ => False) w (w5.setCell ⟨w.heap.size, 4, none⟩ (.slice (some ⟨g2, 0, none⟩) (y.length + 1) cap2)) :=
              Kp.setCell (p := ⟨w.heap.size, 4, none⟩) (K3.and B5 (fun i hi e => by have := (A3.rowL.lt i e).1; omega)) (fun hlt => by exact absurd hlt (by show ¬ w.heap.size < _; omega)) _
            have Z := hide (And.intro A5 K5)
            clear hy3 y1 y2 y3 B5 i5 A5 K5 n0 n1 n2 n3 n4 q0 q1 q2 q3 q4 hnb o0 o1 o2 o3 o4 p0 p1 p2 p3 p4 hob cl4 m0 m1 m2 m3 m4 r0 r1 r2 r3 r4 hmb
            go_wp2
            go_roundg (x.length - (i + 1))
            case measure => rw [HG.out]; omega
            case rel =>
              refine ⟨i + 1, .slice (some ⟨g', 0, none⟩) (y.length + 1) cap', .slice (some ⟨g2, 0, none⟩) (y.length + 1) cap2, rfl, by omega, int_i64 (by omega), Z.out.2, ?_⟩
              rw [HP.out.2, List.filter_append, HY.out]
              have : (keepK key) p = true := by simp [keepK, HS.out]
              simp only [List.filter_cons, this, if_true, List.filter_nil]
              exact Z.out.1
    · have hlt' : ¬ (i : Int) < (x.length : Int) := by omega
      rw [List.take_of_length_le (by omega)] at A1
      have hyl : (x.filter (keepK key)).length ≤ 1000000 := Nat.le_trans (List.length_filter_le _ _) hxl
      generalize hyy : x.filter (keepK key) = y at *
      have HY := hide hyy
      clear hyy
      obtain ⟨n0, n1, n2, n3, n4, q0, q1, q2, q3, q4, hnb⟩ := vfacts A1.blk
      have hsw := K1.size
      go_wp2_with (at_builtin; refine wpList_append_own_at _ rfl _ _ 36 rfl w.heap.size 9 i1 (.string ⟨#[]⟩) 1 16 Tryz.underlying36 hj hy0 hy1 hy2 rfl (by decide) _ _ _ rfl (A1.rowK.alloc _) ⟨wr.heap.size, 0, none⟩ 1 1 [.string ⟨key.toArray⟩] rfl rfl (cell_one_new _ _ _) (by intro u hu; simp at hu; subst hu; rfl) (by unfold maxLen; omega) (by omega) (by first | omega | (simp; omega)) ?_)
      intro v' w6 y1 y2 _ y3
      obtain ⟨g', cap', rfl⟩ := own_shape y1
      have B6 : Kp (fun k => K'.ownBlock = some k) wr w6 := ((Kp.refl _ _).alloc _).grown y2 (fun k hk _ => hk)
      have A7 := A1.key B6 y1 (own_at1 y3)
      have K7 : Kp (fun _ => False) w (w6.setCell ⟨w.heap.size, 3, none⟩ (.slice (some ⟨g', 0, none⟩) (y.length + 1) cap')) :=
        Kp.setCell (p := ⟨w.heap.size, 3, none⟩) (K1.and B6 (fun i hi e => by have := (A1.rowK.lt i e).1; omega)) (fun hlt => by exact absurd hlt (by show ¬ w.heap.size < _; omega)) _
      have i6 : w6.heap[w.heap.size]? = some (vCells 123 0 [] K' L') := (B6.block _ hnb (fun e => A1.ownK _ e rfl)).trans A1.blk
      have hs6 : w.heap.size ≤ w6.heap.size := by have := B6.size; omega
      have hs7 : (w6.setCell ⟨w.heap.size, 3, none⟩ (.slice (some ⟨g', 0, none⟩) (y.length + 1) cap')).heap.size = w6.heap.size := by simp [World.setCell]
      clear n0 n1 n2 n3 n4 q0 q1 q2 q3 q4 hnb y1 y2 y3 B6
      obtain ⟨n0, n1, n2, n3, n4, q0, q1, q2, q3, q4, hnb⟩ := vfacts i6
      obtain ⟨n0', n1', n2', n3', n4', q0', q1', q2', q3', q4', hnb'⟩ := vfacts A7.blk
      clear i6
      go_wp2_with (at_builtin; refine wpList_append_own_at _ rfl _ _ 78 rfl w.heap.size 66 i0 (.pointer none) 1 8 Tryz.underlying78 hi hz0 hz1 hz2 rfl (by decide) _ _ _ rfl (A7.rowL.alloc _) ⟨w6.heap.size, 0, none⟩ 1 1 [ptr xb] rfl rfl (by rw [← hs7]; exact cell_one_new _ _ _) (by intro u hu; simp at hu; subst hu; rfl) (by unfold maxLen; omega) (by omega) (by first | omega | (simp; omega)) ?_)
      intro v' w8 y1 y2 _ y3
      obtain ⟨g2, cap2, rfl⟩ := own_shape y1
      have B8 : Kp (fun k => L'.ownBlock = some k) (w6.setCell ⟨w.heap.size, 3, none⟩ (.slice (some ⟨g', 0, none⟩) (y.length + 1) cap')) w8 := ((Kp.refl _ _).alloc _).grown y2 (fun k hk _ => hk)
      have hy3 : (Value.slice (some ⟨g2, 0, none⟩) (y.length + 1) cap2).ownBlock = L'.ownBlock ∨ ∃ q, (w6.setCell ⟨w.heap.size, 3, none⟩ (.slice (some ⟨g', 0, none⟩) (y.length + 1) cap')).heap.size ≤ q ∧ (Value.slice (some ⟨g2, 0, none⟩) (y.length + 1) cap2).ownBlock = some q := by
        rw [hs7]
        exact own_at1 y3
      have A9 := A7.more B8 y1 hy3
      have K9 : Kp (fun _ => False) w (w8.setCell ⟨w.heap.size, 4, none⟩ (.slice (some ⟨g2, 0, none⟩) (y.length + 1) cap2)) :=
        Kp.setCell (p := ⟨w.heap.size, 4, none⟩) (K7.and B8 (fun i hi e => by have := (A7.rowL.lt i e).1; omega)) (fun hlt => by exact absurd hlt (by show ¬ w.heap.size < _; omega)) _
      have i8 : w8.heap[w.heap.size]? = some (vCells 123 0 [] (.slice (some ⟨g', 0, none⟩) (y.length + 1) cap') L') := (B8.block _ hnb' (fun e => A7.ownL _ e rfl)).trans A7.blk
      have Z := hide (And.intro A9 K9)
      clear A9 K9 hy3 y1 y2 y3 B8 n0 n1 n2 n3 n4 q0 q1 q2 q3 q4 hnb n0' n1' n2' n3' n4' q0' q1' q2' q3' q4' hnb' hs7
      obtain ⟨n0, n1, n2, n3, n4, q0, q1, q2, q3, q4, hnb⟩ := vfacts i8
      go_wp2
      go_ret
      exact ⟨rfl, Z.out.2, .slice (some ⟨g', 0, none⟩) (y.length + 1) cap', .slice (some ⟨g2, 0, none⟩) (y.length + 1) cap2, by rw [HY.out]; exact Z.out.1⟩
end Go.Proofs.YtocligpfmfmihaaGreatDoor
namespace Go.Proofs.YtocligpfmfmihaaGreatDoor
open Go Go.RowKit Go.Maps

set_option maxRecDepth 20000 in
/-- Get, of none or of what is no object. -/
theorem get_no (w : World) (key : Bs) (po : Option Addr) (hpo : po = none ∨ ∃ b kind n t K L, po = some ⟨b, 0, none⟩ ∧ w.heap[b]? = some (vCells kind n t K L) ∧ kind ≠ 123) :
    Calls Tryz.prog 45 #[.pointer po, .string ⟨key.toArray⟩] w fun e w' => e = .returned (.pointer none) ∧ w' = w := by
  rcases hpo with rfl | ⟨b, kind, n, t, K, L, rfl, h, hk⟩
  · go_enter Tryz.func45, Tryz.ntmps45
    go_wp2
    go_ret
    exact ⟨rfl, rfl⟩
  · obtain ⟨v0, v1, v2, v3, v4, z0, z1, z2, z3, z4, hvb⟩ := vfacts h
    have hkn : ((kind : Int) != 123) = true := by simp; omega
    go_enter Tryz.func45, Tryz.ntmps45
    go_wp2
    go_ret
    exact ⟨rfl, rfl⟩
theorem insK_delK {α : Type} (k : Bs) (v : α) : ∀ (l : List (Bs × α)), Srt l → insK k v (delK k l) = insK k v l
  | [], _ => rfl
  | (c, x) :: l, hs => by
    obtain ⟨h1, h2⟩ := List.pairwise_cons.1 hs
    have ih := insK_delK k v l h2
    unfold delK at ih ⊢
    by_cases hc : c = k
    · subst hc
      simp only [List.filter_cons, decide_true, Bool.not_true, Bool.false_eq_true, if_false]
      have hf : l.filter (fun p => !decide (p.1 = c)) = l := by
        rw [List.filter_eq_self]
        intro p hp
        have : p.1 ≠ c := fun e => by have := h1 p hp; rw [e] at this; exact lt_irr _ this
        simp [this]
      rw [hf, insK, if_neg (lt_irr c), if_pos rfl]
      cases l with
      | nil => rfl
      | cons p q => rw [insK, if_pos (h1 p (by simp))]
    · simp only [List.filter_cons, hc, decide_false, Bool.not_false, if_true]
      rw [insK, insK]
      by_cases hk : k < c
      · rw [if_pos hk, if_pos hk]
        have hf : l.filter (fun p => !decide (p.1 = k)) = l := by
          rw [List.filter_eq_self]
          intro p hp
          have : p.1 ≠ k := fun e => by have := h1 p hp; rw [e] at this; exact lt_irr _ (lt_tr hk this)
          simp [this]
        rw [hf]
      · rw [if_neg hk, if_neg hk, if_neg hc, if_neg hc, ih]
/-- The member of a key, in the list of an object's members and in that of their places. -/
theorem look_both (key : Bs) (x : List (Bs × J × Nat)) : (lookK key (x.map fun p => (p.1, p.2.2)) = none ∧ lookK key (x.map fun p => (p.1, p.2.1)) = none) ∨
    ∃ j c, (key, j, c) ∈ x ∧ lookK key (x.map fun p => (p.1, p.2.2)) = some c ∧ lookK key (x.map fun p => (p.1, p.2.1)) = some j := by
  induction x with
  | nil => exact Or.inl ⟨rfl, rfl⟩
  | cons p x ih =>
    obtain ⟨a, j, c⟩ := p
    simp only [List.map_cons, lookK]
    by_cases h : a = key
    · subst h
      exact Or.inr ⟨j, c, by simp, by simp, by simp⟩
    · simp only [if_neg h]
      rcases ih with ih | ⟨j', c', h1, h2⟩
      · exact Or.inl ih
      · exact Or.inr ⟨j', c', by simp [h1], h2⟩
/-- The new object, with one more member. -/
theorem put_tree {w w' : World} {F G : Nat → Prop} {lo xb : Nat} {key : Bs} {jx : J} {x : List (Bs × J × Nat)} {K L : Value} (hN : Nod (x.map fun p => (p.1, p.2.1)))
    (A : BaI lo lo ((x.map fun p => (p.1, p.2.2)).filter (fun p => !decide (p.1 = key)) ++ [(key, xb)]) K L w') (hx : ∀ a j c, (a, j, c) ∈ x → RR w F j c) (ht : RR w G jx xb) (hF : ∀ k, F k → w'.heap[k]? = w.heap[k]? ∧ k < w'.heap.size) (hG : ∀ k, G k → w'.heap[k]? = w.heap[k]? ∧ k < w'.heap.size) :
    RR w' (fun c => c < w'.heap.size) (.obj (insK key jx (ofL (x.map fun p => (p.1, p.2.1))))) lo := by
  have hm : ((x.map fun p => (p.1, p.2.2)).filter (fun p => !decide (p.1 = key)) ++ [(key, xb)]) = ((x.filter fun p => !decide (p.1 = key)) ++ [(key, jx, xb)]).map fun p => (p.1, p.2.2) := by
    rw [List.filter_map, List.map_append]
    rfl
  have hj : ofL (((x.filter fun p => !decide (p.1 = key)) ++ [(key, jx, xb)]).map fun p => (p.1, p.2.1)) = insK key jx (ofL (x.map fun p => (p.1, p.2.1))) := by
    rw [List.map_append, List.map_cons, List.map_nil, ofL_snoc]
    have : (x.filter fun p => !decide (p.1 = key)).map (fun p => (p.1, p.2.1)) = (x.map fun p => (p.1, p.2.1)).filter (fun p => !decide (p.1 = key)) := by
      rw [List.filter_map]
      rfl
    rw [this, ofL_filter, insK_delK _ _ _ (srt_ofL _)]
  rw [← hj]
  rw [hm] at A
  refine .obj _ K L (lt_heap A.blk) A.blk ?_ ?_ (fun k hk => (A.rowK.lt k hk).2) (fun k hk => (A.rowL.lt k hk).2) ?_ ?_
  · have := ownsRow_zero A.rowK
    simpa only [List.length_map, List.map_map, Function.comp_def] using this
  · have := ownsRow_zero A.rowL
    simpa only [List.length_map, List.map_map, Function.comp_def] using this
  · rw [List.map_append, List.map_cons, List.map_nil]
    refine (nod_snoc _ key jx).2 ⟨?_, ?_⟩
    · have hsub : ((x.filter fun p => !decide (p.1 = key)).map fun p => (p.1, p.2.1)).Sublist (x.map fun p => (p.1, p.2.1)) := List.filter_sublist.map _
      unfold Nod at hN ⊢
      exact (hsub.map (fun q : Bs × J => q.1)).nodup hN
    · rw [lookK_none]
      intro p hp
      obtain ⟨q, hq, rfl⟩ := List.mem_map.1 hp
      have := (List.mem_filter.1 hq).2
      simpa using this
  · intro a j c hmem
    rcases List.mem_append.1 hmem with h | h
    · exact (hx a j c (List.mem_filter.1 h).1).frame (fun k hk => (hF k hk).1) (fun k hk => (hF k hk).2)
    · obtain ⟨rfl, rfl, rfl⟩ : a = key ∧ j = jx ∧ c = xb := by simpa using h
      exact ht.frame (fun k hk => (hG k hk).1) (fun k hk => (hG k hk).2)
end Go.Proofs.YtocligpfmfmihaaGreatDoor
namespace Go.Proofs.YtocligpfmfmihaaGreatDoor
open Go Go.RowKit Go.Maps
set_option maxRecDepth 20000 in
set_option maxHeartbeats 4000000 in
/-- put, of none or of what is no object. -/
theorem rput_no (w : World) (xb : Nat) (key : Bs) (po : Option Addr) (hpo : po = none ∨ ∃ b kind n t K L, po = some ⟨b, 0, none⟩ ∧ w.heap[b]? = some (vCells kind n t K L) ∧ kind ≠ 123) :
    Calls Tryz.prog 46 #[.pointer po, .string ⟨key.toArray⟩, .pointer (some ⟨xb, 0, none⟩)] w fun e w' => PuR w key xb [] e w' := by
  obtain ⟨i0, hi, hz0, hz1, hz2⟩ := info_parts infoPtr
  obtain ⟨i1, hj, hy0, hy1, hy2⟩ := info_parts infoStr
  have I0 := heap_alloc_new w (vCells 123 0 [] (.slice none 0 0) (.slice none 0 0))
  have A1 : BaI w.heap.size w.heap.size [] (.slice none 0 0) (.slice none 0 0) (w.alloc (.cells #[.int .u8 123, .int .i64 0, .string ⟨#[]⟩, .slice none 0 0, .slice none 0 0] 80)) :=
    ⟨I0, World.ownsRow_nil _ _ _ _, World.ownsRow_nil _ _ _ _, fun k hk => (by simp [Value.ownBlock] at hk), fun k hk => (by simp [Value.ownBlock] at hk), fun k hk => (by simp [Value.ownBlock] at hk)⟩
  have K1 : Kp (fun _ => False) w (w.alloc (.cells #[.int .u8 123, .int .i64 0, .string ⟨#[]⟩, .slice none 0 0, .slice none 0 0] 80)) := (Kp.refl _ _).alloc _
  clear I0
  obtain ⟨y, hy⟩ : ∃ y : List (Bs × Nat), y = [] := ⟨_, rfl⟩
  rw [← hy] at A1
  have HY := hide hy
  have hyl : y.length ≤ 1000000 := by rw [hy]; simp
  clear hy
  rcases hpo with rfl | ⟨b, kind, n, t, K, L, rfl, h, hk⟩
  · go_enter Tryz.func46, Tryz.ntmps46
    go_upto_region 9 with fail
    generalize w.alloc (.cells #[.int .u8 123, .int .i64 0, .string ⟨#[]⟩, .slice none 0 0, .slice none 0 0] 80) = wr at *
    generalize hKK : Value.slice none 0 0 = K' at A1
    obtain ⟨L', hLL, A1⟩ : ∃ L', L' = Value.slice none 0 0 ∧ BaI w.heap.size w.heap.size y K' L' wr := ⟨_, rfl, by rw [← hKK] at A1 ⊢; exact A1⟩
    clear hKK hLL
    obtain ⟨n0, n1, n2, n3, n4, q0, q1, q2, q3, q4, hnb⟩ := vfacts A1.blk
    have hsw := K1.size
    go_wp2_with (at_builtin; refine wpList_append_own_at _ rfl _ _ 36 rfl w.heap.size 9 i1 (.string ⟨#[]⟩) 1 16 Tryz.underlying36 hj hy0 hy1 hy2 rfl (by decide) _ _ _ rfl (A1.rowK.alloc _) ⟨wr.heap.size, 0, none⟩ 1 1 [.string ⟨key.toArray⟩] rfl rfl (cell_one_new _ _ _) (by intro u hu; simp at hu; subst hu; rfl) (by unfold maxLen; omega) (by omega) (by first | omega | (simp; omega)) ?_)
    intro v' w6 y1 y2 _ y3
    obtain ⟨g', cap', rfl⟩ := own_shape y1
    have B6 : Kp (fun k => K'.ownBlock = some k) wr w6 := ((Kp.refl _ _).alloc _).grown y2 (fun k hk _ => hk)
    have A7 := A1.key B6 y1 (own_at1 y3)
    have K7 : Kp (fun _ => False) w (w6.setCell ⟨w.heap.size, 3, none⟩ (.slice (some ⟨g', 0, none⟩) (y.length + 1) cap')) :=
      Kp.setCell (p := ⟨w.heap.size, 3, none⟩) (K1.and B6 (fun i hi e => by have := (A1.rowK.lt i e).1; omega)) (fun hlt => by exact absurd hlt (by show ¬ w.heap.size < _; omega)) _
    have i6 : w6.heap[w.heap.size]? = some (vCells 123 0 [] K' L') := (B6.block _ hnb (fun e => A1.ownK _ e rfl)).trans A1.blk
    have hs6 : w.heap.size ≤ w6.heap.size := by have := B6.size; omega
    have hs7 : (w6.setCell ⟨w.heap.size, 3, none⟩ (.slice (some ⟨g', 0, none⟩) (y.length + 1) cap')).heap.size = w6.heap.size := by simp [World.setCell]
    clear n0 n1 n2 n3 n4 q0 q1 q2 q3 q4 hnb y1 y2 y3 B6
    obtain ⟨n0, n1, n2, n3, n4, q0, q1, q2, q3, q4, hnb⟩ := vfacts i6
    obtain ⟨n0', n1', n2', n3', n4', q0', q1', q2', q3', q4', hnb'⟩ := vfacts A7.blk
    clear i6
    go_wp2_with (at_builtin; refine wpList_append_own_at _ rfl _ _ 78 rfl w.heap.size 66 i0 (.pointer none) 1 8 Tryz.underlying78 hi hz0 hz1 hz2 rfl (by decide) _ _ _ rfl (A7.rowL.alloc _) ⟨w6.heap.size, 0, none⟩ 1 1 [ptr xb] rfl rfl (by rw [← hs7]; exact cell_one_new _ _ _) (by intro u hu; simp at hu; subst hu; rfl) (by unfold maxLen; omega) (by omega) (by first | omega | (simp; omega)) ?_)
    intro v' w8 y1 y2 _ y3
    obtain ⟨g2, cap2, rfl⟩ := own_shape y1
    have B8 : Kp (fun k => L'.ownBlock = some k) (w6.setCell ⟨w.heap.size, 3, none⟩ (.slice (some ⟨g', 0, none⟩) (y.length + 1) cap')) w8 := ((Kp.refl _ _).alloc _).grown y2 (fun k hk _ => hk)
    have hy3 : (Value.slice (some ⟨g2, 0, none⟩) (y.length + 1) cap2).ownBlock = L'.ownBlock ∨ ∃ q, (w6.setCell ⟨w.heap.size, 3, none⟩ (.slice (some ⟨g', 0, none⟩) (y.length + 1) cap')).heap.size ≤ q ∧ (Value.slice (some ⟨g2, 0, none⟩) (y.length + 1) cap2).ownBlock = some q := by
      rw [hs7]
      exact own_at1 y3
    have A9 := A7.more B8 y1 hy3
    have K9 : Kp (fun _ => False) w (w8.setCell ⟨w.heap.size, 4, none⟩ (.slice (some ⟨g2, 0, none⟩) (y.length + 1) cap2)) :=
      Kp.setCell (p := ⟨w.heap.size, 4, none⟩) (K7.and B8 (fun i hi e => by have := (A7.rowL.lt i e).1; omega)) (fun hlt => by exact absurd hlt (by show ¬ w.heap.size < _; omega)) _
    have i8 : w8.heap[w.heap.size]? = some (vCells 123 0 [] (.slice (some ⟨g', 0, none⟩) (y.length + 1) cap') L') := (B8.block _ hnb' (fun e => A7.ownL _ e rfl)).trans A7.blk
    have Z := hide (And.intro A9 K9)
    clear A9 K9 hy3 y1 y2 y3 B8 n0 n1 n2 n3 n4 q0 q1 q2 q3 q4 hnb n0' n1' n2' n3' n4' q0' q1' q2' q3' q4' hnb' hs7
    obtain ⟨n0, n1, n2, n3, n4, q0, q1, q2, q3, q4, hnb⟩ := vfacts i8
    go_wp2
    go_ret
    exact ⟨rfl, Z.out.2, .slice (some ⟨g', 0, none⟩) (y.length + 1) cap', .slice (some ⟨g2, 0, none⟩) (y.length + 1) cap2, by rw [HY.out] at *; simpa using Z.out.1⟩
  · obtain ⟨v0, v1, v2, v3, v4, z0, z1, z2, z3, z4, hvb⟩ := vfacts h
    have hkn : ((kind : Int) == 123) = false := by simp; omega
    go_enter Tryz.func46, Tryz.ntmps46
    go_upto_region 9 with fail
    clear v0 v1 v2 v3 v4 z0 z1 z2 z3 z4 hvb
    generalize w.alloc (.cells #[.int .u8 123, .int .i64 0, .string ⟨#[]⟩, .slice none 0 0, .slice none 0 0] 80) = wr at *
    generalize hKK : Value.slice none 0 0 = K' at A1
    obtain ⟨L', hLL, A1⟩ : ∃ L', L' = Value.slice none 0 0 ∧ BaI w.heap.size w.heap.size y K' L' wr := ⟨_, rfl, by rw [← hKK] at A1 ⊢; exact A1⟩
    clear hKK hLL
    obtain ⟨n0, n1, n2, n3, n4, q0, q1, q2, q3, q4, hnb⟩ := vfacts A1.blk
    have hsw := K1.size
    go_wp2_with (at_builtin; refine wpList_append_own_at _ rfl _ _ 36 rfl w.heap.size 9 i1 (.string ⟨#[]⟩) 1 16 Tryz.underlying36 hj hy0 hy1 hy2 rfl (by decide) _ _ _ rfl (A1.rowK.alloc _) ⟨wr.heap.size, 0, none⟩ 1 1 [.string ⟨key.toArray⟩] rfl rfl (cell_one_new _ _ _) (by intro u hu; simp at hu; subst hu; rfl) (by unfold maxLen; omega) (by omega) (by first | omega | (simp; omega)) ?_)
    intro v' w6 y1 y2 _ y3
    obtain ⟨g', cap', rfl⟩ := own_shape y1
    have B6 : Kp (fun k => K'.ownBlock = some k) wr w6 := ((Kp.refl _ _).alloc _).grown y2 (fun k hk _ => hk)
    have A7 := A1.key B6 y1 (own_at1 y3)
    have K7 : Kp (fun _ => False) w (w6.setCell ⟨w.heap.size, 3, none⟩ (.slice (some ⟨g', 0, none⟩) (y.length + 1) cap')) :=
      Kp.setCell (p := ⟨w.heap.size, 3, none⟩) (K1.and B6 (fun i hi e => by have := (A1.rowK.lt i e).1; omega)) (fun hlt => by exact absurd hlt (by show ¬ w.heap.size < _; omega)) _
    have i6 : w6.heap[w.heap.size]? = some (vCells 123 0 [] K' L') := (B6.block _ hnb (fun e => A1.ownK _ e rfl)).trans A1.blk
    have hs6 : w.heap.size ≤ w6.heap.size := by have := B6.size; omega
    have hs7 : (w6.setCell ⟨w.heap.size, 3, none⟩ (.slice (some ⟨g', 0, none⟩) (y.length + 1) cap')).heap.size = w6.heap.size := by simp [World.setCell]
    clear n0 n1 n2 n3 n4 q0 q1 q2 q3 q4 hnb y1 y2 y3 B6
    obtain ⟨n0, n1, n2, n3, n4, q0, q1, q2, q3, q4, hnb⟩ := vfacts i6
    obtain ⟨n0', n1', n2', n3', n4', q0', q1', q2', q3', q4', hnb'⟩ := vfacts A7.blk
    clear i6
    go_wp2_with (at_builtin; refine wpList_append_own_at _ rfl _ _ 78 rfl w.heap.size 66 i0 (.pointer none) 1 8 Tryz.underlying78 hi hz0 hz1 hz2 rfl (by decide) _ _ _ rfl (A7.rowL.alloc _) ⟨w6.heap.size, 0, none⟩ 1 1 [ptr xb] rfl rfl (by rw [← hs7]; exact cell_one_new _ _ _) (by intro u hu; simp at hu; subst hu; rfl) (by unfold maxLen; omega) (by omega) (by first | omega | (simp; omega)) ?_)
    intro v' w8 y1 y2 _ y3
    obtain ⟨g2, cap2, rfl⟩ := own_shape y1
    have B8 : Kp (fun k => L'.ownBlock = some k) (w6.setCell ⟨w.heap.size, 3, none⟩ (.slice (some ⟨g', 0, none⟩) (y.length + 1) cap')) w8 := ((Kp.refl _ _).alloc _).grown y2 (fun k hk _ => hk)
    have hy3 : (Value.slice (some ⟨g2, 0, none⟩) (y.length + 1) cap2).ownBlock = L'.ownBlock ∨ ∃ q, (w6.setCell ⟨w.heap.size, 3, none⟩ (.slice (some ⟨g', 0, none⟩) (y.length + 1) cap')).heap.size ≤ q ∧ (Value.slice (some ⟨g2, 0, none⟩) (y.length + 1) cap2).ownBlock = some q := by
      rw [hs7]
      exact own_at1 y3
    have A9 := A7.more B8 y1 hy3
    have K9 : Kp (fun _ => False) w (w8.setCell ⟨w.heap.size, 4, none⟩ (.slice (some ⟨g2, 0, none⟩) (y.length + 1) cap2)) :=
      Kp.setCell (p := ⟨w.heap.size, 4, none⟩) (K7.and B8 (fun i hi e => by have := (A7.rowL.lt i e).1; omega)) (fun hlt => by exact absurd hlt (by show ¬ w.heap.size < _; omega)) _
    have i8 : w8.heap[w.heap.size]? = some (vCells 123 0 [] (.slice (some ⟨g', 0, none⟩) (y.length + 1) cap') L') := (B8.block _ hnb' (fun e => A7.ownL _ e rfl)).trans A7.blk
    have Z := hide (And.intro A9 K9)
    clear A9 K9 hy3 y1 y2 y3 B8 n0 n1 n2 n3 n4 q0 q1 q2 q3 q4 hnb n0' n1' n2' n3' n4' q0' q1' q2' q3' q4' hnb' hs7
    obtain ⟨n0, n1, n2, n3, n4, q0, q1, q2, q3, q4, hnb⟩ := vfacts i8
    go_wp2
    go_ret
    exact ⟨rfl, Z.out.2, .slice (some ⟨g', 0, none⟩) (y.length + 1) cap', .slice (some ⟨g2, 0, none⟩) (y.length + 1) cap2, by rw [HY.out] at *; simpa using Z.out.1⟩
end Go.Proofs.YtocligpfmfmihaaGreatDoor
namespace Go.Proofs.YtocligpfmfmihaaGreatDoor
open Go Go.RowKit Go.Maps

/-- What stands at a pointer, as an object's members: none where it is none. -/
def PoL (w : World) (po : Option Addr) (l : List (Bs × J)) : Prop :=
  (l = [] ∧ (po = none ∨ ∃ b kind n t K L, po = some ⟨b, 0, none⟩ ∧ w.heap[b]? = some (vCells kind n t K L) ∧ kind ≠ 123)) ∨
  ((cJ (.obj l)).length ≤ 600 ∧ ∃ b, po = some ⟨b, 0, none⟩ ∧ RR w (fun c => c < w.heap.size) (.obj l) b)
theorem PoL.kp {w w' : World} {po : Option Addr} {l : List (Bs × J)} (h : PoL w po l) (hk : Kp (fun _ => False) w w') : PoL w' po l := by
  rcases h with ⟨h1, h2⟩ | ⟨h0, b, h1, h2⟩
  · refine Or.inl ⟨h1, ?_⟩
    rcases h2 with h2 | ⟨b, kind, n, t, K, L, e, hb, hk'⟩
    · exact Or.inl h2
    · exact Or.inr ⟨b, kind, n, t, K, L, e, vkp hb hk, hk'⟩
  · exact Or.inr ⟨h0, b, h1, h2.frame (fun k hk2 => hk.block k hk2 (by simp)) (fun k hk2 => Nat.lt_of_lt_of_le hk2 hk.size)⟩
/-- The parts of an object at a block. -/
theorem RR.parts {w : World} {F : Nat → Prop} {l : List (Bs × J)} {b : Nat} (h : RR w F (.obj l) b) : ∃ (x : List (Bs × J × Nat)) (K L : Value), w.heap[b]? = some (vCells 123 0 [] K L) ∧ w.ownsRow 0 9 1 K x.length (x.map fun p => .string ⟨p.1.toArray⟩) ∧ w.ownsRow 0 66 1 L x.length (x.map fun p => ptr p.2.2) ∧
    Nod (x.map fun p : Bs × J × Nat => (p.1, p.2.1)) ∧ (∀ a j c, (a, j, c) ∈ x → RR w F j c) ∧ l = ofL (x.map fun p => (p.1, p.2.1)) := by
  generalize hJ : J.obj l = j at h
  cases h with
  | obj x K L hFb h hK hL hG hH hN hx =>
    injection hJ with hJ
    exact ⟨x, K, L, h, hK, hL, hN, hx, hJ⟩
  | _ => cases hJ
theorem obj_cnt {x : List (Bs × J × Nat)} (hN : Nod (x.map fun p => (p.1, p.2.1))) {n : Nat} (h : (cJ (.obj (ofL (x.map fun p => (p.1, p.2.1))))).length ≤ n) : x.length ≤ n := by
  have hcnt := joinC_cnt ((ofL (x.map fun p => (p.1, p.2.1))).map cMem)
  have hol := ofL_len _ hN
  rw [cJ_obj] at h
  simp only [List.length_cons, List.length_append, List.length_nil, List.length_map] at h hcnt hol
  omega
theorem child_len {k : Bs} {l : List (Bs × J)} {j : J} (h : lookK k l = some j) : (cJ j).length ≤ (cJ (.obj l)).length := by
  have hm := lookK_mem h
  have := (joinC_le (l.map cMem) 0).2 (cMem (k, j)) (List.mem_map.2 ⟨_, hm, rfl⟩)
  rw [cJ_obj]
  simp only [cMem, List.length_append, List.length_cons, List.length_nil] at this ⊢
  omega
theorem getAny (w : World) (po : Option Addr) (l : List (Bs × J)) (h : PoL w po l) (key : Bs) :
    Calls Tryz.prog 45 #[.pointer po, .string ⟨key.toArray⟩] w fun e w' => ∃ po', e = .returned (.pointer po') ∧ w' = w ∧ PoL w po' (childF key l) := by
  rcases h with ⟨rfl, h2⟩ | ⟨h0, b, rfl, h2⟩
  · refine (get_no w key po h2).mono ?_
    rintro e w1 ⟨rfl, rfl⟩
    exact ⟨none, rfl, rfl, Or.inl ⟨rfl, Or.inl rfl⟩⟩
  · obtain ⟨x, K, L, hb, hK, hL, hN, hx, rfl⟩ := h2.parts
    have hxl := obj_cnt hN h0
    refine (get_c (m := x.map fun p => (p.1, p.2.2)) hb (by simpa [List.map_map, Function.comp_def] using hK) (by simpa [List.map_map, Function.comp_def] using hL) (by simp; omega) key).mono ?_
    rintro e w1 ⟨rfl, rfl⟩
    refine ⟨_, rfl, rfl, ?_⟩
    have hlo := lookK_ofL key _ hN
    rcases look_both key x with ⟨h1, h3⟩ | ⟨j, c, hm, h1, h3⟩
    · rw [h1]
      refine Or.inl ⟨?_, Or.inl rfl⟩
      rw [childF, hlo, h3]
    · rw [h1]
      have hr := hx key j c hm
      have hcl := child_len (hlo.trans h3)
      obtain ⟨n, t, K2, L2, hb2⟩ := hr.kind
      by_cases hk : ∃ l2, j = .obj l2
      · obtain ⟨l2, rfl⟩ := hk
        refine Or.inr ⟨?_, c, rfl, ?_⟩
        · rw [childF, hlo, h3]
          simp only
          omega
        · rw [childF, hlo, h3]
          exact hr
      · refine Or.inl ⟨?_, Or.inr ⟨c, rkind j, n, t, K2, L2, rfl, hb2, ?_⟩⟩
        · rw [childF, hlo, h3]
          cases j with
          | obj l2 => exact absurd ⟨l2, rfl⟩ hk
          | _ => rfl
        · cases j with
          | obj l2 => exact absurd ⟨l2, rfl⟩ hk
          | bool b => cases b <;> simp [rkind]
          | _ => simp [rkind]
theorem keepK_eq (key : Bs) : keepK key = fun p : Bs × Nat => !decide (p.1 = key) := rfl
theorem putAny (w : World) (po : Option Addr) (l : List (Bs × J)) (h : PoL w po l) (key : Bs) (xb : Nat) (jx : J) (hx : RR w (fun c => c < w.heap.size) jx xb) :
    Calls Tryz.prog 46 #[.pointer po, .string ⟨key.toArray⟩, .pointer (some ⟨xb, 0, none⟩)] w fun e w' =>
      e = .returned (.pointer (some ⟨w.heap.size, 0, none⟩)) ∧ Kp (fun _ => False) w w' ∧ RR w' (fun c => c < w'.heap.size) (.obj (insK key jx l)) w.heap.size := by
  rcases h with ⟨rfl, h2⟩ | ⟨h0, b, rfl, h2⟩
  · refine (rput_no w xb key po h2).mono ?_
    rintro e w1 ⟨rfl, K1, K, L, A⟩
    refine ⟨rfl, K1, ?_⟩
    have hfr : ∀ k, k < w.heap.size → w1.heap[k]? = w.heap[k]? ∧ k < w1.heap.size := fun k hk => ⟨K1.block k hk (by simp), Nat.lt_of_lt_of_le hk K1.size⟩
    exact put_tree (x := []) (F := fun _ => False) List.nodup_nil A (fun _ _ _ hm => by cases hm) hx (fun _ h => h.elim) hfr
  · obtain ⟨x, K, L, hb, hK, hL, hN, hxx, rfl⟩ := h2.parts
    have hxl := obj_cnt hN h0
    refine (rput_c w b xb key (x.map fun p => (p.1, p.2.2)) K L hb (by simpa [List.map_map, Function.comp_def] using hK) (by simpa [List.map_map, Function.comp_def] using hL) (by simp; omega)).mono ?_
    rintro e w1 ⟨rfl, K1, K', L', A⟩
    refine ⟨rfl, K1, ?_⟩
    have hfr : ∀ k, k < w.heap.size → w1.heap[k]? = w.heap[k]? ∧ k < w1.heap.size := fun k hk => ⟨K1.block k hk (by simp), Nat.lt_of_lt_of_le hk K1.size⟩
    exact put_tree hN A hxx hx hfr hfr
end Go.Proofs.YtocligpfmfmihaaGreatDoor
namespace Go.Proofs.YtocligpfmfmihaaGreatDoor
open Go Go.RowKit Go.Maps

theorem kp_of_below {w w' : World} (h : Below w.heap.size w w') : Kp (fun _ => False) w w' := ⟨h.os, h.tape, h.output, h.size, fun k hk _ => h.block k hk⟩
set_option maxRecDepth 20000 in
theorem valid_c (W : World) (hG : GL W) (l : Bs) (hl : l.length ≤ 2000000) (w : World) (ho : Below W.heap.size W w) :
    Calls Tryz.prog 44 #[.string ⟨l.toArray⟩] w fun e w' => e = .returned (.bool (Lib.validD l)) ∧ Kp (fun _ => False) w w' := by
  refine (Tryz.utf8_ValidString ⟨l.toArray⟩ w (by rw [mk_size2]; omega) (hG.tabs' ho)).mono ?_
  rintro e w1 ⟨rfl, hb⟩
  exact ⟨rfl, kp_of_below hb⟩
set_option maxRecDepth 20000 in
set_option maxHeartbeats 2000000 in
theorem rsigned_c (W : World) (hG : GL W) (s : ByteArray) (sv id sig : Bs) (h1 : sv.length ≤ 2000000) (h2 : id.length ≤ 2000000) (h3 : sig.length ≤ 2000000) (w : World) (ho : Below W.heap.size W w) :
    Calls Tryz.prog 19 #[.string s, .string ⟨sv.toArray⟩, .string ⟨id.toArray⟩, .string ⟨sig.toArray⟩] w fun e w' => e = .returned (.tuple #[.string ⟨(signedF s.data.toList sv id sig).1.toArray⟩, .int .i64 ((signedF s.data.toList sv id sig).2 : Int)]) ∧ Kp (fun _ => False) w w' := by
  go_enter Tryz.func19, Tryz.ntmps19
  go_wp2_with fail
  refine (robject_c W hG s w ho).mono ?_
  rintro e w1 ⟨K1, ⟨n, hn, hof, rfl⟩ | ⟨o, b, hof, hle, rfl, hr⟩⟩
  · have HC : Hid (signedF s.data.toList sv id sig = ([], n)) := by show _ = _; unfold signedF signedE; rw [hof]; rfl
    have hn' : ((n : Int) != 0) = true := by simp; omega
    clear hof
    go_wp2
    go_ret2
    exact ⟨by rw [HC.out]; rfl, K1⟩
  · have hb1 := below_kp ho K1
    have P1 : PoL w1 (some ⟨b, 0, none⟩) o := Or.inr ⟨hle, b, rfl, hr.frame (fun _ _ => rfl) (fun c hc => hc.2)⟩
    have hsz : (cJ (.obj (signL o sv id sig))).length ≤ 1000000000 := by
      unfold objectF valueF at hof
      split at hof
      · cases hof
      · rename_i l hv
        cases hof
        split at hv
        · cases hv
        · rename_i hl
          cases hp : parse s.data.toList with
          | none => rw [hp] at hv; cases hv
          | some j =>
            rw [hp] at hv
            cases hv
            have := (sign_size hp (by omega) sv id sig h1 h2 h3).2
            omega
      · cases hof
    have HOF := hide (And.intro hof hsz)
    clear hof hr hsz
    go_wp2_with fail
    refine (valid_c W hG sv h1 w1 hb1).mono ?_
    rintro e w2 ⟨rfl, K2⟩
    have hb2 := below_kp hb1 K2
    go_wp2_with fail
    refine (valid_c W hG id h2 w2 hb2).mono ?_
    rintro e w3 ⟨rfl, K3⟩
    have hb3 := below_kp hb2 K3
    go_wp2_with fail
    refine (valid_c W hG sig h3 w3 hb3).mono ?_
    rintro e w4 ⟨rfl, K4⟩
    have P4 := P1.kp ((K2.trans K3).trans K4)
    have K14 := ((K1.trans K2).trans K3).trans K4
    clear P1 hb1 hb2 hb3 K1 K2 K3 K4
    cases va : Lib.validD sv with
    | false =>
      have HC : Hid (signedF s.data.toList sv id sig = ([], 2)) := by show _ = _; unfold signedF signedE; rw [HOF.out.1]; simp [va, ansF]
      go_wp2
      go_ret2
      exact ⟨by rw [HC.out]; rfl, K14⟩
    | true =>
      cases vb : Lib.validD id with
      | false =>
        have HC : Hid (signedF s.data.toList sv id sig = ([], 2)) := by show _ = _; unfold signedF signedE; rw [HOF.out.1]; simp [va, vb, ansF]
        go_wp2
        go_ret2
        exact ⟨by rw [HC.out]; rfl, K14⟩
      | true =>
        cases vc : Lib.validD sig with
        | false =>
          have HC : Hid (signedF s.data.toList sv id sig = ([], 2)) := by show _ = _; unfold signedF signedE; rw [HOF.out.1]; simp [va, vb, vc, ansF]
          go_wp2
          go_ret2
          exact ⟨by rw [HC.out]; rfl, K14⟩
        | true =>
          have HC : Hid (signedF s.data.toList sv id sig = (cJ (.obj (signL o sv id sig)), 0)) := by show _ = _; unfold signedF signedE; rw [HOF.out.1]; simp [va, vb, vc, ansF]
          clear va vb vc
          go_wp2_with fail
          refine (getAny w4 _ o P4 kSig).mono ?_
          rintro e w5 ⟨pa, rfl, rfl, PA⟩
          go_wp2_with fail
          refine (getAny w5 _ _ PA sv).mono ?_
          rintro e w6 ⟨pm, rfl, rfl, PM⟩
          have K7 : Kp (fun _ => False) w6 (w6.alloc (.cells #[.int .u8 34, .int .i64 0, .string ⟨sig.toArray⟩, .slice none 0 0, .slice none 0 0] 80)) := (Kp.refl _ _).alloc _
          have T7 : RR (w6.alloc (.cells #[.int .u8 34, .int .i64 0, .string ⟨sig.toArray⟩, .slice none 0 0, .slice none 0 0] 80)) (fun c => c < (w6.alloc (.cells #[.int .u8 34, .int .i64 0, .string ⟨sig.toArray⟩, .slice none 0 0, .slice none 0 0] 80)).heap.size) (.str sig) w6.heap.size := .str sig (by simp) (heap_alloc_new w6 _)
          have PM7 := PM.kp K7
          have PA7 := PA.kp K7
          have P7 := P4.kp K7
          have hp := putAny _ pm _ PM7 id w6.heap.size (.str sig) T7
          have hs7 : (w6.alloc (.cells #[.int .u8 34, .int .i64 0, .string ⟨sig.toArray⟩, .slice none 0 0, .slice none 0 0] 80)).heap.size = w6.heap.size + 1 := by simp
          rw [hs7] at hp
          have HP := hide hp
          clear hp hs7
          clear PM PA P4 T7 PM7
          go_wp2_with fail
          refine HP.out.mono ?_
          rintro e w8 ⟨rfl, K8, T8⟩
          have PA8 := PA7.kp K8
          have P8 := P7.kp K8
          have HP2 := hide (putAny w8 pa _ PA8 sv _ _ T8)
          clear PA8 PA7 T8 HP
          go_wp2_with fail
          refine HP2.out.mono ?_
          rintro e w9 ⟨rfl, K9, T9⟩
          have P9 := P8.kp K9
          have HP3 := hide (putAny w9 _ _ P9 kSig _ _ T9)
          clear P9 P8 P7 T9 HP2
          go_wp2_with fail
          refine HP3.out.mono ?_
          rintro e wA ⟨rfl, KA, TA⟩
          have HT := hide (rtextJ TA HOF.out.2 wA (Kp.refl _ _))
          go_wp2_with fail
          refine HT.out.mono ?_
          rintro e wB ⟨rfl, KB⟩
          go_wp2
          go_ret2
          refine ⟨by rw [HC.out]; rfl, (((((K14.trans K7).trans K8).trans K9).trans KA).trans KB)⟩
set_option maxRecDepth 20000 in
theorem signeds_c (W : World) (hN : NG W) (s sv id sig : ByteArray) (h1 : sv.size ≤ 2000000) (h2 : id.size ≤ 2000000) (h3 : sig.size ≤ 2000000) :
    Calls Tryz.prog 5 #[.string s, .string sv, .string id, .string sig] W fun e w' => e = .returned (.bool true) ∧ Kp (fun _ => False) W w' := by
  have e1 : sv = ⟨sv.data.toList.toArray⟩ := by cases sv; simp
  have e2 : id = ⟨id.data.toList.toArray⟩ := by cases id; simp
  have e3 : sig = ⟨sig.data.toList.toArray⟩ := by cases sig; simp
  have hs := signed_c W hN s sv id sig h1 h2 h3 W (Below.refl _ _)
  have l1 : sv.data.toList.length ≤ 2000000 := by rw [Array.length_toList]; exact h1
  have l2 : id.data.toList.length ≤ 2000000 := by rw [Array.length_toList]; exact h2
  have l3 : sig.data.toList.length ≤ 2000000 := by rw [Array.length_toList]; exact h3
  generalize hvl : sv.data.toList = svl at *
  generalize hil : id.data.toList = idl at *
  generalize hgl : sig.data.toList = sgl at *
  subst e1 e2 e3
  have HS := hide hs
  clear hs hvl hil hgl h1 h2 h3
  go_enter Tryz.func5, Tryz.ntmps5
  go_wp2_with fail
  refine HS.out.mono ?_
  rintro e w1 ⟨rfl, K1⟩
  go_wp2_with fail
  refine (rsigned_c W hN.gl s svl idl sgl l1 l2 l3 w1 (below_kp (Below.refl _ W) K1)).mono ?_
  rintro e w2 ⟨rfl, K2⟩
  generalize (signedF s.data.toList svl idl sgl).1 = a at *
  generalize (signedF s.data.toList svl idl sgl).2 = n at *
  go_wp2
  all_goals
    go_ret
    exact ⟨by simp, K1.trans K2⟩
end Go.Proofs.YtocligpfmfmihaaGreatDoor

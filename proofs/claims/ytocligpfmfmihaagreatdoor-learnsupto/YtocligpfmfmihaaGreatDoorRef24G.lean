import Derived.Test.YtocligpfmfmihaaGreatDoorRef20G
namespace Go.Proofs.YtocligpfmfmihaaGreatDoor
open Go Go.RowKit Go.Maps

def keepK (key : Bs) (p : Bs × Nat) : Bool := !decide (p.1 = key)
/-- What put comes to. -/
def PuR (w : World) (key : Bs) (xb : Nat) (x : List (Bs × Nat)) (e : Ending) (w' : World) : Prop :=
  e = .returned (.pointer (some ⟨w.heap.size, 0, none⟩)) ∧ Kp (fun _ => False) w w' ∧ ∃ K L, BaI w.heap.size w.heap.size (x.filter (keepK key) ++ [(key, xb)]) K L w'
set_option maxRecDepth 20000 in
set_option maxHeartbeats 4000000 in
/-- put, of an object. -/
theorem rput_c (w : World) (b xb : Nat) (key : Bs) (x : List (Bs × Nat)) (K L : Value) (h : w.heap[b]? = some (vCells 123 0 [] K L))
    (hK : w.ownsRow 0 9 1 K x.length (x.map fun p => .string ⟨p.1.toArray⟩)) (hL : w.ownsRow 0 66 1 L x.length (x.map fun p => ptr p.2)) (hxl : x.length ≤ 1000000) :
    Calls Tryz.prog 46 #[.pointer (some ⟨b, 0, none⟩), .string ⟨key.toArray⟩, .pointer (some ⟨xb, 0, none⟩)] w fun e w' => PuR w key xb x e w' := by
  obtain ⟨i0, hi, hz0, hz1, hz2⟩ := info_parts infoPtr
  obtain ⟨i1, hj, hy0, hy1, hy2⟩ := info_parts infoStr
  have hbl := lt_heap h
  have I0 := heap_alloc_new w (vCells 123 0 [] (.slice none 0 0) (.slice none 0 0))
  have A0 : BaI w.heap.size w.heap.size [] (.slice none 0 0) (.slice none 0 0) (w.alloc (vCells 123 0 [] (.slice none 0 0) (.slice none 0 0))) :=
    ⟨I0, World.ownsRow_nil _ _ _ _, World.ownsRow_nil _ _ _ _, fun k hk => (by simp [Value.ownBlock] at hk), fun k hk => (by simp [Value.ownBlock] at hk), fun k hk => (by simp [Value.ownBlock] at hk)⟩
  have K0 : Kp (fun _ => False) w (w.alloc (vCells 123 0 [] (.slice none 0 0) (.slice none 0 0))) := (Kp.refl _ _).alloc _
  obtain ⟨ka, kc, rfl⟩ := own_slice hK
  obtain ⟨la, lc, rfl⟩ := own_slice hL
  have hck : ∀ i p, x[i]? = some p → ∃ g, ka = some ⟨g, 0, none⟩ ∧ g < w.heap.size ∧ w.cell? ⟨g, i, none⟩ = some (.string ⟨p.1.toArray⟩) := by
    intro i p hp
    have hlt := (List.getElem?_eq_some_iff.1 hp).1
    obtain ⟨_, ⟨e, e0⟩ | ⟨g, cap, cur, e, _⟩⟩ := id hK
    · omega
    · injection e with e1 e2 e3
      subst e1
      exact ⟨g, rfl, (hK.lt g rfl).2, own_cell hK i _ (by rw [List.getElem?_map, hp]; rfl)⟩
  have hcl : ∀ i p, x[i]? = some p → ∃ g, la = some ⟨g, 0, none⟩ ∧ g < w.heap.size ∧ w.cell? ⟨g, i, none⟩ = some (ptr p.2) := by
    intro i p hp
    have hlt := (List.getElem?_eq_some_iff.1 hp).1
    obtain ⟨_, ⟨e, e0⟩ | ⟨g, cap, cur, e, _⟩⟩ := id hL
    · omega
    · injection e with e1 e2 e3
      subst e1
      exact ⟨g, rfl, (hL.lt g rfl).2, own_cell hL i _ (by rw [List.getElem?_map, hp]; rfl)⟩
  have CK := hide (And.intro hck hcl)
  clear hck hcl hK hL I0
  obtain ⟨o0, o1, o2, o3, o4, p0, p1, p2, p3, p4, hob⟩ := vfacts h
  go_enter Tryz.func46, Tryz.ntmps46
  go_wp2_with fail
  go_loopg [8] x.length (fun gg a wr => ∃ (i : Nat) (K' L' : Value), gg = x.length - i ∧ i ≤ x.length ∧ a = .int .i64 (i : Int) ∧ Kp (fun _ => False) w wr ∧ BaI w.heap.size w.heap.size ((x.take i).filter (keepK key)) K' L' wr)
  case atStart => exact ⟨0, _, _, rfl, by omega, rfl, K0, A0⟩
  case round =>
    clear A0 K0 o0 o1 o2 o3 o4 p0 p1 p2 p3 p4 hob
    obtain ⟨i, K', L', hg, hin, rfl, K1, A1⟩ := hrel
    have HG := hide hg
    clear hg
    obtain ⟨o0, o1, o2, o3, o4, p0, p1, p2, p3, p4, hob⟩ := vfacts (vkp h K1)
    by_cases hlt : i < x.length
    · have hlt' : (i : Int) < (x.length : Int) := by omega
      obtain ⟨p, hp⟩ : ∃ p, x[i]? = some p := ⟨x[i], List.getElem?_eq_getElem hlt⟩
      obtain ⟨kg, rfl, hkg, ck⟩ := CK.out.1 i p hp
      obtain ⟨lg, rfl, hlg, cl⟩ := CK.out.2 i p hp
      have ck1 := (K1.cell (p := ⟨kg, i, none⟩) hkg (by simp)).trans ck
      have cl1 := (K1.cell (p := ⟨lg, i, none⟩) hlg (by simp)).trans cl
      have htk : x.take (i + 1) = x.take i ++ [p] := by rw [List.take_succ_eq_append_getElem hlt, (List.getElem?_eq_some_iff.1 hp).2]
      have HP := hide (And.intro hp htk)
      clear hp htk
      by_cases hs : p.1 = key
      · have hs' : (p.1 == key) = true := by simpa using hs
        have HS := hide hs
        clear hs
        go_wp2
        go_roundg (x.length - (i + 1))
        case measure => rw [HG.out]; omega
        case rel =>
          refine ⟨i + 1, K', L', rfl, by omega, int_i64 (by omega), K1, ?_⟩
          rw [HP.out.2, List.filter_append]
          have : (keepK key) p = false := by simp [keepK, HS.out]
          simpa [this] using A1
      · have hs' : (p.1 == key) = false := by simpa using hs
        have HS := hide hs
        clear hs
        have hyl : ((x.take i).filter (keepK key)).length ≤ 1000000 := Nat.le_trans (List.length_filter_le _ _) (by rw [List.length_take]; omega)
        generalize hyy : (x.take i).filter (keepK key) = y at *
        have HY := hide hyy
        clear hyy
        obtain ⟨n0, n1, n2, n3, n4, q0, q1, q2, q3, q4, hnb⟩ := vfacts A1.blk
        have hsw := K1.size
        go_upto_region 7 with fail
        go_cut [] from 20 to 69 (fun wx => ∃ g' cap', BaK w.heap.size w.heap.size y p.1 (.slice (some ⟨g', 0, none⟩) (y.length + 1) cap') L' wx ∧ Kp (fun _ => False) w wx)
        case first =>
         go_region_law (refine step_append_own rfl (.tmp 42) (.tmp 50) 36 rfl w.heap.size 9 i1 (.string ⟨#[]⟩) 1 16 Tryz.underlying36 hj hy0 hy1 hy2 rfl (by decide) K' y.length (y.map fun p => .string ⟨p.1.toArray⟩) (by simp [Act.eval]) (by exact World.ownsRow.alloc A1.rowK _) ⟨wr.heap.size, 0, none⟩ 1 1 [.string ⟨p.1.toArray⟩] (by simp [Act.eval]) rfl (by exact cell_one_new wr _ _) (by intro u hu; simp at hu; subst hu; rfl) (by unfold maxLen; omega) (by omega) (by simp; omega) ?_; intro v' w3 y1 y2 y3; obtain ⟨g', cap', rfl⟩ := own_shape y1; have B3 : Kp (fun k => K'.ownBlock = some k) wr w3 := (((Kp.refl _ wr).drew).alloc _).grown y2 (fun k hk _ => hk); have i3 : w3.heap[w.heap.size]? = some (vCells 123 0 [] K' L') := (B3.block _ hnb (fun e => A1.ownK _ e rfl)).trans A1.blk; obtain ⟨m0, m1, m2, m3, m4, r0, r1, r2, r3, r4, hmb⟩ := vfacts i3)
         all_goals
           have hy3 : (Value.slice (some ⟨g', 0, none⟩) (y.length + 1) cap').ownBlock = K'.ownBlock ∨ ∃ q, wr.heap.size ≤ q ∧ (Value.slice (some ⟨g', 0, none⟩) (y.length + 1) cap').ownBlock = some q := by
             rcases y3 with e | e
             · exact Or.inl e
             · exact Or.inr ⟨_, by simp, e⟩
           have A3 := A1.key B3 y1 hy3
           have K3 : Kp (fun _ => False) w (w3.setCell ⟨w.heap.size, 3, none⟩ (.slice (some ⟨g', 0, none⟩) (y.length + 1) cap')) :=
             Kp.setCell (p := ⟨w.heap.size, 3, none⟩) (K1.and B3 (fun i hi e => by have := (A1.rowK.lt i e).1; omega)) (fun hlt => by exact absurd hlt (by show ¬ w.heap.size < _; omega)) _
           clear hy3 y1 y2 y3 B3 i3 n0 n1 n2 n3 n4 q0 q1 q2 q3 q4 hnb o0 o1 o2 o3 o4 p0 p1 p2 p3 p4 hob ck1 cl1 m0 m1 m2 m3 m4 r0 r1 r2 r3 r4 hmb
           go_wp2_with fail
           go_meet
           exact ⟨g', cap', A3, K3⟩
        case rest =>
          obtain ⟨g', cap', A3, K3⟩ := hcut
          clear n0 n1 n2 n3 n4 q0 q1 q2 q3 q4 hnb o0 o1 o2 o3 o4 p0 p1 p2 p3 p4 hob ck1 cl1
          obtain ⟨o0, o1, o2, o3, o4, p0, p1, p2, p3, p4, hob⟩ := vfacts (vkp h K3)
          have cl4 := (K3.cell (p := ⟨lg, i, none⟩) hlg (by simp)).trans cl
          unfold ptr at cl4
          obtain ⟨n0, n1, n2, n3, n4, q0, q1, q2, q3, q4, hnb⟩ := vfacts A3.blk
          have hswc := K3.size
          go_wp2_with fail
          go_region_law (refine step_append_own rfl (.tmp 58) (.tmp 66) 78 rfl w.heap.size 66 i0 (.pointer none) 1 8 Tryz.underlying78 hi hz0 hz1 hz2 rfl (by decide) L' y.length (y.map fun p => ptr p.2) (by simp [Act.eval]) (by exact World.ownsRow.alloc A3.rowL _) ⟨wc.heap.size, 0, none⟩ 1 1 [ptr p.2] (by simp [Act.eval]) rfl (by exact cell_one_new wc _ _) (by intro u hu; simp at hu; subst hu; rfl) (by unfold maxLen; omega) (by omega) (by simp; omega) ?_; intro v' w5 y1 y2 y3; obtain ⟨g2, cap2, rfl⟩ := own_shape y1; have B5 : Kp (fun k => L'.ownBlock = some k) wc w5 := (((Kp.refl _ wc).drew).alloc _).grown y2 (fun k hk _ => hk); have i5 : w5.heap[w.heap.size]? = some (vCells 123 0 [] (.slice (some ⟨g', 0, none⟩) (y.length + 1) cap') L') := (B5.block _ hnb (fun e => A3.ownL _ e rfl)).trans A3.blk; obtain ⟨m0, m1, m2, m3, m4, r0, r1, r2, r3, r4, hmb⟩ := vfacts i5)
          all_goals
            have hy3 : (Value.slice (some ⟨g2, 0, none⟩) (y.length + 1) cap2).ownBlock = L'.ownBlock ∨ ∃ q, wc.heap.size ≤ q ∧ (Value.slice (some ⟨g2, 0, none⟩) (y.length + 1) cap2).ownBlock = some q := by
              rcases y3 with e | e
              · exact Or.inl e
              · exact Or.inr ⟨_, by simp, e⟩
            have A5 := A3.more B5 y1 hy3
            have K5 : Kp (fun _ => False) w (w5.setCell ⟨w.heap.size, 4, none⟩ (.slice (some ⟨g2, 0, none⟩) (y.length + 1) cap2)) :=
              Kp.setCell (p := ⟨w.heap.size, 4, none⟩) (K3.and B5 (fun i hi e => by have := (A3.rowL.lt i e).1; omega)) (fun hlt => by exact absurd hlt (by show ¬ w.heap.size < _; omega)) _
            have Z := hide (And.intro A5 K5)
            clear hy3 y1 y2 y3 B5 i5 A5 K5 n0 n1 n2 n3 n4 q0 q1 q2 q3 q4 hnb o0 o1 o2 o3 o4 p0 p1 p2 p3 p4 hob cl4 m0 m1 m2 m3 m4 r0 r1 r2 r3 r4 hmb
            go_wp2
            go_roundg (x.length - (i + 1))
            case measure => rw [HG.out]; omega
            case rel =>
              refine ⟨i + 1, .slice (some ⟨g', 0, none⟩) (y.length + 1) cap', .slice (some ⟨g2, 0, none⟩) (y.length + 1) cap2, rfl, by omega, int_i64 (by omega), Z.out.2, ?_⟩
              rw [HP.out.2, List.filter_append, HY.out]
              have : (keepK key) p = true := by simp [keepK, HS.out]
              simp only [List.filter_cons, this, if_true, List.filter_nil]
              exact Z.out.1
    · have hlt' : ¬ (i : Int) < (x.length : Int) := by omega
      rw [List.take_of_length_le (by omega)] at A1
      have hyl : (x.filter (keepK key)).length ≤ 1000000 := Nat.le_trans (List.length_filter_le _ _) hxl
      generalize hyy : x.filter (keepK key) = y at *
      have HY := hide hyy
      clear hyy
      obtain ⟨n0, n1, n2, n3, n4, q0, q1, q2, q3, q4, hnb⟩ := vfacts A1.blk
      have hsw := K1.size
      go_wp2_with (at_builtin; refine wpList_append_own_at _ rfl _ _ 36 rfl w.heap.size 9 i1 (.string ⟨#[]⟩) 1 16 Tryz.underlying36 hj hy0 hy1 hy2 rfl (by decide) _ _ _ rfl (A1.rowK.alloc _) ⟨wr.heap.size, 0, none⟩ 1 1 [.string ⟨key.toArray⟩] rfl rfl (cell_one_new _ _ _) (by intro u hu; simp at hu; subst hu; rfl) (by unfold maxLen; omega) (by omega) (by first | omega | (simp; omega)) ?_)
      intro v' w6 y1 y2 _ y3
      obtain ⟨g', cap', rfl⟩ := own_shape y1
      have B6 : Kp (fun k => K'.ownBlock = some k) wr w6 := ((Kp.refl _ _).alloc _).grown y2 (fun k hk _ => hk)
      have A7 := A1.key B6 y1 (own_at1 y3)
      have K7 : Kp (fun _ => False) w (w6.setCell ⟨w.heap.size, 3, none⟩ (.slice (some ⟨g', 0, none⟩) (y.length + 1) cap')) :=
        Kp.setCell (p := ⟨w.heap.size, 3, none⟩) (K1.and B6 (fun i hi e => by have := (A1.rowK.lt i e).1; omega)) (fun hlt => by exact absurd hlt (by show ¬ w.heap.size < _; omega)) _
      have i6 : w6.heap[w.heap.size]? = some (vCells 123 0 [] K' L') := (B6.block _ hnb (fun e => A1.ownK _ e rfl)).trans A1.blk
      have hs6 : w.heap.size ≤ w6.heap.size := by have := B6.size; omega
      have hs7 : (w6.setCell ⟨w.heap.size, 3, none⟩ (.slice (some ⟨g', 0, none⟩) (y.length + 1) cap')).heap.size = w6.heap.size := by simp [World.setCell]
      clear n0 n1 n2 n3 n4 q0 q1 q2 q3 q4 hnb y1 y2 y3 B6
      obtain ⟨n0, n1, n2, n3, n4, q0, q1, q2, q3, q4, hnb⟩ := vfacts i6
      obtain ⟨n0', n1', n2', n3', n4', q0', q1', q2', q3', q4', hnb'⟩ := vfacts A7.blk
      clear i6
      go_wp2_with (at_builtin; refine wpList_append_own_at _ rfl _ _ 78 rfl w.heap.size 66 i0 (.pointer none) 1 8 Tryz.underlying78 hi hz0 hz1 hz2 rfl (by decide) _ _ _ rfl (A7.rowL.alloc _) ⟨w6.heap.size, 0, none⟩ 1 1 [ptr xb] rfl rfl (by rw [← hs7]; exact cell_one_new _ _ _) (by intro u hu; simp at hu; subst hu; rfl) (by unfold maxLen; omega) (by omega) (by first | omega | (simp; omega)) ?_)
      intro v' w8 y1 y2 _ y3
      obtain ⟨g2, cap2, rfl⟩ := own_shape y1
      have B8 : Kp (fun k => L'.ownBlock = some k) (w6.setCell ⟨w.heap.size, 3, none⟩ (.slice (some ⟨g', 0, none⟩) (y.length + 1) cap')) w8 := ((Kp.refl _ _).alloc _).grown y2 (fun k hk _ => hk)
      have hy3 : (Value.slice (some ⟨g2, 0, none⟩) (y.length + 1) cap2).ownBlock = L'.ownBlock ∨ ∃ q, (w6.setCell ⟨w.heap.size, 3, none⟩ (.slice (some ⟨g', 0, none⟩) (y.length + 1) cap')).heap.size ≤ q ∧ (Value.slice (some ⟨g2, 0, none⟩) (y.length + 1) cap2).ownBlock = some q := by
        rw [hs7]
        exact own_at1 y3
      have A9 := A7.more B8 y1 hy3
      have K9 : Kp (fun _ => False) w (w8.setCell ⟨w.heap.size, 4, none⟩ (.slice (some ⟨g2, 0, none⟩) (y.length + 1) cap2)) :=
        Kp.setCell (p := ⟨w.heap.size, 4, none⟩) (K7.and B8 (fun i hi e => by have := (A7.rowL.lt i e).1; omega)) (fun hlt => by exact absurd hlt (by show ¬ w.heap.size < _; omega)) _
      have i8 : w8.heap[w.heap.size]? = some (vCells 123 0 [] (.slice (some ⟨g', 0, none⟩) (y.length + 1) cap') L') := (B8.block _ hnb' (fun e => A7.ownL _ e rfl)).trans A7.blk
      have Z := hide (And.intro A9 K9)
      clear A9 K9 hy3 y1 y2 y3 B8 n0 n1 n2 n3 n4 q0 q1 q2 q3 q4 hnb n0' n1' n2' n3' n4' q0' q1' q2' q3' q4' hnb' hs7
      obtain ⟨n0, n1, n2, n3, n4, q0, q1, q2, q3, q4, hnb⟩ := vfacts i8
      go_wp2
      go_ret
      exact ⟨rfl, Z.out.2, .slice (some ⟨g', 0, none⟩) (y.length + 1) cap', .slice (some ⟨g2, 0, none⟩) (y.length + 1) cap2, by rw [HY.out]; exact Z.out.1⟩
end Go.Proofs.YtocligpfmfmihaaGreatDoor
namespace Go.Proofs.YtocligpfmfmihaaGreatDoor
open Go Go.RowKit Go.Maps
set_option maxRecDepth 20000 in
set_option maxHeartbeats 4000000 in
/-- put, of none or of what is no object. -/
theorem rput_no (w : World) (xb : Nat) (key : Bs) (po : Option Addr) (hpo : po = none ∨ ∃ b kind n t K L, po = some ⟨b, 0, none⟩ ∧ w.heap[b]? = some (vCells kind n t K L) ∧ kind ≠ 123) :
    Calls Tryz.prog 46 #[.pointer po, .string ⟨key.toArray⟩, .pointer (some ⟨xb, 0, none⟩)] w fun e w' => PuR w key xb [] e w' := by
  obtain ⟨i0, hi, hz0, hz1, hz2⟩ := info_parts infoPtr
  obtain ⟨i1, hj, hy0, hy1, hy2⟩ := info_parts infoStr
  have I0 := heap_alloc_new w (vCells 123 0 [] (.slice none 0 0) (.slice none 0 0))
  have A1 : BaI w.heap.size w.heap.size [] (.slice none 0 0) (.slice none 0 0) (w.alloc (.cells #[.int .u8 123, .int .i64 0, .string ⟨#[]⟩, .slice none 0 0, .slice none 0 0] 80)) :=
    ⟨I0, World.ownsRow_nil _ _ _ _, World.ownsRow_nil _ _ _ _, fun k hk => (by simp [Value.ownBlock] at hk), fun k hk => (by simp [Value.ownBlock] at hk), fun k hk => (by simp [Value.ownBlock] at hk)⟩
  have K1 : Kp (fun _ => False) w (w.alloc (.cells #[.int .u8 123, .int .i64 0, .string ⟨#[]⟩, .slice none 0 0, .slice none 0 0] 80)) := (Kp.refl _ _).alloc _
  clear I0
  obtain ⟨y, hy⟩ : ∃ y : List (Bs × Nat), y = [] := ⟨_, rfl⟩
  rw [← hy] at A1
  have HY := hide hy
  have hyl : y.length ≤ 1000000 := by rw [hy]; simp
  clear hy
  rcases hpo with rfl | ⟨b, kind, n, t, K, L, rfl, h, hk⟩
  · go_enter Tryz.func46, Tryz.ntmps46
    go_upto_region 9 with fail
    generalize w.alloc (.cells #[.int .u8 123, .int .i64 0, .string ⟨#[]⟩, .slice none 0 0, .slice none 0 0] 80) = wr at *
    generalize hKK : Value.slice none 0 0 = K' at A1
    obtain ⟨L', hLL, A1⟩ : ∃ L', L' = Value.slice none 0 0 ∧ BaI w.heap.size w.heap.size y K' L' wr := ⟨_, rfl, by rw [← hKK] at A1 ⊢; exact A1⟩
    clear hKK hLL
    obtain ⟨n0, n1, n2, n3, n4, q0, q1, q2, q3, q4, hnb⟩ := vfacts A1.blk
    have hsw := K1.size
    go_wp2_with (at_builtin; refine wpList_append_own_at _ rfl _ _ 36 rfl w.heap.size 9 i1 (.string ⟨#[]⟩) 1 16 Tryz.underlying36 hj hy0 hy1 hy2 rfl (by decide) _ _ _ rfl (A1.rowK.alloc _) ⟨wr.heap.size, 0, none⟩ 1 1 [.string ⟨key.toArray⟩] rfl rfl (cell_one_new _ _ _) (by intro u hu; simp at hu; subst hu; rfl) (by unfold maxLen; omega) (by omega) (by first | omega | (simp; omega)) ?_)
    intro v' w6 y1 y2 _ y3
    obtain ⟨g', cap', rfl⟩ := own_shape y1
    have B6 : Kp (fun k => K'.ownBlock = some k) wr w6 := ((Kp.refl _ _).alloc _).grown y2 (fun k hk _ => hk)
    have A7 := A1.key B6 y1 (own_at1 y3)
    have K7 : Kp (fun _ => False) w (w6.setCell ⟨w.heap.size, 3, none⟩ (.slice (some ⟨g', 0, none⟩) (y.length + 1) cap')) :=
      Kp.setCell (p := ⟨w.heap.size, 3, none⟩) (K1.and B6 (fun i hi e => by have := (A1.rowK.lt i e).1; omega)) (fun hlt => by exact absurd hlt (by show ¬ w.heap.size < _; omega)) _
    have i6 : w6.heap[w.heap.size]? = some (vCells 123 0 [] K' L') := (B6.block _ hnb (fun e => A1.ownK _ e rfl)).trans A1.blk
    have hs6 : w.heap.size ≤ w6.heap.size := by have := B6.size; omega
    have hs7 : (w6.setCell ⟨w.heap.size, 3, none⟩ (.slice (some ⟨g', 0, none⟩) (y.length + 1) cap')).heap.size = w6.heap.size := by simp [World.setCell]
    clear n0 n1 n2 n3 n4 q0 q1 q2 q3 q4 hnb y1 y2 y3 B6
    obtain ⟨n0, n1, n2, n3, n4, q0, q1, q2, q3, q4, hnb⟩ := vfacts i6
    obtain ⟨n0', n1', n2', n3', n4', q0', q1', q2', q3', q4', hnb'⟩ := vfacts A7.blk
    clear i6
    go_wp2_with (at_builtin; refine wpList_append_own_at _ rfl _ _ 78 rfl w.heap.size 66 i0 (.pointer none) 1 8 Tryz.underlying78 hi hz0 hz1 hz2 rfl (by decide) _ _ _ rfl (A7.rowL.alloc _) ⟨w6.heap.size, 0, none⟩ 1 1 [ptr xb] rfl rfl (by rw [← hs7]; exact cell_one_new _ _ _) (by intro u hu; simp at hu; subst hu; rfl) (by unfold maxLen; omega) (by omega) (by first | omega | (simp; omega)) ?_)
    intro v' w8 y1 y2 _ y3
    obtain ⟨g2, cap2, rfl⟩ := own_shape y1
    have B8 : Kp (fun k => L'.ownBlock = some k) (w6.setCell ⟨w.heap.size, 3, none⟩ (.slice (some ⟨g', 0, none⟩) (y.length + 1) cap')) w8 := ((Kp.refl _ _).alloc _).grown y2 (fun k hk _ => hk)
    have hy3 : (Value.slice (some ⟨g2, 0, none⟩) (y.length + 1) cap2).ownBlock = L'.ownBlock ∨ ∃ q, (w6.setCell ⟨w.heap.size, 3, none⟩ (.slice (some ⟨g', 0, none⟩) (y.length + 1) cap')).heap.size ≤ q ∧ (Value.slice (some ⟨g2, 0, none⟩) (y.length + 1) cap2).ownBlock = some q := by
      rw [hs7]
      exact own_at1 y3
    have A9 := A7.more B8 y1 hy3
    have K9 : Kp (fun _ => False) w (w8.setCell ⟨w.heap.size, 4, none⟩ (.slice (some ⟨g2, 0, none⟩) (y.length + 1) cap2)) :=
      Kp.setCell (p := ⟨w.heap.size, 4, none⟩) (K7.and B8 (fun i hi e => by have := (A7.rowL.lt i e).1; omega)) (fun hlt => by exact absurd hlt (by show ¬ w.heap.size < _; omega)) _
    have i8 : w8.heap[w.heap.size]? = some (vCells 123 0 [] (.slice (some ⟨g', 0, none⟩) (y.length + 1) cap') L') := (B8.block _ hnb' (fun e => A7.ownL _ e rfl)).trans A7.blk
    have Z := hide (And.intro A9 K9)
    clear A9 K9 hy3 y1 y2 y3 B8 n0 n1 n2 n3 n4 q0 q1 q2 q3 q4 hnb n0' n1' n2' n3' n4' q0' q1' q2' q3' q4' hnb' hs7
    obtain ⟨n0, n1, n2, n3, n4, q0, q1, q2, q3, q4, hnb⟩ := vfacts i8
    go_wp2
    go_ret
    exact ⟨rfl, Z.out.2, .slice (some ⟨g', 0, none⟩) (y.length + 1) cap', .slice (some ⟨g2, 0, none⟩) (y.length + 1) cap2, by rw [HY.out] at *; simpa using Z.out.1⟩
  · obtain ⟨v0, v1, v2, v3, v4, z0, z1, z2, z3, z4, hvb⟩ := vfacts h
    have hkn : ((kind : Int) == 123) = false := by simp; omega
    go_enter Tryz.func46, Tryz.ntmps46
    go_upto_region 9 with fail
    clear v0 v1 v2 v3 v4 z0 z1 z2 z3 z4 hvb
    generalize w.alloc (.cells #[.int .u8 123, .int .i64 0, .string ⟨#[]⟩, .slice none 0 0, .slice none 0 0] 80) = wr at *
    generalize hKK : Value.slice none 0 0 = K' at A1
    obtain ⟨L', hLL, A1⟩ : ∃ L', L' = Value.slice none 0 0 ∧ BaI w.heap.size w.heap.size y K' L' wr := ⟨_, rfl, by rw [← hKK] at A1 ⊢; exact A1⟩
    clear hKK hLL
    obtain ⟨n0, n1, n2, n3, n4, q0, q1, q2, q3, q4, hnb⟩ := vfacts A1.blk
    have hsw := K1.size
    go_wp2_with (at_builtin; refine wpList_append_own_at _ rfl _ _ 36 rfl w.heap.size 9 i1 (.string ⟨#[]⟩) 1 16 Tryz.underlying36 hj hy0 hy1 hy2 rfl (by decide) _ _ _ rfl (A1.rowK.alloc _) ⟨wr.heap.size, 0, none⟩ 1 1 [.string ⟨key.toArray⟩] rfl rfl (cell_one_new _ _ _) (by intro u hu; simp at hu; subst hu; rfl) (by unfold maxLen; omega) (by omega) (by first | omega | (simp; omega)) ?_)
    intro v' w6 y1 y2 _ y3
    obtain ⟨g', cap', rfl⟩ := own_shape y1
    have B6 : Kp (fun k => K'.ownBlock = some k) wr w6 := ((Kp.refl _ _).alloc _).grown y2 (fun k hk _ => hk)
    have A7 := A1.key B6 y1 (own_at1 y3)
    have K7 : Kp (fun _ => False) w (w6.setCell ⟨w.heap.size, 3, none⟩ (.slice (some ⟨g', 0, none⟩) (y.length + 1) cap')) :=
      Kp.setCell (p := ⟨w.heap.size, 3, none⟩) (K1.and B6 (fun i hi e => by have := (A1.rowK.lt i e).1; omega)) (fun hlt => by exact absurd hlt (by show ¬ w.heap.size < _; omega)) _
    have i6 : w6.heap[w.heap.size]? = some (vCells 123 0 [] K' L') := (B6.block _ hnb (fun e => A1.ownK _ e rfl)).trans A1.blk
    have hs6 : w.heap.size ≤ w6.heap.size := by have := B6.size; omega
    have hs7 : (w6.setCell ⟨w.heap.size, 3, none⟩ (.slice (some ⟨g', 0, none⟩) (y.length + 1) cap')).heap.size = w6.heap.size := by simp [World.setCell]
    clear n0 n1 n2 n3 n4 q0 q1 q2 q3 q4 hnb y1 y2 y3 B6
    obtain ⟨n0, n1, n2, n3, n4, q0, q1, q2, q3, q4, hnb⟩ := vfacts i6
    obtain ⟨n0', n1', n2', n3', n4', q0', q1', q2', q3', q4', hnb'⟩ := vfacts A7.blk
    clear i6
    go_wp2_with (at_builtin; refine wpList_append_own_at _ rfl _ _ 78 rfl w.heap.size 66 i0 (.pointer none) 1 8 Tryz.underlying78 hi hz0 hz1 hz2 rfl (by decide) _ _ _ rfl (A7.rowL.alloc _) ⟨w6.heap.size, 0, none⟩ 1 1 [ptr xb] rfl rfl (by rw [← hs7]; exact cell_one_new _ _ _) (by intro u hu; simp at hu; subst hu; rfl) (by unfold maxLen; omega) (by omega) (by first | omega | (simp; omega)) ?_)
    intro v' w8 y1 y2 _ y3
    obtain ⟨g2, cap2, rfl⟩ := own_shape y1
    have B8 : Kp (fun k => L'.ownBlock = some k) (w6.setCell ⟨w.heap.size, 3, none⟩ (.slice (some ⟨g', 0, none⟩) (y.length + 1) cap')) w8 := ((Kp.refl _ _).alloc _).grown y2 (fun k hk _ => hk)
    have hy3 : (Value.slice (some ⟨g2, 0, none⟩) (y.length + 1) cap2).ownBlock = L'.ownBlock ∨ ∃ q, (w6.setCell ⟨w.heap.size, 3, none⟩ (.slice (some ⟨g', 0, none⟩) (y.length + 1) cap')).heap.size ≤ q ∧ (Value.slice (some ⟨g2, 0, none⟩) (y.length + 1) cap2).ownBlock = some q := by
      rw [hs7]
      exact own_at1 y3
    have A9 := A7.more B8 y1 hy3
    have K9 : Kp (fun _ => False) w (w8.setCell ⟨w.heap.size, 4, none⟩ (.slice (some ⟨g2, 0, none⟩) (y.length + 1) cap2)) :=
      Kp.setCell (p := ⟨w.heap.size, 4, none⟩) (K7.and B8 (fun i hi e => by have := (A7.rowL.lt i e).1; omega)) (fun hlt => by exact absurd hlt (by show ¬ w.heap.size < _; omega)) _
    have i8 : w8.heap[w.heap.size]? = some (vCells 123 0 [] (.slice (some ⟨g', 0, none⟩) (y.length + 1) cap') L') := (B8.block _ hnb' (fun e => A7.ownL _ e rfl)).trans A7.blk
    have Z := hide (And.intro A9 K9)
    clear A9 K9 hy3 y1 y2 y3 B8 n0 n1 n2 n3 n4 q0 q1 q2 q3 q4 hnb n0' n1' n2' n3' n4' q0' q1' q2' q3' q4' hnb' hs7
    obtain ⟨n0, n1, n2, n3, n4, q0, q1, q2, q3, q4, hnb⟩ := vfacts i8
    go_wp2
    go_ret
    exact ⟨rfl, Z.out.2, .slice (some ⟨g', 0, none⟩) (y.length + 1) cap', .slice (some ⟨g2, 0, none⟩) (y.length + 1) cap2, by rw [HY.out] at *; simpa using Z.out.1⟩
end Go.Proofs.YtocligpfmfmihaaGreatDoor

import Derived.Test.YtocligpfmfmihaaGreatDoorRef27G
namespace Go.Proofs.YtocligpfmfmihaaGreatDoor
open Go Go.RowKit Go.Maps
theorem flat_at (ks : List Ky) (i : Nat) (k : Ky) (h : ks[i]? = some k) (f : Nat) (hf : f < 4) : (ks.flatMap kyC)[i * 4 + f]? = (kyC k)[f]? := by
 induction ks generalizing i with
 | nil => cases h
 | cons a l ih =>
  cases i with
  | zero =>
   simp at h
   subst h
   rw [List.flatMap_cons, List.getElem?_append_left (by simp [kyC]; omega)]
   simp
  | succ i =>
   rw [List.flatMap_cons, List.getElem?_append_right (by simp [kyC]; omega)]
   have : (i + 1) * 4 + f - (kyC a).length = i * 4 + f := by simp [kyC]; omega
   rw [this]
   exact ih i (by simpa using h)
theorem ky_cells {w : World} {B : Nat} {g n c : Nat} {ks : List Ky} (h : w.ownsRow B 35 4 (.slice (some ⟨g, 0, none⟩) n c) n (ks.flatMap kyC)) (i : Nat) (k : Ky) (hk : ks[i]? = some k) :
  w.cell? ⟨g, i * 4, none⟩ = some (.string ⟨k.id.toArray⟩) ∧ w.cell? ⟨g, i * 4 + 1, none⟩ = some (.string ⟨k.key.toArray⟩) ∧ w.cell? ⟨g, i * 4 + 2, none⟩ = some (.bool k.old) ∧ w.cell? ⟨g, i * 4 + 3, none⟩ = some (.int .i64 k.till) := by
 have hc := h.cells (g := g) rfl
 have q : ∀ f u, f < 4 → (kyC k)[f]? = some u → w.cell? ⟨g, i * 4 + f, none⟩ = some u := by
  intro f u hf hu
  have := hc (i * 4 + f) u (by rw [flat_at ks i k hk f hf]; exact hu)
  rw [Addr.add_lit] at this
  simpa using this
 exact ⟨q 0 _ (by omega) rfl, q 1 _ (by omega) rfl, q 2 _ (by omega) rfl, q 3 _ (by omega) rfl⟩
theorem own_slice4 {w : World} {B : Nat} {e : TypeId} {v : Value} {n : Nat} {xs : List Value} (h : w.ownsRow B e 4 v n xs) : ∃ a c, v = .slice a n c ∧ (0 < n → ∃ g, a = some ⟨g, 0, none⟩ ∧ g < w.heap.size) := by
 have h2 := h
 obtain ⟨_, ⟨rfl, rfl⟩ | ⟨g, cap, cur, rfl, _⟩⟩ := h
 ·exact ⟨_, _, rfl, fun h => absurd h (by omega)⟩
 ·exact ⟨_, _, rfl, fun _ => ⟨g, rfl, (h2.lt g rfl).2⟩⟩
theorem sort_out (ks : List Ky) (h : (ks.map (·.id)).Nodup) (i : Nat) (hi : i < ks.length) : ∃ j k, (ordIx (ks.map (·.id)) ks.length)[i]? = some j ∧ ks[j]? = some k ∧ ((ofL (ks.map fun k => (k.id, k))).map (·.2))[i]? = some k := by
 have hn : Nod (ks.map fun k => (k.id, k)) := by
  unfold Nod
  rw [List.map_map]
  exact h
 have hix := ordIx_ofL _ hn ks.length (by simp)
 rw [List.take_of_length_le (by simp), List.map_map, show ((fun x : Bs × Ky => x.1) ∘ fun k : Ky => (k.id, k)) = fun k => k.id from rfl] at hix
 have hl := ordIx_len (ks.map (·.id)) ks.length
 obtain ⟨j, hj⟩ : ∃ j, (ordIx (ks.map (·.id)) ks.length)[i]? = some j := ⟨_, List.getElem?_eq_getElem (by omega)⟩
 have hjl := ordIx_lt _ _ j (List.mem_of_getElem? hj)
 refine ⟨j, ks[j], hj, List.getElem?_eq_getElem hjl, ?_⟩
 have h1 := congrArg (fun l => l[i]?) hix
 simp only [List.getElem?_map, hj, Option.map_some, List.getElem?_eq_getElem hjl] at h1
 rw [List.getElem?_map]
 cases ho : (ofL (ks.map fun k => (k.id, k)))[i]? with
 | none => rw [ho] at h1; cases h1
 | some q =>
  rw [ho] at h1
  simp only [Option.map_some, Option.some.injEq] at h1
  rw [← h1]
  rfl
theorem ofL_lenK (ks : List Ky) (h : (ks.map (·.id)).Nodup) : ((ofL (ks.map fun k => (k.id, k))).map (·.2)).length = ks.length := by
 have hn : Nod (ks.map fun k => (k.id, k)) := by
  unfold Nod
  rw [List.map_map]
  exact h
 have := congrArg List.length (ordIx_ofL _ hn ks.length (by simp))
 rw [List.length_map, List.length_map, ordIx_len, List.take_of_length_le (by simp)] at this
 rw [List.length_map]
 exact this.symm
end Go.Proofs.YtocligpfmfmihaaGreatDoor
namespace Go.Proofs.YtocligpfmfmihaaGreatDoor
open Go Go.RowKit Go.Maps
theorem own_base {w : World} {B B' : Nat} {e : TypeId} {sz n : Nat} {v : Value} {xs : List Value} (hb : B ≤ B') (h : w.ownsRow B' e sz v n xs) : w.ownsRow B e sz v n xs := by
 obtain ⟨h1, h2⟩ := h
 refine ⟨h1, ?_⟩
 rcases h2 with h2 | ⟨g, cap, cur, rfl, hg, r⟩
 ·exact Or.inl h2
 ·exact Or.inr ⟨g, cap, cur, rfl, Nat.le_trans hb hg, r⟩
theorem joinF_eq (a b : List Ky) : joinF (a ++ b) [] = joinF a b := by
 unfold joinF
 rw [List.append_nil]
theorem joinF_no {ks : List Ky} (h : ¬ (ks.map (·.id)).Nodup) : joinF ks [] = none := by
 unfold joinF
 rw [List.append_nil, if_neg h]
theorem joinF_yes {ks : List Ky} (h : (ks.map (·.id)).Nodup) : joinF ks [] = some ((ofL (ks.map fun k => (k.id, k))).map (·.2)) := by
 unfold joinF
 rw [List.append_nil, if_pos h]
theorem nodup_ne {ks : List Ky} (h : (ks.map (·.id)).Nodup) {i j : Nat} {a b : Ky} (hi : ks[i]? = some a) (hj : ks[j]? = some b) (hne : i ≠ j) : a.id ≠ b.id := by
 intro e
 have h1 : (ks.map (·.id))[i]? = some a.id := by rw [List.getElem?_map, hi]; rfl
 have h2 : (ks.map (·.id))[j]? = some a.id := by rw [List.getElem?_map, hj, e]; rfl
 obtain ⟨l1, e1⟩ := List.getElem?_eq_some_iff.1 h1
 obtain ⟨l2, e2⟩ := List.getElem?_eq_some_iff.1 h2
 exact hne ((List.getElem_inj h).1 (e1.trans e2.symm))
set_option maxRecDepth 20000 in
set_option maxHeartbeats 4000000 in
theorem rsorted_c (w : World) (B : Nat) (v : Value) (ks : List Ky) (hrow : w.ownsRow B 35 4 v ks.length (ks.flatMap kyC)) (hl : ks.length ≤ 100000) :
  Calls Tryz.prog 83 #[v] w fun e w' => KsR w (joinF ks []) e w' := by
 obtain ⟨i0, hi, hz0, hz1, hz2⟩ := info_parts infoKey
 obtain ⟨i1, hj, hy0, hy1, hy2⟩ := info_parts infoStr
 obtain ⟨va, vc, rfl, hva⟩ := own_slice4 hrow
 have HV := hide (And.intro hva hrow)
 clear hva hrow
 go_enter Tryz.func83, Tryz.ntmps83
 go_wp2_with fail
 go_loopg [4, 5] ks.length (fun gg a bb wr => ∃ (i : Nat), gg = ks.length - i ∧ i ≤ ks.length ∧ bb = .int .i64 (i : Int) ∧ Kp (fun _ => False) w wr ∧ ((ks.take i).map (·.id)).Nodup ∧ wr.ownsRow w.heap.size 9 1 a i ((ks.take i).map fun k => .string ⟨k.id.toArray⟩))
 case atStart => exact ⟨0, rfl, by omega, rfl, Kp.refl _ _, by simp, World.ownsRow_nil _ _ _ _⟩
 case round =>
  obtain ⟨i, hg, hin, rfl, K1, hnd, hids⟩ := hrel
  have HG := hide (And.intro hg hnd)
  clear hg hnd
  by_cases hlt : i < ks.length
  ·have hlt' : (i : Int) < (ks.length : Int) := by omega
   obtain ⟨g, rfl, hgl⟩ := HV.out.1 (by omega)
   obtain ⟨ki, hki⟩ : ∃ k, ks[i]? = some k := ⟨ks[i], List.getElem?_eq_getElem hlt⟩
   have hcell : ∀ j k, ks[j]? = some k → wr.cell? ⟨g, j * 4, none⟩ = some (.string ⟨k.id.toArray⟩) := fun j k hk => (K1.cell (p := ⟨g, j * 4, none⟩) hgl (by simp)).trans (ky_cells HV.out.2 j k hk).1
   have ci := hcell i ki hki
   have HC := hide (And.intro hcell hki)
   clear hcell hki
   go_wp2_with fail
   go_loopg [6] i (fun g2 c2 w2 => ∃ (j : Nat), g2 = i - j ∧ j ≤ i ∧ c2 = .int .i64 (j : Int) ∧ (∃ m, wr.drewN m = w2) ∧ ∀ j' k', j' < j → ks[j']? = some k' → k'.id ≠ ki.id)
   case atStart => exact ⟨0, rfl, by omega, rfl, ⟨0, rfl⟩, fun _ _ h => absurd h (by omega)⟩
   case round =>
    obtain ⟨j, hg2, hji, rfl, ⟨m, rfl⟩, hne⟩ := hrel
    have H2 := hide (And.intro hg2 hne)
    clear hg2 hne
    by_cases hjl : j < i
    ·have hjl' : (j : Int) < (i : Int) := by omega
     obtain ⟨kj, hkj⟩ : ∃ k, ks[j]? = some k := ⟨ks[j], List.getElem?_eq_getElem (by omega)⟩
     have cj := HC.out.1 j kj hkj
     have HJ := hide hkj
     clear hkj
     have hjs : (j : Int) < (ks.length : Int) := by omega
     by_cases he : ki.id = kj.id
     ·have he' : (ki.id == kj.id) = true := by simpa using he
      have HN : Hid (joinF ks [] = none) := joinF_no (fun h => nodup_ne h HC.out.2 HJ.out (by omega) he)
      clear he
      go_wp2
      go_quiet (fail)
      go_wp2
      go_ret2
      exact ksR_none HN.out ((K1.drewN _).drewN _)
     ·have he' : (ki.id == kj.id) = false := by simpa using he
      have HE := hide he
      clear he
      go_wp2
      go_quiet (fail)
      go_wp2
      go_roundg (i - (j + 1))
      case measure => rw [H2.out.1]; omega
      case rel =>
       refine ⟨j + 1, rfl, by omega, int_i64 (by omega), ⟨_, rfl⟩, ?_⟩
       intro j' k' hj' hk'
       rcases Nat.lt_or_ge j' j with hq | hq
       ·exact H2.out.2 j' k' hq hk'
       ·have : j' = j := by omega
        subst this
        rw [HJ.out] at hk'
        injection hk' with hk'
        subst hk'
        exact fun e => HE.out e.symm
    ·have hjl' : ¬ (j : Int) < (i : Int) := by omega
     have hij : j = i := by omega
     have HIJ := hide hij
     clear hij
     have htk : ks.take (i + 1) = ks.take i ++ [ki] := by rw [List.take_succ_eq_append_getElem hlt, (List.getElem?_eq_some_iff.1 HC.out.2).2]
     have hnd2 : ((ks.take (i + 1)).map (·.id)).Nodup := by
      rw [htk, List.map_append, List.nodup_append]
      refine ⟨HG.out.2, by simp, ?_⟩
      intro a ha b hb
      obtain ⟨k', hk', rfl⟩ := List.mem_map.1 ha
      obtain rfl : b = ki.id := by simpa using hb
      obtain ⟨j', hj', he'⟩ := List.mem_iff_getElem.1 hk'
      rw [List.length_take] at hj'
      have hg' : ks[j']? = some k' := by
       rw [List.getElem?_eq_getElem (by omega)]
       rw [List.getElem_take] at he'
       rw [he']
      exact H2.out.2 j' k' (by rw [HIJ.out]; omega) hg'
     have HT := hide (And.intro htk hnd2)
     clear htk hnd2
     have hrD : (wr.drewN m).ownsRow w.heap.size 9 1 _ i ((ks.take i).map fun k => .string ⟨k.id.toArray⟩) := hids
     have hs1 := K1.size
     go_wp2_with (at_builtin; refine wpList_append_own_at _ rfl _ _ 36 rfl w.heap.size 9 i1 (.string ⟨#[]⟩) 1 16 Tryz.underlying36 hj hy0 hy1 hy2 rfl (by decide) _ _ _ rfl (hrD.alloc _) ⟨wr.heap.size, 0, none⟩ 1 1 [.string ⟨ki.id.toArray⟩] rfl rfl (by exact cell_one_new wr _ _) (by intro u hu; simp at hu; subst hu; rfl) (by unfold maxLen; omega) (by omega) (by simp; omega) ?_)
     intro v' w6 y1 y2 _ y3
     have K7 : Kp (fun _ => False) w w6 := ((K1.drewN m).alloc _).grown y2 (fun k hk hlt => by have := (hids.lt k hk).1; omega)
     have R7 := hide y1
     clear y1 y2 y3
     go_wp2
     go_roundg (ks.length - (i + 1))
     case measure => rw [HG.out.1]; omega
     case rel =>
      refine ⟨i + 1, rfl, by omega, int_i64 (by omega), K7, HT.out.2, ?_⟩
      rw [HT.out.1, List.map_append, List.map_take]
      exact R7.out
  ·have hlt' : ¬ (i : Int) < (ks.length : Int) := by omega
   have hie : i = ks.length := by omega
   have hnd : (ks.map (·.id)).Nodup := by
    have := HG.out.2
    rw [List.take_of_length_le (by omega)] at this
    exact this
   rw [List.take_of_length_le (by omega)] at hids
   have HJ := hide (joinF_yes hnd)
   have hol := ofL_lenK ks hnd
   have hso := sort_out ks hnd
   have hord := rorder_c wr (ks.map (·.id)) w.heap.size _ (by rw [List.length_map, ← hie, List.map_map]; exact hids) (by simp; omega)
   generalize hO : (ofL (ks.map fun k => (k.id, k))).map (·.2) = O at *
   have HO := hide (And.intro hord (And.intro hol hso))
   clear hO hord hol hso hids hnd
   clear hie
   go_wp2_with fail
   refine HO.out.1.mono ?_
   rintro e w1 ⟨v2, rfl, K2, r2⟩
   rw [List.length_map] at r2
   obtain ⟨oa, oc, rfl⟩ := own_slice r2
   have K12 := K1.trans K2
   have hoc : ∀ i, i < ks.length → ∃ og, oa = some ⟨og, 0, none⟩ ∧ og < w1.heap.size := by
    intro i hi
    obtain ⟨n', hn'⟩ : ∃ n', ks.length = n' + 1 := ⟨ks.length - 1, by omega⟩
    have r3 := r2
    rw [hn'] at r3
    obtain ⟨g9, c9, e9⟩ := own_shape r3
    injection e9 with e1
    subst e1
    exact ⟨g9, rfl, (r2.lt g9 rfl).2⟩
   have HOC := hide (And.intro hoc r2)
   clear hoc r2
   go_wp2_with fail
   go_loopg [8, 9] ks.length (fun gg a bb wr => ∃ (i : Nat), gg = ks.length - i ∧ i ≤ ks.length ∧ bb = .int .i64 (i : Int) ∧ Kp (fun _ => False) w1 wr ∧ wr.ownsRow w1.heap.size 35 4 a i ((O.take i).flatMap kyC))
   case atStart => exact ⟨0, rfl, by omega, rfl, Kp.refl _ _, World.ownsRow_nil _ _ _ _⟩
   case round =>
    obtain ⟨i, hg, hin, rfl, K3, hout⟩ := hrel
    have HG3 := hide hg
    clear hg
    have K13 := K12.trans K3
    by_cases hlt : i < ks.length
    ·have hlt' : (i : Int) < (ks.length : Int) := by omega
     obtain ⟨g, rfl, hgl⟩ := HV.out.1 (by omega)
     obtain ⟨og, rfl, hog⟩ := HOC.out.1 i hlt
     obtain ⟨j, k, hj1, hj2, hj3⟩ := HO.out.2.2 i hlt
     have co : wr.cell? ⟨og, i, none⟩ = some (.int .i64 (j : Int)) := (K3.cell (p := ⟨og, i, none⟩) hog (by simp)).trans (own_cell HOC.out.2 i _ (by rw [List.getElem?_map, hj1]; rfl))
     obtain ⟨c0, c1, c2, c3⟩ := ky_cells HV.out.2 j k hj2
     have c0' := (K13.cell (p := ⟨g, j * 4, none⟩) hgl (by simp)).trans c0
     have c1' := (K13.cell (p := ⟨g, j * 4 + 1, none⟩) hgl (by simp)).trans c1
     have c2' := (K13.cell (p := ⟨g, j * 4 + 2, none⟩) hgl (by simp)).trans c2
     have c3' := (K13.cell (p := ⟨g, j * 4 + 3, none⟩) hgl (by simp)).trans c3
     have hjl : (j : Int) < (ks.length : Int) := by have := (List.getElem?_eq_some_iff.1 hj2).1; omega
     have htk : O.take (i + 1) = O.take i ++ [k] := by
      obtain ⟨l1, e1⟩ := List.getElem?_eq_some_iff.1 hj3
      rw [List.take_succ_eq_append_getElem l1, e1]
     have HT := hide htk
     clear hj1 hj2 hj3 htk c0 c1 c2 c3
     have hs3 := K3.size
     go_wp2_with (at_builtin; (refine wpList_append_own_at _ rfl _ _ 28 rfl w1.heap.size 35 i0 (.agg #[.string ⟨#[]⟩, .string ⟨#[]⟩, .bool false, .int .i64 0]) 4 48 Tryz.underlying28 hi hz0 hz1 hz2 rfl (by decide) _ _ _ rfl (World.ownsRow.alloc hout _) ⟨wr.heap.size, 0, none⟩ 1 1 (kyC k) rfl rfl ?c1 (by intro u hu; simp [kyC] at hu; rcases hu with rfl | rfl | rfl | rfl <;> rfl) (by unfold maxLen; omega) (by omega) (by simp; omega) ?_))
     case c1 =>
      intro j u hj
      rcases j with _ | _ | _ | _ | j
      all_goals simp [kyC] at hj
      all_goals subst hj
      all_goals simp [Addr.add]
     intro v' w6 y1 y2 _ y3
     have K7 : Kp (fun _ => False) w1 w6 := (K3.alloc _).grown y2 (fun k hk hlt => by have := (hout.lt k hk).1; omega)
     have R7 := hide y1
     clear y1 y2 y3
     go_wp2
     go_roundg (ks.length - (i + 1))
     case measure => rw [HG3.out]; omega
     case rel =>
      refine ⟨i + 1, rfl, by omega, int_i64 (by omega), K7, ?_⟩
      rw [HT.out, List.flatMap_append]
      have e9 : List.flatMap kyC [k] = kyC k := by simp
      rw [e9]
      exact R7.out
    ·have hlt' : ¬ (i : Int) < (ks.length : Int) := by omega
     go_wp2
     go_ret2
     refine ⟨K13, ?_⟩
     rw [HJ.out]
     refine ⟨_, rfl, ?_⟩
     have : i = O.length := by rw [HO.out.2.1]; omega
     rw [this, List.take_length] at hout
     exact own_base K12.size hout
end Go.Proofs.YtocligpfmfmihaaGreatDoor
namespace Go.Proofs.YtocligpfmfmihaaGreatDoor
open Go Go.RowKit Go.Maps
def DcR (w : World) (o : Option (Bs × Int × List Ky)) (e : Ending) (w' : World) : Prop :=
 Kp (fun _ => False) w w' ∧ match o with
 | none => ∃ (s : ByteArray) (u : Int), e = .returned (.tuple #[.agg #[.string s, .int .i64 u, .slice none 0 0], .bool false])
 | some (s, u, ks) => ∃ v, e = .returned (.tuple #[.agg #[.string ⟨s.toArray⟩, .int .i64 u, v], .bool true]) ∧ w'.ownsRow w.heap.size 35 4 v ks.length (ks.flatMap kyC)
theorem doc_results {w : World} {rb : Nat} {a b c d : Value} (tmps : Array Value) (h2 : tmps[2]?.getD undef = .pointer (some ⟨rb, 0, none⟩)) (h3 : tmps[3]?.getD undef = d) (hb : w.heap[rb]? = some (.cells #[a, b, c] 30)) :
  (results Tryz.f48 tmps).run Tryz.prog w = .ok (.tuple #[.agg #[a, b, c], d]) w := by
 have c0 : w.cell? ⟨rb, 0, none⟩ = some a := by simp [World.cell?, hb]
 have c1 : w.cell? ⟨rb, 1, none⟩ = some b := by simp [World.cell?, hb]
 have c2 : w.cell? ⟨rb, 2, none⟩ = some c := by simp [World.cell?, hb]
 simp [results, Tryz.results48, go_sem, h2, h3, c0, c1, c2]
theorem rd_results {w : World} {rb : Nat} {a b c d : Value} (tmps : Array Value) (h2 : tmps[2]?.getD undef = .pointer (some ⟨rb, 0, none⟩)) (h3 : tmps[3]?.getD undef = d) (hb : w.heap[rb]? = some (.cells #[a, b, c] 30)) :
  (results Tryz.f21 tmps).run Tryz.prog w = .ok (.tuple #[.agg #[a, b, c], d]) w := by
 have c0 : w.cell? ⟨rb, 0, none⟩ = some a := by simp [World.cell?, hb]
 have c1 : w.cell? ⟨rb, 1, none⟩ = some b := by simp [World.cell?, hb]
 have c2 : w.cell? ⟨rb, 2, none⟩ = some c := by simp [World.cell?, hb]
 simp [results, Tryz.results21, go_sem, h2, h3, c0, c1, c2]
end Go.Proofs.YtocligpfmfmihaaGreatDoor
namespace Go.Proofs.YtocligpfmfmihaaGreatDoor
open Go.Lib
theorem insK_perm {α : Type} (k : Bs) (v : α) : ∀ (l : List (Bs × α)), lookK k l = none → (insK k v l).Perm ((k, v) :: l)
 | [], _ => List.Perm.refl _
 | (a, x) :: l, h => by
  have hne : a ≠ k := by
   intro e
   simp [lookK, e] at h
  have h' : lookK k l = none := by simpa [lookK, hne] using h
  unfold insK
  split
  ·exact List.Perm.refl _
  ·exact ((insK_perm k v l h').cons (a, x)).trans (List.Perm.swap _ _ _)
theorem ofL_perm_self {α : Type} (m : List (Bs × α)) (h : Nod m) : (ofL m).Perm m := by
 have : ∀ n (m : List (Bs × α)), m.length = n → Nod m → (ofL m).Perm m := by
  intro n
  induction n with
  | zero => intro m hm _; obtain rfl := List.eq_nil_of_length_eq_zero hm; exact List.Perm.refl _
  | succ n ih =>
   intro m hm hn
   have hne : m ≠ [] := by intro e; subst e; simp at hm
   obtain ⟨l, p, rfl⟩ : ∃ l p, m = l ++ [p] := ⟨m.dropLast, m.getLast hne, (List.dropLast_concat_getLast hne).symm⟩
   obtain ⟨a, x⟩ := p
   obtain ⟨h1, h2⟩ := (nod_snoc l a x).1 hn
   rw [ofL_snoc]
   have hl : lookK a (ofL l) = none := by rw [lookK_ofL _ _ h1]; exact h2
   refine (insK_perm a x _ hl).trans ?_
   refine ((ih l (by simpa using hm) h1).cons (a, x)).trans ?_
   exact (List.perm_append_singleton (a, x) l).symm
 exact this m.length m rfl h
theorem ofL_perm {α : Type} {a b : List (Bs × α)} (h : a.Perm b) (hn : Nod a) : ofL a = ofL b := by
 have hnb : Nod b := by
  unfold Nod at *
  exact ((h.map _).nodup_iff).1 hn
 have hp : (ofL a).Perm (ofL b) := ((ofL_perm_self a hn).trans h).trans (ofL_perm_self b hnb).symm
 refine List.Perm.eq_of_pairwise ?_ (srt_ofL a) (srt_ofL b) hp
 intro x y _ _ h1 h2
 exact absurd (lt_tr h1 h2) (lt_irr _)
theorem joinF_perm {a b c d : List Ky} (h1 : a.Perm c) (h2 : b.Perm d) : joinF a b = joinF c d := by
 have hp : (a ++ b).Perm (c ++ d) := h1.append h2
 have hn : ((a ++ b).map (·.id)).Nodup ↔ ((c ++ d).map (·.id)).Nodup := (hp.map _).nodup_iff
 unfold joinF
 by_cases h : ((a ++ b).map (·.id)).Nodup
 ·rw [if_pos h, if_pos (hn.1 h), ofL_perm (hp.map _) (by unfold Nod; rw [List.map_map]; exact h)]
 ·rw [if_neg h, if_neg (fun q => h (hn.2 q))]
theorem keysF_perm {old : Bool} {till : Int} {l m : List (Bs × J)} (h : l.Perm m) : (keysF old till l = none ∧ keysF old till m = none) ∨ ∃ a b, keysF old till l = some a ∧ keysF old till m = some b ∧ a.Perm b := by
 induction h with
 | nil => exact Or.inr ⟨[], [], rfl, rfl, List.Perm.refl _⟩
 | cons p h ih =>
  obtain ⟨k, j⟩ := p
  simp only [keysF]
  cases keyF old till k j with
  | none => exact Or.inl ⟨rfl, rfl⟩
  | some q =>
   rcases ih with ⟨h1, h2⟩ | ⟨a, b, h1, h2, h3⟩
   ·exact Or.inl ⟨by simp [h1], by simp [h2]⟩
   ·exact Or.inr ⟨q :: a, q :: b, by simp [h1], by simp [h2], h3.cons q⟩
 | swap p q l =>
  obtain ⟨k, j⟩ := p
  obtain ⟨k2, j2⟩ := q
  simp only [keysF]
  cases keyF old till k j with
  | none =>
   left
   refine ⟨?_, rfl⟩
   cases keyF old till k2 j2 <;> rfl
  | some x =>
   cases keyF old till k2 j2 with
   | none => exact Or.inl ⟨rfl, rfl⟩
   | some y =>
    cases keysF old till l with
    | none => exact Or.inl ⟨rfl, rfl⟩
    | some r => exact Or.inr ⟨y :: x :: r, x :: y :: r, rfl, rfl, List.Perm.swap _ _ _⟩
 | trans _ _ ih1 ih2 =>
  rcases ih1 with ⟨h1, h2⟩ | ⟨a, b, h1, h2, h3⟩
  ·rcases ih2 with ⟨h4, h5⟩ | ⟨c, d, h4, h5, h6⟩
   ·exact Or.inl ⟨h1, h5⟩
   ·rw [h2] at h4; cases h4
  ·rcases ih2 with ⟨h4, h5⟩ | ⟨c, d, h4, h5, h6⟩
   ·rw [h2] at h4; cases h4
   ·rw [h2] at h4
    cases h4
    exact Or.inr ⟨a, d, h1, h5, h3.trans h6⟩
end Go.Proofs.YtocligpfmfmihaaGreatDoor

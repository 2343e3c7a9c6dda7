import Derived.Test.YtocligpfmfmihabGreatDoorVal2G
namespace Go.Proofs.YtocligpfmfmihabGreatDoor
open Go Go.RowKit Go.Maps Go.WideMaps

theorem pMem_sk (u : Bool) (pv : Bs → Option (J × Bs)) (a : List (Bs × J)) (l : List UInt8) : pMem u pv a (sk l) = pMem u pv a l := by
  simp only [pMem, sk_sk]
theorem obj_one (W : World) (rb : Nat) (s : ByteArray) (d : Nat) (hv : ValC W d) (w0 : World) (mb ob bb : Nat) (hrb : rb < w0.heap.size) (h0 : w0.heap.size ≤ mb) (h1 : w0.heap.size ≤ ob) (h2 : w0.heap.size ≤ bb) (hne : mb ≠ ob ∧ mb ≠ bb ∧ ob ≠ bb) :
    One W rb s d w0 (pMem false (pVal false (6 - d))) (ObjI w0.heap.size rb mb ob bb) List.length 179 (.pointer (some ⟨bb, 0, none⟩)) (.pointer (some ⟨ob, 0, none⟩)) where
  keep x w1 w2 h hk := h.keep hrb h0 h1 h2 hk
  shr := pMem_shr (pVal_le _)
  skp x l := pMem_sk _ _ _ _
  ent w := by kernel_rfl
  inc x l y r h := by
    unfold pMem at h
    repeat' split at h
    all_goals first | (cases h; done) | skip
    simp only [Option.map_eq_some_iff, Prod.mk.injEq] at h
    obtain ⟨z, _, rfl, _⟩ := h
    simp
  call x w1 k1 hm hr hI hk := obj1_c W rb s d hv w0 mb ob bb hrb h0 h1 h2 hne x w1 k1 hm hr hI hk

set_option maxRecDepth 20000 in
theorem object_c (W : World) (rb : Nat) (s : ByteArray) (d : Nat) (hd : d < 6) (hv : ValC W (d + 1)) (k : Nat) (w : World) (hr : St W w rb s k d) (t : List UInt8) (hl : sk (rest s k) = 123 :: t) :
    Calls Tryz.prog 160 #[.pointer (some ⟨rb, 0, none⟩)] w fun e w' =>
      Res W rb s d w (pSev (pMem false (pVal false (6 - (d + 1)))) 125 [] t) (fun w' l v => Rep w' (fun b => w.heap.size ≤ b ∧ b < w'.heap.size) (.obj (ofL l)) (.iface 76 v)) e w' := by
  have hrb : rb < w.heap.size := hr.rdr.facts.2.2.2.2.2
  have HL := hide hl
  have hmm := @run_makeMap Tryz.prog
  clear hl
  go_enter Tryz.func160, Tryz.ntmps160
  go_wp2_with fail
  clear hmm
  have K1 : Kp (· = rb) w (((w.alloc (.cells #[.pointer (some ⟨rb, 0, none⟩)] 258)).alloc (.map #[] 0)).alloc (.cells #[.map (some (w.heap.size + 1))] 76)) := (((Kp.refl _ _).alloc _).alloc _).alloc _
  have S1 := hr.keep (S := fun _ => False) ((((Kp.refl _ _).alloc (.cells #[.pointer (some ⟨rb, 0, none⟩)] 258)).alloc (.map #[] 0)).alloc (.cells #[.map (some (w.heap.size + 1))] 76)) (by simp) (by simp)
  have I1 : ObjI w.heap.size rb (w.heap.size + 1) (w.heap.size + 1 + 1) w.heap.size [] (((w.alloc (.cells #[.pointer (some ⟨rb, 0, none⟩)] 258)).alloc (.map #[] 0)).alloc (.cells #[.map (some (w.heap.size + 1))] 76)) := by
    refine ⟨[], fun _ => False, heap_new2 w _ _ _, heap_new0 w _ _ _, ?_, by simp only [ofL, List.foldl_nil]; rw [Repm], by simp, by simp [Nod], by simp⟩
    have h9 := World.ownsMap_made (w.alloc (.cells #[.pointer (some ⟨rb, 0, none⟩)] 258)) Tryz.prog 9 Rv
    refine ownsMap_heap (w := (w.alloc (.cells #[.pointer (some ⟨rb, 0, none⟩)] 258)).alloc (.map #[] 0)) ?_ (Below.heap_alloc _ _ _ (by simp))
    simpa [dm] using h9
  refine (several_c W rb s k d w _ _ _ _ _ _ _ (obj_one W rb s (d + 1) hv w (w.heap.size + 1) (w.heap.size + 1 + 1) w.heap.size hrb (by omega) (by omega) (Nat.le_refl _) ⟨by omega, by omega, by omega⟩) S1 [] rfl I1 K1 hd 123 125 123 125 rfl rfl (by decide) (by decide) t HL.out).mono ?_
  rintro e w2 ⟨g1, g2⟩
  clear I1 K1 S1
  cases hp : pSev (pMem false (pVal false (6 - (d + 1)))) 125 [] t with
  | none =>
    rw [hp] at g2
    obtain ⟨fb', k9, g, cb', rfl, q⟩ := g2
    exact ⟨rfl, res_none hp ⟨g1, fb', k9, g, cb', rfl, q⟩⟩
  | some z =>
    obtain ⟨l, r⟩ := z
    rw [hp] at g2
    obtain ⟨rfl, ⟨m, G, i1, i2, i3, i4, i5, i6, i7⟩, k2, S2, hr2⟩ := g2
    have hrep : Rep w2 (fun b => w.heap.size ≤ b ∧ b < w2.heap.size) (.obj (ofL l)) (.iface 76 (.map (some (w.heap.size + 1)))) := by
      rw [Rep]
      exact ⟨w.heap.size + 1, m, rfl, ⟨by omega, i3.lt⟩, i3, Repm.mono (fun k hk => ⟨(i5 k hk).1, (i5 k hk).2.1⟩) _ i4⟩
    obtain ⟨ca, fa⟩ := one_cells i1
    have Z := hide (And.intro hrep (And.intro hr2 hp))
    clear i1 i2 i3 i4 i5 i6 hrep hr2 hp fa
    go_wp2
    go_ret
    exact res_some Z.out.2.2 g1 Z.out.1 S2 Z.out.2.1

theorem deep_c (f : FuncId) (W : World) (rb : Nat) (s : ByteArray) (k : Nat) (w : World) (hr : St W w rb s k 6) (t : List UInt8) (q : UInt8) (hl : sk (rest s k) = q :: t) (hf : (f = 160 ∧ q = 123) ∨ (f = 161 ∧ q = 91)) :
    Calls Tryz.prog f #[.pointer (some ⟨rb, 0, none⟩)] w fun e w' => Kp (· = rb) w w' ∧ Thrown W w w' e := by
  rcases hf with ⟨rfl, rfl⟩ | ⟨rfl, rfl⟩
  · have HL := hide hl
    have hmm := @run_makeMap Tryz.prog
    clear hl
    go_enter Tryz.func160, Tryz.ntmps160
    go_wp2_with fail
    clear hmm
    have S1 := hr.keep (S := fun _ => False) ((((Kp.refl _ _).alloc (.cells #[.pointer (some ⟨rb, 0, none⟩)] 258)).alloc (.map #[] 0)).alloc (.cells #[.map (some (w.heap.size + 1))] 76)) (by simp) (by simp)
    have K1 : Kp (· = rb) w (((w.alloc (.cells #[.pointer (some ⟨rb, 0, none⟩)] 258)).alloc (.map #[] 0)).alloc (.cells #[.map (some (w.heap.size + 1))] 76)) := (((Kp.refl _ _).alloc _).alloc _).alloc _
    refine (several_deep W rb s k _ S1 _ 123 125 123 rfl t HL.out).mono ?_
    rintro e w2 ⟨g1, fb', k9, g, cb', rfl, q⟩
    exact ⟨rfl, K1.trans g1, fb', k9, g, cb', rfl, Nat.le_trans K1.size q.1, q.2⟩
  · have HL := hide hl
    clear hl
    go_enter Tryz.func161, Tryz.ntmps161
    go_wp2_with fail
    have S1 := hr.keep (S := fun _ => False) ((((Kp.refl _ _).alloc (.cells #[.pointer (some ⟨rb, 0, none⟩)] 258)).alloc (.cells #[] 137)).alloc (.cells #[.slice (some ⟨w.heap.size + 1, 0, none⟩) 0 0] 201)) (by simp) (by simp)
    have K1 : Kp (· = rb) w (((w.alloc (.cells #[.pointer (some ⟨rb, 0, none⟩)] 258)).alloc (.cells #[] 137)).alloc (.cells #[.slice (some ⟨w.heap.size + 1, 0, none⟩) 0 0] 201)) := (((Kp.refl _ _).alloc _).alloc _).alloc _
    refine (several_deep W rb s k _ S1 _ 91 93 91 rfl t HL.out).mono ?_
    rintro e w2 ⟨g1, fb', k9, g, cb', rfl, q⟩
    exact ⟨rfl, K1.trans g1, fb', k9, g, cb', rfl, Nat.le_trans K1.size q.1, q.2⟩
end Go.Proofs.YtocligpfmfmihabGreatDoor
namespace Go.Proofs.YtocligpfmfmihabGreatDoor
open Go Go.RowKit Go.Maps Go.WideMaps

theorem pVal_obj {n : Nat} {l t : List UInt8} (h : sk l = 123 :: t) : pVal false (n + 1) l = (pSev (pMem false (pVal false n)) 125 [] t).map fun x => (.obj (ofL x.1), x.2) := by
  rw [pVal, h]; rfl
theorem pVal_arr {n : Nat} {l t : List UInt8} (h : sk l = 91 :: t) : pVal false (n + 1) l = (pSev (pEl (pVal false n)) 93 [] t).map fun x => (.arr x.1, x.2) := by
  rw [pVal, h]; rfl
theorem pVal_deep {l t : List UInt8} {c : UInt8} (h : sk l = c :: t) (hc : c = 123 ∨ c = 91) : pVal false 0 l = none := by
  rw [pVal, h]; simp [hc]
theorem pVal_sc2 {n : Nat} {l t : List UInt8} {c : UInt8} (h : sk l = c :: t) (h1 : c ≠ 123) (h2 : c ≠ 91) : pVal false n l = pSca false c t := by
  cases n <;> rw [pVal, h] <;> simp [h1, h2]
theorem pVal_nil {n : Nat} {l : List UInt8} (h : sk l = []) : pVal false n l = none := by
  cases n <;> rw [pVal, h]
theorem rep_word {w : World} {F : Nat → Prop} {x : J} {v : Value} (h : wordV x v) : Rep w F x v := by
  rcases h with ⟨rfl, rfl⟩ | ⟨b, rfl, rfl⟩ <;> rw [Rep]

theorem rep_str {w : World} {F : Nat → Prop} {o : Bs} : Rep w F (.str o) (.iface 167 (.string ⟨o.toArray⟩)) := by rw [Rep]
theorem rep_num {w : World} {F : Nat → Prop} {n : Int} : Rep w F (.num n) (.iface 197 (.int .i64 n)) := by rw [Rep]
set_option maxRecDepth 20000 in
theorem value_step (W : World) (d : Nat) (hd : d ≤ 6) (hv : d < 6 → ValC W (d + 1)) : ValC W d := by
  intro rb s k w hr
  generalize hl : rest s k = l
  have HL := hide hl
  clear hl
  have HV := hide hv
  clear hv
  cases hsk : sk l with
  | nil =>
    have HS := hide hsk
    clear hsk
    go_enter Tryz.func130, Tryz.ntmps130
    go_wp2_with fail
    refine (blanks_c W rb s k d _ hr).mono ?_
    rintro e w1 ⟨rfl, a1, k1, S1, a3⟩
    have A3 : Hid (rest s k1 = []) := by rw [HL.out, HS.out] at a3; exact a3
    clear a3
    go_wp2_with fail
    refine (next_o W rb s k1 d _ S1 0 (by rw [A3.out]; rfl)).mono ?_
    rintro e w2 ⟨rfl, S2, b2⟩
    have K2 := a1.trans b2
    clear S1
    have z0 : ((0 : UInt8).toNat : Int) = 0 := rfl
    rw [z0]
    go_wp2_with fail
    refine (isDigit_c _ 0).mono ?_
    rintro e w3 ⟨rfl, rfl⟩
    have z1 : isDg 0 = false := rfl
    rw [z1]
    go_wp2_with fail
    refine (word_c W rb s k1 d _ S2).mono ?_
    rintro e w3 ⟨c1, c2⟩
    have z2 : pWord (rest s k1) = none := by rw [A3.out]; rfl
    rw [z2] at c2
    obtain ⟨fb', k9, g, cb', rfl, q⟩ := c2
    exact ⟨rfl, res_none (pVal_nil HS.out) ⟨K2.trans c1, fb', k9, g, cb', rfl, Nat.le_trans K2.size q.1, q.2⟩⟩
  | cons c t =>
    have HS := hide hsk
    clear hsk
    go_enter Tryz.func130, Tryz.ntmps130
    go_wp2_with fail
    refine (blanks_c W rb s k d _ hr).mono ?_
    rintro e w1 ⟨rfl, a1, k1, S1, a3⟩
    have A3 : Hid (rest s k1 = c :: t) := by rw [HL.out, HS.out] at a3; exact a3
    clear a3
    have hskk : sk (c :: t) = c :: t := by rw [← HS.out, sk_sk]
    have HK := hide hskk
    clear hskk
    have hc256 : c.toNat < 256 := c.toNat_lt
    go_wp2_with fail
    refine (next_o W rb s k1 d _ S1 c (nxt_cons A3.out).2.1).mono ?_
    rintro e w2 ⟨rfl, S2, b2⟩
    have K2 := a1.trans b2
    clear S1
    by_cases h123 : c = 123
    · subst h123
      by_cases hd6 : d < 6
      · go_wp2_with fail
        refine (object_c W rb s d hd6 (HV.out hd6) k1 _ S2 t (by rw [A3.out]; exact HK.out)).mono ?_
        rintro e w3 ⟨c1, c2⟩
        have e0 : pVal false (6 - d) l = (pSev (pMem false (pVal false (6 - (d + 1)))) 125 [] t).map fun x => (.obj (ofL x.1), x.2) := by
          rw [show 6 - d = (6 - (d + 1)) + 1 by omega]; exact pVal_obj HS.out
        cases hp : pSev (pMem false (pVal false (6 - (d + 1)))) 125 [] t with
        | none =>
          rw [hp] at c2 e0
          obtain ⟨fb', k9, g, cb', rfl, q⟩ := c2
          exact ⟨rfl, res_none e0 ⟨K2.trans c1, fb', k9, g, cb', rfl, Nat.le_trans K2.size q.1, q.2⟩⟩
        | some z =>
          obtain ⟨y, r⟩ := z
          rw [hp] at c2 e0
          obtain ⟨v, k3, rfl, r1, r2, r3⟩ := c2
          have Z := hide (And.intro e0 (And.intro r1 r3))
          clear e0 hp r1 r3
          go_wp2
          go_ret
          exact res_some Z.out.1 (K2.trans c1) (Rep.mono (fun k hk => ⟨Nat.le_trans K2.size hk.1, hk.2⟩) _ Z.out.2.1) r2 Z.out.2.2
      · obtain rfl : d = 6 := by omega
        go_wp2_with fail
        refine (deep_c 160 W rb s k1 _ S2 t 123 (by rw [A3.out]; exact HK.out) (Or.inl ⟨rfl, rfl⟩)).mono ?_
        rintro e w3 ⟨c1, fb', k9, g, cb', rfl, q⟩
        exact ⟨rfl, res_none (pVal_deep HS.out (Or.inl rfl)) ⟨K2.trans c1, fb', k9, g, cb', rfl, Nat.le_trans K2.size q.1, q.2⟩⟩
    have n123 : ((c.toNat : Int) == 123) = false := u8n h123
    have N123 := hide h123
    clear h123
    by_cases h91 : c = 91
    · subst h91
      by_cases hd6 : d < 6
      · go_wp2_with fail
        refine (array_c W rb s d hd6 (HV.out hd6) k1 _ S2 t (by rw [A3.out]; exact HK.out)).mono ?_
        rintro e w3 ⟨c1, c2⟩
        have e0 : pVal false (6 - d) l = (pSev (pEl (pVal false (6 - (d + 1)))) 93 [] t).map fun x => (.arr x.1, x.2) := by
          rw [show 6 - d = (6 - (d + 1)) + 1 by omega]; exact pVal_arr HS.out
        cases hp : pSev (pEl (pVal false (6 - (d + 1)))) 93 [] t with
        | none =>
          rw [hp] at c2 e0
          obtain ⟨fb', k9, g, cb', rfl, q⟩ := c2
          exact ⟨rfl, res_none e0 ⟨K2.trans c1, fb', k9, g, cb', rfl, Nat.le_trans K2.size q.1, q.2⟩⟩
        | some z =>
          obtain ⟨y, r⟩ := z
          rw [hp] at c2 e0
          obtain ⟨v, k3, rfl, r1, r2, r3⟩ := c2
          have Z := hide (And.intro e0 (And.intro r1 r3))
          clear e0 hp r1 r3
          go_wp2
          go_ret
          exact res_some Z.out.1 (K2.trans c1) (Rep.mono (fun k hk => ⟨Nat.le_trans K2.size hk.1, hk.2⟩) _ Z.out.2.1) r2 Z.out.2.2
      · obtain rfl : d = 6 := by omega
        go_wp2_with fail
        refine (deep_c 161 W rb s k1 _ S2 t 91 (by rw [A3.out]; exact HK.out) (Or.inr ⟨rfl, rfl⟩)).mono ?_
        rintro e w3 ⟨c1, fb', k9, g, cb', rfl, q⟩
        exact ⟨rfl, res_none (pVal_deep HS.out (Or.inr rfl)) ⟨K2.trans c1, fb', k9, g, cb', rfl, Nat.le_trans K2.size q.1, q.2⟩⟩
    have n91 : ((c.toNat : Int) == 91) = false := u8n h91
    have e1 : pVal false (6 - d) l = pSca false c t := pVal_sc2 HS.out N123.out h91
    have E1 := hide e1
    clear h91 e1
    by_cases h34 : c = 34
    · subst h34
      go_wp2_with fail
      refine (quoted_c W rb s k1 d _ S2 t A3.out).mono ?_
      rintro e w3 ⟨c1, c2⟩
      cases hp : pStr false t with
      | none =>
        rw [hp] at c2
        obtain ⟨fb', k9, g, cb', rfl, q⟩ := c2
        exact ⟨rfl, res_none (by rw [E1.out]; simp [pSca, hp]) ⟨K2.trans c1, fb', k9, g, cb', rfl, Nat.le_trans K2.size q.1, q.2⟩⟩
      | some z =>
        obtain ⟨y, r⟩ := z
        rw [hp] at c2
        obtain ⟨v, k3, rfl, ⟨rfl, _⟩, r2, r3⟩ := c2
        have Z := hide (And.intro hp r3)
        clear hp r3
        go_wp2
        go_ret
        exact res_some (x := .str y) (r := r) (by rw [E1.out]; simp [pSca, Z.out.1]) (K2.trans c1) rep_str r2 Z.out.2
    have n34 : ((c.toNat : Int) == 34) = false := u8n h34
    have N34 := hide h34
    clear h34
    cases hdg : isDg c with
    | true =>
      have n45 : ((c.toNat : Int) == 45) = false := by
        have hne : c ≠ 45 := by rintro rfl; exact absurd hdg (by decide)
        exact u8n hne
      have HN : Hid (c = 45 ∨ isDg c = true) := Or.inr hdg
      have DG := hide hdg
      clear hdg
      go_wp2_with fail
      refine (isDigit_c _ c).mono ?_
      rintro e w3 ⟨rfl, rfl⟩
      rw [DG.out]
      go_wp2_with fail
      refine (number_c W rb s k1 d _ S2 c t A3.out HN.out).mono ?_
      rintro e w3 ⟨c1, c2⟩
      have e2 : pSca false c t = (pNum (c :: t)).map fun x => (.num x.1, x.2) := by
        rw [pSca, if_neg N34.out, if_pos HN.out]
      cases hp : pNum (c :: t) with
      | none =>
        rw [hp] at c2 e2
        obtain ⟨fb', k9, g, cb', rfl, q⟩ := c2
        exact ⟨rfl, res_none (E1.out.trans e2) ⟨K2.trans c1, fb', k9, g, cb', rfl, Nat.le_trans K2.size q.1, q.2⟩⟩
      | some z =>
        obtain ⟨y, r⟩ := z
        rw [hp] at c2 e2
        obtain ⟨v, k3, rfl, rfl, r2, r3⟩ := c2
        have Z := hide (And.intro (E1.out.trans e2) r3)
        clear hp r3 e2
        go_wp2
        go_ret
        exact res_some Z.out.1 (K2.trans c1) rep_num r2 Z.out.2
    | false =>
      have DG := hide hdg
      clear hdg
      by_cases h45 : c = 45
      · have n45 : ((c.toNat : Int) == 45) = true := by subst h45; rfl
        have HN : Hid (c = 45 ∨ isDg c = true) := Or.inl h45
        clear h45
        go_wp2_with fail
        refine (number_c W rb s k1 d _ S2 c t A3.out HN.out).mono ?_
        rintro e w3 ⟨c1, c2⟩
        have e2 : pSca false c t = (pNum (c :: t)).map fun x => (.num x.1, x.2) := by
          rw [pSca, if_neg N34.out, if_pos HN.out]
        cases hp : pNum (c :: t) with
        | none =>
          rw [hp] at c2 e2
          obtain ⟨fb', k9, g, cb', rfl, q⟩ := c2
          exact ⟨rfl, res_none (E1.out.trans e2) ⟨K2.trans c1, fb', k9, g, cb', rfl, Nat.le_trans K2.size q.1, q.2⟩⟩
        | some z =>
          obtain ⟨y, r⟩ := z
          rw [hp] at c2 e2
          obtain ⟨v, k3, rfl, rfl, r2, r3⟩ := c2
          have Z := hide (And.intro (E1.out.trans e2) r3)
          clear hp r3 e2
          go_wp2
          go_ret
          exact res_some Z.out.1 (K2.trans c1) rep_num r2 Z.out.2
      have n45 : ((c.toNat : Int) == 45) = false := u8n h45
      have N45 := hide h45
      clear h45
      go_wp2_with fail
      refine (isDigit_c _ c).mono ?_
      rintro e w3 ⟨rfl, rfl⟩
      rw [DG.out]
      go_wp2_with fail
      refine (word_c W rb s k1 d _ S2).mono ?_
      rintro e w3 ⟨c1, c2⟩
      have e2 : pSca false c t = pWord (rest s k1) := by
        rw [pSca, if_neg N34.out, if_neg (by rw [DG.out]; simpa using N45.out), A3.out]
      cases hp : pWord (rest s k1) with
      | none =>
        rw [hp] at c2 e2
        obtain ⟨fb', k9, g, cb', rfl, q⟩ := c2
        exact ⟨rfl, res_none (E1.out.trans e2) ⟨K2.trans c1, fb', k9, g, cb', rfl, Nat.le_trans K2.size q.1, q.2⟩⟩
      | some z =>
        obtain ⟨y, r⟩ := z
        rw [hp] at c2 e2
        obtain ⟨v, k3, rfl, r1, r2, r3⟩ := c2
        have Z := hide (And.intro (E1.out.trans e2) (And.intro r1 r3))
        clear hp r1 r3 e2
        go_wp2
        go_ret
        exact res_some Z.out.1 (K2.trans c1) (rep_word Z.out.2.1) r2 Z.out.2.2
theorem value_c (W : World) : ∀ n d, d + n = 6 → ValC W d := by
  intro n
  induction n with
  | zero => intro d h; exact value_step W d (by omega) (fun h' => by omega)
  | succ n ih => intro d h; exact value_step W d (by omega) (fun _ => ih (d + 1) (by omega))
end Go.Proofs.YtocligpfmfmihabGreatDoor

import Derived.Test.YtocligpfmfmihabGreatDoorVal
import Derived.StringKeys
namespace Go.Proofs.YtocligpfmfmihabGreatDoor
open Go Go.RowKit Go.Maps

theorem pVal_sk (u : Bool) (d : Nat) (l : List UInt8) : pVal u d (sk l) = pVal u d l := by
  cases d <;> simp only [pVal, sk_sk]
theorem ArrI.keep {lo rb ab bb : Nat} {x : List J} {w1 w2 : World} (hrb : rb < lo) (h0 : lo ≤ ab) (h0' : lo ≤ bb) (h : ArrI lo rb ab bb x w1) (hk : Kp (· = rb) w1 w2) : ArrI lo rb ab bb x w2 := by
  obtain ⟨sv, vs, G, i1, i2, i3, i4, i5, i6⟩ := h
  have hs := hk.size
  refine ⟨sv, vs, G, (hk.block ab (lt_heap i1) (by omega)).trans i1, (hk.block bb (lt_heap i2) (by omega)).trans i2, ownsRow_kp i3 hk (fun k e => by have := (i3.lt k e).1; omega), Reps.frame ?_ x i4, ?_, i6⟩
  · intro k hG
    obtain ⟨q1, q2, q3, q4⟩ := i5 k hG
    exact hk.block k q2 (by omega)
  · intro k hG
    obtain ⟨q1, q2, q3, q4⟩ := i5 k hG
    exact ⟨q1, by omega, q3, q4⟩
theorem arr_one (W : World) (rb : Nat) (s : ByteArray) (d : Nat) (hv : ValC W d) (w0 : World) (ab bb : Nat) (hab : ab ≠ bb) (hrb : rb < w0.heap.size) (h0 : w0.heap.size ≤ ab) (h0' : w0.heap.size ≤ bb) :
    One W rb s d w0 (pEl (pVal false (6 - d))) (ArrI w0.heap.size rb ab bb) List.length 181 (.pointer (some ⟨ab, 0, none⟩)) (.pointer (some ⟨bb, 0, none⟩)) where
  keep x w1 w2 h hk := h.keep hrb h0 h0' hk
  shr := pEl_shr (pVal_le _)
  skp x l := by simp only [pEl, pVal_sk]
  ent w := by kernel_rfl
  inc x l y r h := by
    unfold pEl at h
    simp only [Option.map_eq_some_iff, Prod.mk.injEq] at h
    obtain ⟨z, _, rfl, _⟩ := h
    simp
  call x w1 k1 hm hr hI hk := by
    cases hp : pVal false (6 - d) (rest s k1) with
    | none =>
      refine (array1_none W rb s d hv w0 ab bb x w1 k1 hr hI hk hp).mono ?_
      intro e w2 h
      exact ser_none (by simp [pEl, hp]) h
    | some z =>
      obtain ⟨j, r⟩ := z
      have e0 : pEl (pVal false (6 - d)) x (rest s k1) = some (x ++ [j], r) := by simp [pEl, hp]
      rw [e0]
      exact array1_some W rb s d hv w0 ab bb hab hrb h0 h0' x w1 k1 hr hI hk j r hp hm

theorem heap_new0 (w : World) (a b c : Obj) : (((w.alloc a).alloc b).alloc c).heap[w.heap.size]? = some a := by
  rw [Below.heap_alloc _ _ _ (by simp; omega), Below.heap_alloc _ _ _ (by simp)]
  exact heap_alloc_new w a
theorem heap_new1 (w : World) (a b c : Obj) : (((w.alloc a).alloc b).alloc c).heap[w.heap.size + 1]? = some b := by
  rw [Below.heap_alloc _ _ _ (by simp)]
  have := heap_alloc_new (w.alloc a) b
  simpa using this
theorem heap_new2 (w : World) (a b c : Obj) : (((w.alloc a).alloc b).alloc c).heap[w.heap.size + 1 + 1]? = some c := by
  have := heap_alloc_new ((w.alloc a).alloc b) c
  simpa using this
set_option maxRecDepth 20000 in
theorem array_c (W : World) (rb : Nat) (s : ByteArray) (d : Nat) (hd : d < 6) (hv : ValC W (d + 1)) (k : Nat) (w : World) (hr : St W w rb s k d) (t : List UInt8) (hl : sk (rest s k) = 91 :: t) :
    Calls Tryz.prog 161 #[.pointer (some ⟨rb, 0, none⟩)] w fun e w' =>
      Res W rb s d w (pSev (pEl (pVal false (6 - (d + 1)))) 93 [] t) (fun w' l v => Rep w' (fun b => w.heap.size ≤ b ∧ b < w'.heap.size) (.arr l) (.iface 201 v)) e w' := by
  have hrb : rb < w.heap.size := hr.rdr.facts.2.2.2.2.2
  have HL := hide hl
  clear hl
  go_enter Tryz.func161, Tryz.ntmps161
  go_wp2_with fail
  have K1 : Kp (· = rb) w (((w.alloc (.cells #[.pointer (some ⟨rb, 0, none⟩)] 258)).alloc (.cells #[] 137)).alloc (.cells #[.slice (some ⟨w.heap.size + 1, 0, none⟩) 0 0] 201)) := (((Kp.refl _ _).alloc _).alloc _).alloc _
  have S1 := hr.keep (S := fun _ => False) ((((Kp.refl _ _).alloc (.cells #[.pointer (some ⟨rb, 0, none⟩)] 258)).alloc (.cells #[] 137)).alloc (.cells #[.slice (some ⟨w.heap.size + 1, 0, none⟩) 0 0] 201)) (by simp) (by simp)
  have I1 : ArrI w.heap.size rb (w.heap.size + 1 + 1) w.heap.size [] (((w.alloc (.cells #[.pointer (some ⟨rb, 0, none⟩)] 258)).alloc (.cells #[] 137)).alloc (.cells #[.slice (some ⟨w.heap.size + 1, 0, none⟩) 0 0] 201)) := by
    refine ⟨_, [], fun _ => False, heap_new2 w _ _ _, heap_new0 w _ _ _, ⟨rfl, Or.inr ⟨w.heap.size + 1, 0, #[], rfl, by omega, heap_new1 w _ _ _, Nat.le_refl _, by unfold maxLen; omega, rfl, rfl⟩⟩, by rw [Reps], by simp, ?_⟩
    intro k hk
    simp only [Value.ownBlock, Option.some.injEq] at hk
    exact ⟨by simp, by omega, by omega⟩
  refine (several_c W rb s k d w _ _ _ _ _ _ _ (arr_one W rb s (d + 1) hv w (w.heap.size + 1 + 1) w.heap.size (by omega) hrb (by omega) (Nat.le_refl _)) S1 [] rfl I1 K1 hd 91 93 91 93 rfl rfl (by decide) (by decide) t HL.out).mono ?_
  rintro e w2 ⟨g1, g2⟩
  clear I1 K1 S1
  cases hp : pSev (pEl (pVal false (6 - (d + 1)))) 93 [] t with
  | none =>
    rw [hp] at g2
    obtain ⟨fb', k9, g, cb', rfl, q⟩ := g2
    exact ⟨rfl, res_none hp ⟨g1, fb', k9, g, cb', rfl, q⟩⟩
  | some z =>
    obtain ⟨l, r⟩ := z
    rw [hp] at g2
    obtain ⟨rfl, ⟨sv, vs, G, i1, i2, i3, i4, i5, i6⟩, k2, S2, hr2⟩ := g2
    have hrep : Rep w2 (fun b => w.heap.size ≤ b ∧ b < w2.heap.size) (.arr l) (.iface 201 sv) := by
      rw [Rep]
      refine ⟨sv, vs, rfl, ⟨i3.1, ?_⟩, fun b hb => i3.lt b hb, Reps.mono (fun k hk => ⟨(i5 k hk).1, (i5 k hk).2.1⟩) l i4⟩
      rcases i3.2 with h | ⟨g, cap, cur, h1, _, h3⟩
      · exact Or.inl h
      · exact Or.inr ⟨g, cap, cur, h1, Nat.zero_le _, h3⟩
    obtain ⟨ca, fa⟩ := one_cells i1
    have Z := hide (And.intro hrep (And.intro hr2 hp))
    clear i1 i2 i3 i4 i5 i6 hrep hr2 hp fa
    go_wp2
    go_ret
    exact res_some Z.out.2.2 g1 Z.out.1 S2 Z.out.2.1
end Go.Proofs.YtocligpfmfmihabGreatDoor
namespace Go.Proofs.YtocligpfmfmihabGreatDoor
open Go Go.RowKit Go.Maps Go.WideMaps

/-- The object that is being read, in the map at block mb, in the variable at block ob; the reader's variable at bb. -/
def ObjI (lo rb mb ob bb : Nat) (a : List (Bs × J)) (w : World) : Prop :=
  ∃ m G, w.heap[ob]? = some (.cells #[.map (some mb)] 76) ∧ w.heap[bb]? = some (.cells #[.pointer (some ⟨rb, 0, none⟩)] 258) ∧
    w.ownsMap Tryz.prog 9 Rv mb m.length (dm m) ∧ Repm w G (ofL a) m ∧ (∀ k, G k → lo ≤ k ∧ k < w.heap.size ∧ k ≠ ob ∧ k ≠ bb ∧ k ≠ mb) ∧ Nod a ∧ m.length ≤ a.length
theorem zeroV (w : World) : (zeroValue 137).run Tryz.prog w = .ok .nilIface w := by kernel_rfl
theorem key_mk {o : List UInt8} (h : o.length ≤ 2400) : keyOf Tryz.prog 9 (.string ⟨o.toArray⟩) = some (.string o) := by
  have := keyOf_string_mk (P := Tryz.prog) Tryz.underlying9 (s := ⟨o.toArray⟩) (by unfold maxLen; show o.toArray.size ≤ _; simp; omega)
  simpa using this

theorem ObjI.keep {lo rb mb ob bb : Nat} {a : List (Bs × J)} {w1 w2 : World} (hrb : rb < lo) (h0 : lo ≤ mb) (h1 : lo ≤ ob) (h2 : lo ≤ bb) (h : ObjI lo rb mb ob bb a w1) (hk : Kp (· = rb) w1 w2) : ObjI lo rb mb ob bb a w2 := by
  obtain ⟨m, G, i1, i2, i3, i4, i5, i6, i7⟩ := h
  have hs := hk.size
  refine ⟨m, G, (hk.block ob (lt_heap i1) (by omega)).trans i1, (hk.block bb (lt_heap i2) (by omega)).trans i2, ownsMap_heap i3 (hk.block mb i3.lt (by omega)), Repm.frame ?_ _ i4, ?_, i6, i7⟩
  · intro k hG
    obtain ⟨q1, q2, q3⟩ := i5 k hG
    exact hk.block k q2 (by omega)
  · intro k hG
    obtain ⟨q1, q2, q3⟩ := i5 k hG
    exact ⟨q1, by omega, q3⟩
/-- One member more in the object. -/
theorem obj_end {lo rb mb ob bb : Nat} {a : List (Bs × J)} {j : J} {key : Bs} {v : Value} {m : List (Bs × Value)} {G : Nat → Prop} {w1 w2 w3 : World} (hrb : rb < lo) (h0 : lo ≤ mb) (h1 : lo ≤ ob) (h2 : lo ≤ bb) (hne : mb ≠ ob ∧ mb ≠ bb ∧ ob ≠ bb)
    (i1 : w1.heap[ob]? = some (.cells #[.map (some mb)] 76)) (i2 : w1.heap[bb]? = some (.cells #[.pointer (some ⟨rb, 0, none⟩)] 258))
    (i3 : w1.ownsMap Tryz.prog 9 Rv mb m.length (dm m)) (i4 : Repm w1 G (ofL a) m) (i5 : ∀ k, G k → lo ≤ k ∧ k < w1.heap.size ∧ k ≠ ob ∧ k ≠ bb ∧ k ≠ mb) (i6 : Nod a) (i7 : m.length ≤ a.length)
    (hnew : lookK key a = none) (g1 : Kp (· = rb) w1 w2) (g3 : Rep w2 (fun b => w1.heap.size ≤ b ∧ b < w2.heap.size) j v) (B1 : w2.grownBy w3 (some mb))
    (y1 : w3.ownsMap Tryz.prog 9 Rv mb (m.length + 1) ((dm m).put (.string key) (.held v))) :
    ObjI lo rb mb ob bb (a ++ [(key, j)]) w3 := by
  have hs12 := g1.size
  have hs23 := B1.size
  have hmb := i3.lt
  have hsm : Srt m := srt_keys (Repm.keys _ _ i4) (srt_ofL a)
  rw [dm_put key v m hsm] at y1
  have old : ∀ k, G k → w3.heap[k]? = w1.heap[k]? := by
    intro k hk
    obtain ⟨q1, q2, q3, q4, q5⟩ := i5 k hk
    rw [B1.block k (by omega) (by intro e; injection e with e; omega), g1.block k q2 (by omega)]
  have new : ∀ k, w1.heap.size ≤ k ∧ k < w2.heap.size → w3.heap[k]? = w2.heap[k]? := by
    rintro k ⟨q1, q2⟩
    rw [B1.block k q2 (by intro e; injection e with e; omega)]
  have hlen : (insK key v m).length ≤ m.length + 1 := by
    have : ∀ l : List (Bs × Value), (insK key v l).length ≤ l.length + 1 := by
      intro l
      induction l with
      | nil => simp [insK]
      | cons p l ih =>
        obtain ⟨b, x⟩ := p
        unfold insK
        split
        · simp
        · split
          · simp
          · simpa using ih
    exact this m
  refine ⟨insK key v m, fun k => G k ∨ (w1.heap.size ≤ k ∧ k < w2.heap.size), ?_, ?_, ownsMap_tight y1, ?_, ?_, (nod_snoc a key j).2 ⟨i6, hnew⟩, ?_⟩
  · have h := lt_heap i1
    rw [B1.block ob (by omega) (by intro e; injection e with e; omega), g1.block ob h (by omega)]; exact i1
  · have h := lt_heap i2
    rw [B1.block bb (by omega) (by intro e; injection e with e; omega), g1.block bb h (by omega)]; exact i2
  · rw [ofL_snoc]
    exact Repm.ins (Rep.mono (fun k hk => Or.inr hk) j (Rep.frame new j g3)) _ _ (Repm.mono (fun k hk => Or.inl hk) _ (Repm.frame old _ i4))
  · have h := lt_heap i1
    have h' := lt_heap i2
    rintro k (hk | ⟨hk1, hk2⟩)
    · obtain ⟨q1, q2, q3⟩ := i5 k hk
      exact ⟨q1, by omega, q3⟩
    · exact ⟨by omega, by omega, by omega, by omega, by omega⟩
  · rw [List.length_append]; simp; omega

set_option maxRecDepth 20000 in
theorem obj1_c (W : World) (rb : Nat) (s : ByteArray) (d : Nat) (hv : ValC W d) (w0 : World) (mb ob bb : Nat) (hrb : rb < w0.heap.size) (h0 : w0.heap.size ≤ mb) (h1 : w0.heap.size ≤ ob) (h2 : w0.heap.size ≤ bb) (hne : mb ≠ ob ∧ mb ≠ bb ∧ ob ≠ bb)
    (a : List (Bs × J)) (w1 : World) (k1 : Nat) (ha : a.length ≤ 700) (hr : St W w1 rb s k1 d) (hI : ObjI w0.heap.size rb mb ob bb a w1) (hk : Kp (· = rb) w0 w1) :
    Calls Tryz.prog 179 #[.pointer (some ⟨bb, 0, none⟩), .pointer (some ⟨ob, 0, none⟩)] w1 fun e w2 => Ser W rb s d w0 (pMem false (pVal false (6 - d)) a (rest s k1)) (ObjI w0.heap.size rb mb ob bb) e w2 := by
  obtain ⟨m, G, i1, i2, i3, i4, i5, i6, i7⟩ := hI
  generalize hl : rest s k1 = l
  have HL := hide hl
  clear hl
  obtain ⟨cb, fb⟩ := one_cells i2
  clear fb
  go_enter Tryz.func179, Tryz.ntmps179
  go_wp2_with fail
  refine (blanks_c W rb s k1 d _ hr).mono ?_
  rintro e w2 ⟨rfl, a1, k2, S2, a3⟩
  rw [HL.out] at a3
  have A3 := hide a3
  clear a3
  have K2 := hk.trans a1
  have I2 : ObjI w0.heap.size rb mb ob bb a w2 := ObjI.keep hrb h0 h1 h2 ⟨m, G, i1, i2, i3, i4, i5, i6, i7⟩ a1
  clear i1 i2 i3 i4 i5 i6 i7 cb hr
  obtain ⟨m, G, i1, i2, i3, i4, i5, i6, i7⟩ := I2
  obtain ⟨cb, fb⟩ := one_cells i2
  clear fb
  by_cases hq : (sk l).head? = some 34
  · obtain ⟨t, ht⟩ : ∃ t, sk l = 34 :: t := by
      cases hst : sk l with
      | nil => rw [hst] at hq; cases hq
      | cons c q =>
        rw [hst] at hq
        simp only [List.head?_cons, Option.some.injEq] at hq
        exact ⟨q, by rw [hq]⟩
    have HT := hide ht
    clear hq ht
    go_wp2_with fail
    refine (quoted_c W rb s k2 d _ S2 t (A3.out.trans HT.out)).mono ?_
    rintro e w3 ⟨b1, b2⟩
    have K3 := K2.trans b1
    have I3 : ObjI w0.heap.size rb mb ob bb a w3 := ObjI.keep hrb h0 h1 h2 ⟨m, G, i1, i2, i3, i4, i5, i6, i7⟩ b1
    clear i1 i2 i3 i4 i5 i6 i7 cb
    cases hp : pStr false t with
    | none =>
      rw [hp] at b2
      obtain ⟨fb', k9, g, cb', rfl, q⟩ := b2
      refine ⟨rfl, ser_none ?_ ⟨K3, fb', k9, g, cb', rfl, Nat.le_trans K2.size q.1, q.2⟩⟩
      simp [pMem, HT.out, hp]
    | some z =>
      obtain ⟨key, r⟩ := z
      rw [hp] at b2
      obtain ⟨_, k3, rfl, ⟨rfl, hkl⟩, S3, b4⟩ := b2
      have HP := hide (And.intro hp b4)
      clear hp b4 m G
      obtain ⟨m, G, i1, i2, i3, i4, i5, i6, i7⟩ := I3
      have hlook : Maps.has (dm m) (.string key) = (lookK key a).isSome := by
        rw [dm_has, ← lookK_ofL key a i6]
        rcases Repm.look key _ _ i4 with ⟨e1, e2⟩ | ⟨v, x, e1, e2, _⟩ <;> rw [e1, e2] <;> rfl
      obtain ⟨lv, lps, hlk, hlr⟩ := i3.look_ok keyed Tryz.underlying76 (zeroV w3) (R := Rv) (zd := .held .nilIface) (zp := []) rfl (key_mk hkl)
      rw [hlook] at hlk
      clear hlr
      obtain ⟨cb, _⟩ := one_cells i2
      obtain ⟨co, _⟩ := one_cells i1
      have I3 := hide (And.intro i1 (And.intro i2 (And.intro i3 (And.intro i4 (And.intro i5 (And.intro i6 i7))))))
      clear i1 i2 i3 i4 i5 i6 i7 hlook
      cases hlq : lookK key a with
      | some x0 =>
        rw [hlq] at hlk
        have LQ := hide hlq
        clear hlq
        obtain ⟨cbe, hg, he⟩ := S3.err 18 (by decide) (by decide)
        go_wp2_with (go_at_call 132; refine (fault_c rb s k3 d _ S3.rdr _ _).mono ?_; rintro e w' ⟨rfl, rfl⟩)
        exact ⟨rfl, ser_none (by simp [pMem, HT.out, HP.out.1, LQ.out]) (thrown_new K3 he)⟩
      | none =>
        rw [hlq] at hlk
        have LQ := hide hlq
        clear hlq
        by_cases hc : (sk r).head? = some 58
        · obtain ⟨q, hq⟩ : ∃ q, sk r = 58 :: q := by
            cases hst : sk r with
            | nil => rw [hst] at hc; cases hc
            | cons c q =>
              rw [hst] at hc
              simp only [List.head?_cons, Option.some.injEq] at hc
              exact ⟨q, by rw [hc]⟩
          have HQ := hide hq
          clear hc hq
          have hpm : pMem false (pVal false (6 - d)) a l = (pVal false (6 - d) q).map fun x => (a ++ [(key, x.1)], x.2) := by
            simp [pMem, HT.out, HP.out.1, LQ.out, HQ.out]
          have PM := hide hpm
          clear hpm
          go_wp2_with fail
          refine (need_yes W rb s k3 d _ S3 58 58 rfl q (by rw [HP.out.2]; exact HQ.out)).mono ?_
          rintro e w4 ⟨rfl, d1, k4, S4, d3⟩
          have D3 := hide d3
          have K4 := K3.trans d1
          have I4 : ObjI w0.heap.size rb mb ob bb a w4 := ObjI.keep hrb h0 h1 h2 ⟨m, G, I3.out⟩ d1
          clear d3 hlk cb co I3 S3 m G
          obtain ⟨m, G, i1, i2, i3, i4, i5, i6, i7⟩ := I4
          obtain ⟨cb, _⟩ := one_cells i2
          obtain ⟨co, _⟩ := one_cells i1
          have I4 := hide (And.intro i1 (And.intro i2 (And.intro i3 (And.intro i4 (And.intro i5 (And.intro i6 i7))))))
          clear i1 i2 i3 i4 i5 i6 i7
          cases hvp : pVal false (6 - d) q with
          | none =>
            have VP : Hid (pVal false (6 - d) (rest s k4) = none) := by rw [D3.out]; exact hvp
            have PN : Hid (pMem false (pVal false (6 - d)) a l = none) := by rw [PM.out, hvp]; rfl
            clear hvp
            go_wp2_with fail
            refine wp_region_any (by kernel_rfl) ?_
            change wpAny _ _ _ _ _ _ _ (World.drew _)
            refine wpAny_take (i := 1) (v := .string ⟨key.toArray⟩) rfl (by kernel_rfl) (by kernel_rfl) (by kernel_rfl) (fun _ _ _ h => h) (Or.inl ⟨by rfl, ?_⟩) ?_
            · intro w
              go_simp
            refine wpAny_ready (rs := [0, 2]) (by kernel_rfl) (by simp) ?_
            refine AllReady.cons rfl (fun K hK => ?_) ?_
            · go_simp
              refine hK _ _ ?_
              clear hK K
              refine wpAny_ready (rs := [2]) (by kernel_rfl) (by simp) ?_
              refine AllReady.cons rfl (fun K hK => ?_) AllReady.nil
              go_simp
              refine hK _ _ ?_
              clear hK K
              refine wpAny_ready (rs := [3]) (by kernel_rfl) (by simp) ?_
              refine AllReady.cons rfl (fun K hK => ?_) AllReady.nil
              (refine step_call rfl 130 #[.pointer (some ⟨rb, 0, none⟩)] (by go_simp) ?_; refine (hv rb s k4 _ (S4.drewN 1)).mono ?_; rintro e w5 ⟨g0, g2⟩; have g1 : Kp (· = rb) w4 w5 := ((Kp.refl _ _).drewN 1).trans g0; rw [VP.out] at g2; obtain ⟨fb', k9, g, cb', rfl, q5⟩ := g2; exact ⟨rfl, ser_none PN.out ⟨K4.trans g1, fb', k9, g, cb', rfl, Nat.le_trans K4.size q5.1, q5.2⟩⟩)
            refine AllReady.cons rfl (fun K hK => ?_) AllReady.nil
            go_simp
            refine hK _ _ ?_
            clear hK K
            refine wpAny_ready (rs := [0, 3]) (by kernel_rfl) (by simp) ?_
            refine AllReady.cons rfl (fun K hK => ?_) ?_
            · go_simp
              refine hK _ _ ?_
              clear hK K
              refine wpAny_ready (rs := [3]) (by kernel_rfl) (by simp) ?_
              refine AllReady.cons rfl (fun K hK => ?_) AllReady.nil
              (refine step_call rfl 130 #[.pointer (some ⟨rb, 0, none⟩)] (by go_simp) ?_; refine (hv rb s k4 _ (S4.drewN 1)).mono ?_; rintro e w5 ⟨g0, g2⟩; have g1 : Kp (· = rb) w4 w5 := ((Kp.refl _ _).drewN 1).trans g0; rw [VP.out] at g2; obtain ⟨fb', k9, g, cb', rfl, q5⟩ := g2; exact ⟨rfl, ser_none PN.out ⟨K4.trans g1, fb', k9, g, cb', rfl, Nat.le_trans K4.size q5.1, q5.2⟩⟩)
            refine AllReady.cons rfl (fun K hK => ?_) AllReady.nil
            (refine step_call rfl 130 #[.pointer (some ⟨rb, 0, none⟩)] (by go_simp) ?_; refine (hv rb s k4 _ (S4.drewN 1)).mono ?_; rintro e w5 ⟨g0, g2⟩; have g1 : Kp (· = rb) w4 w5 := ((Kp.refl _ _).drewN 1).trans g0; rw [VP.out] at g2; obtain ⟨fb', k9, g, cb', rfl, q5⟩ := g2; exact ⟨rfl, ser_none PN.out ⟨K4.trans g1, fb', k9, g, cb', rfl, Nat.le_trans K4.size q5.1, q5.2⟩⟩)
          | some z =>
            obtain ⟨j, rr⟩ := z
            have VP : Hid (pVal false (6 - d) (rest s k4) = some (j, rr)) := by rw [D3.out]; exact hvp
            have PN : Hid (pMem false (pVal false (6 - d)) a l = some (a ++ [(key, j)], rr)) := by rw [PM.out, hvp]; rfl
            clear hvp
            go_wp2_with fail
            go_region_law (refine step_call rfl 130 #[.pointer (some ⟨rb, 0, none⟩)] (by go_simp) ?_; refine (hv rb s k4 _ (S4.drewN 1)).mono ?_; rintro e w5 ⟨g0, g2⟩; have g1 : Kp (· = rb) w4 w5 := ((Kp.refl _ _).drewN 1).trans g0; rw [VP.out] at g2; obtain ⟨vv, k5, rfl, g3, g4, g5⟩ := g2; obtain ⟨tt, u, rfl⟩ := Rep.iface g3; have ho5 : w5.heap[ob]? = some (.cells #[.map (some mb)] 76) := (g1.block ob (lt_heap I4.out.1) (by omega)).trans I4.out.1; obtain ⟨co5, _⟩ := one_cells ho5; have own5 := ownsMap_heap I4.out.2.2.1 (g1.block mb I4.out.2.2.1.lt (by omega)); obtain ⟨w6, hup, own6, turn6⟩ := own5.store keyed Tryz.underlying76 (by have := I4.out.2.2.2.2.2.2; unfold maxLen; omega) (key_mk hkl) (val := .iface tt u) (d := .held (.iface tt u)) (ps := []) rfl)
            all_goals
              have Z := hide (obj_end hrb h0 h1 h2 hne I4.out.1 I4.out.2.1 I4.out.2.2.1 I4.out.2.2.2.1 I4.out.2.2.2.2.1 I4.out.2.2.2.2.2.1 I4.out.2.2.2.2.2.2 LQ.out g1 g3 turn6.grown own6)
              have B6 : Kp (fun k => k = mb) w5 w6 := (Kp.refl _ _).grown turn6.grown (fun k hk _ => by injection hk with hk; exact hk.symm)
              have S6 : St W w6 rb s k5 d := g4.keep B6 (fun i hi => by have := S4.old.size; have := S4.ge; omega) (by omega)
              have K6 : Kp (· = rb) w0 w6 := (K4.trans g1).and B6 (fun i hi e => by omega)
              clear hup
              go_wp2
              go_end0
              exact ser_some PN.out K6 Z.out S6 g5
        · have HC := hide hc
          clear hc
          go_wp2_with fail
          refine (need_no W rb s k3 d _ S3 58 58 rfl (by decide) (by rw [HP.out.2]; exact HC.out)).mono ?_
          rintro e w4 ⟨d1, d2⟩
          obtain ⟨fb', k9, g, cb', rfl, q⟩ := d2
          refine ⟨rfl, ser_none ?_ ⟨K3.trans d1, fb', k9, g, cb', rfl, Nat.le_trans K3.size q.1, q.2⟩⟩
          unfold pMem
          rw [HT.out]
          simp only [if_true, HP.out.1, LQ.out, Option.isSome_none, Bool.false_eq_true, if_false]
          cases hst : sk r with
          | nil => rfl
          | cons c q =>
            have := HC.out
            rw [hst] at this
            simp only [List.head?_cons, Option.some.injEq] at this
            simp [this]
  · have HQ := hide hq
    clear hq
    go_wp2_with fail
    refine (quoted_bad W rb s k2 d _ S2 (by rw [A3.out]; exact HQ.out)).mono ?_
    rintro e w3 ⟨b1, b2⟩
    obtain ⟨fb', k9, g, cb', rfl, q⟩ := b2
    refine ⟨rfl, ser_none ?_ ⟨K2.trans b1, fb', k9, g, cb', rfl, Nat.le_trans K2.size q.1, q.2⟩⟩
    unfold pMem
    cases hst : sk l with
    | nil => rfl
    | cons c q =>
      have := HQ.out
      rw [hst] at this
      simp only [List.head?_cons, Option.some.injEq] at this
      simp [this]
end Go.Proofs.YtocligpfmfmihabGreatDoor

import Derived.Test.YtocligpfmfmihabGreatDoorMixG
import Derived.Test.YtocligpfmfmihabGreatDoorPr11G
namespace Go.Proofs.YtocligpfmfmihabGreatDoor
open Go Go.RowKit Go.Maps

theorem own_max4 {w : World} {B : Nat} {e : TypeId} {v : Value} {n : Nat} {xs : List Value} (h : w.ownsRow B e 4 v n xs) : n ≤ 9223372036854775807 := by
  obtain ⟨_, ⟨_, rfl⟩ | ⟨g, cap, cur, _, _, _, h3, h4, _⟩⟩ := h
  · omega
  · unfold maxLen at h4; omega
end Go.Proofs.YtocligpfmfmihabGreatDoor
namespace Go.Proofs.YtocligpfmfmihabGreatDoor
open Go Go.RowKit Go.Maps Go.WideMaps Go.MuLone
attribute [local go_sem] Oper.semAt_some

/-- What more the variables hold, for what is known. -/
structure NG3 (W : World) : Prop where
  n2 : NG2 W
  dis : ∀ g ∈ four, ∀ g' ∈ four, g ≠ g' → ∀ a, W.cell? ⟨g, 0, none⟩ = some (errV a) → W.cell? ⟨g', 0, none⟩ ≠ some (errV a)
/-- A key that has come with another name. -/
def cf (f : Bs → Option (Bs × Int)) (k : Ky) : Bool := match f k.id with | some p => decide (p.1 ≠ k.key) | none => false
/-- What checkConflict comes to. -/
def CcR (W w : World) (b : Bool) (e : Ending) (w' : World) : Prop := Kp (fun _ => False) w w' ∧ ((b = false ∧ e = .returned .nilIface) ∨ (b = true ∧ ∃ ev, e = .returned ev ∧ Chd W w' ev 6 ∧ ∃ t u, ev = .iface t u))
theorem chd_conf {W w : World} (hN : NG3 W) {a : Addr} (ha : W.cell? ⟨5, 0, none⟩ = some (errV a)) {b : Nat} {s : ByteArray} (hb : w.heap[b]? = some (.cells #[.string s, errV a] 190)) : Chd W w (.iface 188 (.pointer (some ⟨b, 0, none⟩))) 6 := by
  obtain ⟨a', c, t, h1, h2⟩ := hN.n2.lay 5 (by simp [four])
  rw [ha] at h1
  unfold errV at h1
  injection h1 with h1
  injection h1 with _ h1
  injection h1 with h1
  injection h1 with h1
  subst h1
  exact ⟨a, [(.mem, s)], .cons .mem [] b s _ hb .nil, ⟨c, t, h2⟩, hN.dis _ (by simp [four]) _ (by simp [four]) (by decide) a ha, hN.dis _ (by simp [four]) _ (by simp [four]) (by decide) a ha, .conf (by simp) ha⟩
set_option maxRecDepth 20000 in
set_option maxHeartbeats 4000000 in
theorem checkConflict_c (W : World) (hN : NG3 W) (w : World) (hW : Below W.heap.size W w) (sb qb : Nat) (t : Bs) (qm : List (Bs × Value)) (f : Bs → Option (Bs × Int)) (hs : SV w sb qb t qm f) (B : Nat) (v : Value) (ks : List Ky) (row : w.ownsRow B 148 4 v ks.length (ks.flatMap kyC)) (hkl : ∀ k ∈ ks, k.id.length ≤ 2000000) :
    Calls Tryz.prog 60 #[.pointer (some ⟨sb, 0, none⟩), v] w fun e w' => CcR W w (ks.any (cf f)) e w' := by
  obtain ⟨ea, hea⟩ : ∃ ea, W.cell? ⟨5, 0, none⟩ = some (errV ea) := by
    obtain ⟨a, _, _, h, _⟩ := hN.n2.lay 5 (by simp [four])
    exact ⟨a, h⟩
  obtain ⟨va, vc, rfl, hva⟩ := own_slice4 row
  have hkm := own_max4 row
  have HV := hide (And.intro hva (And.intro row hkl))
  have HS := hide hs
  clear hva row hkl hs
  go_enter Tryz.func60, Tryz.ntmps60
  go_wp2_with fail
  go_loopg [11] ks.length (fun gg a wr => ∃ (i : Nat), gg = ks.length - i ∧ i ≤ ks.length ∧ a = .int .i64 (i : Int) ∧ Kp (fun _ => False) w wr ∧ ∀ (j : Nat) (k : Ky), j < i → ks[j]? = some k → cf f k = false)
  case atStart => exact ⟨0, rfl, by omega, rfl, Kp.refl _ _, fun _ _ h => absurd h (by omega)⟩
  case round =>
    obtain ⟨i, hgg, hin, rfl, Kr, hall⟩ := hrel
    have HG := hide (And.intro hgg hall)
    clear hgg hall
    by_cases hlt : i < ks.length
    · have hlt' : decide ((i : Int) < (ks.length : Int)) = true := by simp; omega
      obtain ⟨k, hk⟩ : ∃ k, ks[i]? = some k := ⟨ks[i], List.getElem?_eq_getElem hlt⟩
      obtain ⟨g, rfl, _⟩ := HV.out.1 (by omega)
      obtain ⟨c0, c1, c2, c3⟩ := ky_cells (ownsRow_kp HV.out.2.1 Kr (by simp)) i k hk
      have hkk := HV.out.2.2 k (List.mem_of_getElem? hk)
      have Ka : Kp (fun _ => False) wr (wr.alloc (.cells #[.string ⟨k.id.toArray⟩, .string ⟨k.key.toArray⟩, .bool k.old, .int .i64 k.till] 148)) := (Kp.refl _ _).alloc _
      have Ia := heap_alloc_new wr (.cells #[.string ⟨k.id.toArray⟩, .string ⟨k.key.toArray⟩, .bool k.old, .int .i64 k.till] 148)
      have next : cf f k = false → ∀ (j : Nat) (q : Ky), j < i + 1 → ks[j]? = some q → cf f q = false := by
        intro hok j q hj hq
        rcases Nat.lt_or_ge j i with h | h
        · exact HG.out.2 j q h hq
        · have : j = i := by omega
          subst this
          rw [hk] at hq
          injection hq with hq
          subst hq
          exact hok
      have bad : cf f k = true → ks.any (cf f) = true := fun h => List.any_eq_true.2 ⟨k, List.mem_of_getElem? hk, h⟩
      have NB := hide (And.intro next bad)
      have Kw := Kr.trans Ka
      have hs0 := HS.out.kp Kw
      have hsl := lt_heap hs0.blk
      obtain ⟨s0, s1, _⟩ := srv_facts hs0.blk
      obtain ⟨k0, k1, k2, k3, _, _, _, _, hkb⟩ := kfacts Ia
      clear next bad hk Kr
      go_wp2_with fail
      generalize (wr.alloc (.cells #[.string ⟨k.id.toArray⟩, .string ⟨k.key.toArray⟩, .bool k.old, .int .i64 k.till] 148)) = w0 at *
      have hl1 := mlook Tryz.underlying127 zKey w0.drew qm qb qm.length k.id (by omega) (ownsMap_heap hs0.own rfl)
      have hl2 := mlook Tryz.underlying127 zKey (w0.alloc (.cells #[.string ⟨#[]⟩, .int .i64 0] 152)).drew qm qb qm.length k.id (by omega) (ownsMap_heap hs0.own (by exact Below.heap_alloc w0 _ _ hs0.own.lt))
      rw [hs0.look] at hl1 hl2
      have HK := hide Kw
      clear hs0 Kw
      have hce := Below.cl (below_kp hW HK.out) hea
      have hgl : 5 < w0.heap.size := lt_cell hce
      unfold errV at hce
      cases hf : f k.id with
      | none =>
        rw [hf] at hl1 hl2
        replace hl1 : (Instr.lookup 127 (.map (some qb)) (.string ⟨k.id.toArray⟩) true).run Tryz.prog w0.drew = .ok (.tuple #[.agg #[.string ⟨#[]⟩, .int .i64 0], .bool false]) w0.drew := hl1
        replace hl2 : (Instr.lookup 127 (.map (some qb)) (.string ⟨k.id.toArray⟩) true).run Tryz.prog (w0.alloc (.cells #[.string ⟨#[]⟩, .int .i64 0] 152)).drew = .ok (.tuple #[.agg #[.string ⟨#[]⟩, .int .i64 0], .bool false]) (w0.alloc (.cells #[.string ⟨#[]⟩, .int .i64 0] 152)).drew := hl2
        have HN := hide (NB.out.1 (by unfold cf; rw [hf]))
        clear hf
        go_region
        all_goals go_wp2
        all_goals go_roundg (ks.length - (i + 1))
        all_goals first
          | (rw [HG.out.1]; omega)
          | exact ⟨i + 1, rfl, by omega, int_i64 (by omega), (HK.out.alloc _).drew, HN.out⟩
      | some p =>
        obtain ⟨pq, pt⟩ := p
        rw [hf] at hl1 hl2
        replace hl1 : (Instr.lookup 127 (.map (some qb)) (.string ⟨k.id.toArray⟩) true).run Tryz.prog w0.drew = .ok (.tuple #[.agg #[.string ⟨pq.toArray⟩, .int .i64 pt], .bool true]) w0.drew := hl1
        replace hl2 : (Instr.lookup 127 (.map (some qb)) (.string ⟨k.id.toArray⟩) true).run Tryz.prog (w0.alloc (.cells #[.string ⟨#[]⟩, .int .i64 0] 152)).drew = .ok (.tuple #[.agg #[.string ⟨pq.toArray⟩, .int .i64 pt], .bool true]) (w0.alloc (.cells #[.string ⟨#[]⟩, .int .i64 0] 152)).drew := hl2
        by_cases he : pq = k.key
        · have he' : (pq == k.key) = true := by simpa using he
          have HN := hide (NB.out.1 (by unfold cf; rw [hf]; simpa using he))
          clear hf he
          go_region
          all_goals go_wp2
          all_goals go_roundg (ks.length - (i + 1))
          all_goals first
            | (rw [HG.out.1]; omega)
            | exact ⟨i + 1, rfl, by omega, int_i64 (by omega), (HK.out.alloc _).drew, HN.out⟩
        · have he' : (pq == k.key) = false := by simpa using he
          have HN := hide (NB.out.2 (by unfold cf; rw [hf]; simpa using he))
          clear hf he
          go_region
          all_goals go_wp2
          all_goals go_ret
          all_goals
            have h := heap_alloc_new (w0.alloc (.cells #[.string ⟨pq.toArray⟩, .int .i64 pt] 152)) (.cells #[.string ⟨k.id.toArray⟩, errV ea] 190)
            rw [World.size_alloc] at h
            exact ⟨((HK.out.alloc _).alloc _).drew, Or.inr ⟨HN.out, _, rfl, chd_conf hN hea h, _, _, rfl⟩⟩
    · have hlt' : decide ((i : Int) < (ks.length : Int)) = false := by simp; omega
      have HE : Hid (ks.any (cf f) = false) := by
        show _ = _
        rw [List.any_eq_false]
        intro k hk
        obtain ⟨j, hj, he⟩ := List.mem_iff_getElem.1 hk
        rw [HG.out.2 j k (by omega) (by rw [List.getElem?_eq_getElem hj, he])]
        decide
      have HK := hide Kr
      clear Kr
      go_wp2
      go_ret
      exact ⟨HK.out, Or.inl ⟨HE.out, rfl⟩⟩
end Go.Proofs.YtocligpfmfmihabGreatDoor
namespace Go.Proofs.YtocligpfmfmihabGreatDoor
open Go Go.RowKit Go.Maps Go.WideMaps Go.MuLone

/-- What is known, in memory. -/
structure KNs (w : World) (F : Nat → Prop) (kb mb ib : Nat) (sm im : List (Bs × Value)) (Bf Qf : Bs → Nat) (qm : Bs → List (Bs × Value)) (st : Ldg) (c : Nat) : Prop where
  kblk : w.heap[kb]? = some (knObj mb ib)
  ms : w.ownsMap Tryz.prog 9 Rv mb sm.length (dm sm)
  mi : w.ownsMap Tryz.prog 9 Rv ib im.length (dm im)
  ss : Srt sm
  si : Srt im
  look : ∀ s, lookK s sm = (st.docs s).map fun _ => .pointer (some ⟨Bf s, 0, none⟩)
  vain : ∀ s, lookK s im = (st.asked s).map fun t => .int .i64 t
  srv : ∀ s t, st.docs s = some t → SV w (Bf s) (Qf s) t (qm s) (st.keys s) ∧ (qm s).length ≤ c
  non : ∀ s, st.docs s = none → ∀ i, st.keys s i = none
  inj : ∀ s s' t t', st.docs s = some t → st.docs s' = some t' → s ≠ s' → Bf s ≠ Bf s' ∧ Qf s ≠ Qf s'
  off : ∀ s t, st.docs s = some t → Qf s ≠ mb ∧ Qf s ≠ ib
  mbib : mb ≠ ib
  lsm : sm.length ≤ c
  lim : im.length ≤ c
  fk : F kb
  fm : F mb
  fi : F ib
  fs : ∀ s t, st.docs s = some t → F (Bf s) ∧ F (Qf s)
def KN (w : World) (F : Nat → Prop) (kb : Nat) (st : Ldg) (c : Nat) : Prop := ∃ mb ib sm im Bf Qf qm, KNs w F kb mb ib sm im Bf Qf qm st c
theorem KNs.frame {w w' : World} {F : Nat → Prop} {kb mb ib : Nat} {sm im : List (Bs × Value)} {Bf Qf : Bs → Nat} {qm : Bs → List (Bs × Value)} {st : Ldg} {c : Nat} (h : KNs w F kb mb ib sm im Bf Qf qm st c) (hk : ∀ k, F k → w'.heap[k]? = w.heap[k]?) : KNs w' F kb mb ib sm im Bf Qf qm st c :=
  ⟨(hk kb h.fk).trans h.kblk, ownsMap_heap h.ms (hk mb h.fm), ownsMap_heap h.mi (hk ib h.fi), h.ss, h.si, h.look, h.vain, fun s t hs => ⟨(h.srv s t hs).1.frame (hk _ (h.fs s t hs).1) (hk _ (h.fs s t hs).2), (h.srv s t hs).2⟩, h.non, h.inj, h.off, h.mbib, h.lsm, h.lim, h.fk, h.fm, h.fi, h.fs⟩
theorem KN.frame {w w' : World} {F : Nat → Prop} {kb : Nat} {st : Ldg} {c : Nat} (h : KN w F kb st c) (hk : ∀ k, F k → w'.heap[k]? = w.heap[k]?) : KN w' F kb st c := by
  obtain ⟨mb, ib, sm, im, Bf, Qf, qm, h⟩ := h
  exact ⟨mb, ib, sm, im, Bf, Qf, qm, h.frame hk⟩
theorem KNs.lt {w : World} {F : Nat → Prop} {kb mb ib : Nat} {sm im : List (Bs × Value)} {Bf Qf : Bs → Nat} {qm : Bs → List (Bs × Value)} {st : Ldg} {c : Nat} (h : KNs w F kb mb ib sm im Bf Qf qm st c) : kb < w.heap.size ∧ mb < w.heap.size ∧ ib < w.heap.size ∧ ∀ s t, st.docs s = some t → Bf s < w.heap.size ∧ Qf s < w.heap.size :=
  ⟨lt_heap h.kblk, h.ms.lt, h.mi.lt, fun s t hs => ⟨lt_heap (h.srv s t hs).1.blk, (h.srv s t hs).1.own.lt⟩⟩
theorem KN.kp {w w' : World} {F : Nat → Prop} {kb : Nat} {st : Ldg} {c : Nat} (h : KN w F kb st c) (hF : ∀ k, F k → k < w.heap.size) (hk : Kp (fun _ => False) w w') : KN w' F kb st c :=
  h.frame fun k hf => hk.block k (hF k hf) (by simp)
theorem updK_keys (sn : Bs) (now : Int) (st : Ldg) (k : Ky) : (updK sn now st k).keys sn = updF now (st.keys sn) k := by
  funext i
  unfold updK updF
  by_cases h : i = k.id
  · simp only [h, and_self, if_true]
    cases st.keys sn k.id <;> rfl
  · simp only [h, and_false, if_false]
theorem fold_keys (sn : Bs) (now : Int) (ks : List Ky) : ∀ st : Ldg, (ks.foldl (updK sn now) st).keys sn = ks.foldl (updF now) (st.keys sn) := by
  induction ks with
  | nil => intro st; rfl
  | cons k ks ih => intro st; rw [List.foldl_cons, List.foldl_cons, ih, updK_keys]
/-- Behind a document. -/
theorem KNs.learned {w w' : World} {F : Nat → Prop} {kb mb ib : Nat} {sm im : List (Bs × Value)} {Bf Qf : Bs → Nat} {qm : Bs → List (Bs × Value)} {st : Ldg} {c sb qb n : Nat} {qn : List (Bs × Value)} {sn text : Bs} {ks : List Ky} {now : Int} (h : KNs w F kb mb ib sm im Bf Qf qm st c)
    (hK : ∀ k, k < w.heap.size → k ≠ mb → k ≠ sb → k ≠ qb → w'.heap[k]? = w.heap[k]?) (hm : w'.ownsMap Tryz.prog 9 Rv mb n (dm (insK sn (.pointer (some ⟨sb, 0, none⟩)) sm)))
    (hs : SV w' sb qb text qn (ks.foldl (updF now) (st.keys sn))) (hq : qn.length ≤ c + ks.length) (ho : (∃ t, st.docs sn = some t ∧ sb = Bf sn ∧ qb = Qf sn) ∨ (st.docs sn = none ∧ w.heap.size ≤ sb ∧ w.heap.size ≤ qb)) :
    KN w' (fun k => F k ∨ k = sb ∨ k = qb) kb (keptS (ks.foldl (updK sn now) st) sn text) (c + ks.length + 1) := by
  have hl := h.lt
  have hkm : kb ≠ mb := fun e => mapT_ne h.ms h.kblk e.symm
  have hks : kb ≠ sb := by
    rcases ho with ⟨t, hd, rfl, rfl⟩ | ⟨_, h1, _⟩
    · exact fun e => srv_ne (h.srv sn t hd).1.blk h.kblk e.symm
    · omega
  have hkq : kb ≠ qb := by
    rcases ho with ⟨t, hd, rfl, rfl⟩ | ⟨_, _, h1⟩
    · exact fun e => mapT_ne (h.srv sn t hd).1.own h.kblk e.symm
    · omega
  have his : ib ≠ sb := by
    rcases ho with ⟨t, hd, rfl, rfl⟩ | ⟨_, h1, _⟩
    · exact fun e => mapT_ne h.mi (h.srv sn t hd).1.blk e
    · omega
  have hiq : ib ≠ qb := by
    rcases ho with ⟨t, hd, rfl, rfl⟩ | ⟨_, _, h1⟩
    · exact fun e => (h.off sn t hd).2 e.symm
    · omega
  have hqm : qb ≠ mb := by
    rcases ho with ⟨t, hd, rfl, rfl⟩ | ⟨_, _, h1⟩
    · exact (h.off sn t hd).1
    · omega
  have oth : ∀ s t, s ≠ sn → st.docs s = some t → Bf s ≠ sb ∧ Qf s ≠ qb ∧ Bf s ≠ qb ∧ Qf s ≠ sb ∧ Bf s ≠ mb := by
    intro s t hne hd
    have hb := (h.srv s t hd).1
    have h5 : Bf s ≠ mb := fun e => mapT_ne h.ms hb.blk e.symm
    rcases ho with ⟨t', hd', rfl, rfl⟩ | ⟨_, h1, h2⟩
    · have hb' := (h.srv sn t' hd').1
      have h3 := h.inj s sn t t' hd hd' hne
      exact ⟨h3.1, h3.2, fun e => mapT_ne hb'.own hb.blk e.symm, fun e => mapT_ne hb.own hb'.blk e, h5⟩
    · have h3 := hl.2.2.2 s t hd
      exact ⟨by omega, by omega, by omega, by omega, h5⟩
  have hdk : (keptS (ks.foldl (updK sn now) st) sn text).docs = fun s => if s = sn then some text else st.docs s := by
    show (fun s => if s = sn then some text else (ks.foldl (updK sn now) st).docs s) = _
    rw [fold_docs]
  have hkk : ∀ s, s ≠ sn → ∀ i, (keptS (ks.foldl (updK sn now) st) sn text).keys s i = st.keys s i := fun s hne i => fold_other sn now ks s hne st i
  have hkn : (keptS (ks.foldl (updK sn now) st) sn text).keys sn = ks.foldl (updF now) (st.keys sn) := fold_keys sn now ks st
  have hak : (keptS (ks.foldl (updK sn now) st) sn text).asked = st.asked := fold_asked sn now ks st
  refine ⟨mb, ib, insK sn (.pointer (some ⟨sb, 0, none⟩)) sm, im, fun s => if s = sn then sb else Bf s, fun s => if s = sn then qb else Qf s, fun s => if s = sn then qn else qm s, ?_⟩
  have hli := insK_len sn (.pointer (some ⟨sb, 0, none⟩)) sm
  refine ⟨(hK kb hl.1 hkm hks hkq).trans h.kblk, ownsMap_tight hm, ownsMap_heap h.mi (hK ib hl.2.2.1 (Ne.symm h.mbib) his hiq), srt_insK _ _ _ h.ss, h.si, ?_, ?_, ?_, ?_, ?_, ?_, h.mbib, ?_, ?_, Or.inl h.fk, Or.inl h.fm, Or.inl h.fi, ?_⟩
  · intro s
    rw [lookK_ins, hdk]
    by_cases he : s = sn
    · simp [he]
    · simp only [if_neg he]
      exact h.look s
  · intro s
    rw [hak]
    exact h.vain s
  · intro s t hd
    rw [hdk] at hd
    by_cases he : s = sn
    · subst he
      simp only [if_true] at hd ⊢
      injection hd with hd
      subst hd
      rw [hkn]
      exact ⟨hs, by omega⟩
    · simp only [if_neg he] at hd ⊢
      obtain ⟨o1, o2, o3, o4, o5⟩ := oth s t he hd
      have h3 := hl.2.2.2 s t hd
      have hfr := (h.srv s t hd).1.frame (hK _ h3.1 o5 o1 o3) (hK _ h3.2 (h.off s t hd).1 o4 o2)
      refine ⟨⟨hfr.blk, hfr.own, hfr.srt, ?_⟩, by have := (h.srv s t hd).2; omega⟩
      intro i
      rw [hkk s he i]
      exact hfr.look i
  · intro s hd i
    rw [hdk] at hd
    by_cases he : s = sn
    · simp [he] at hd
    · simp only [if_neg he] at hd
      rw [hkk s he i]
      exact h.non s hd i
  · intro s s' t t' hd hd' hne
    rw [hdk] at hd hd'
    by_cases he : s = sn
    · subst he
      have he' : s' ≠ s := Ne.symm hne
      simp only [if_neg he'] at hd' ⊢
      obtain ⟨o1, o2, _⟩ := oth s' t' he' hd'
      simp only [if_true]
      exact ⟨Ne.symm o1, Ne.symm o2⟩
    · simp only [if_neg he] at hd ⊢
      by_cases he' : s' = sn
      · subst he'
        obtain ⟨o1, o2, _⟩ := oth s t he hd
        simp only [if_true]
        exact ⟨o1, o2⟩
      · simp only [if_neg he'] at hd' ⊢
        exact h.inj s s' t t' hd hd' hne
  · intro s t hd
    rw [hdk] at hd
    by_cases he : s = sn
    · simp only [if_pos he]
      exact ⟨hqm, Ne.symm hiq⟩
    · simp only [if_neg he] at hd ⊢
      exact h.off s t hd
  · have := h.lsm
    omega
  · have := h.lim
    omega
  · intro s t hd
    rw [hdk] at hd
    by_cases he : s = sn
    · refine ⟨?_, ?_⟩ <;> simp [he]
    · simp only [if_neg he] at hd ⊢
      exact ⟨Or.inl (h.fs s t hd).1, Or.inl (h.fs s t hd).2⟩
end Go.Proofs.YtocligpfmfmihabGreatDoor

import Derived.Test.YtocligpfmfmihabGreatDoorRea10G
import Derived.Test.YtocligpfmfmihabGreatDoorPr5
namespace Go.Proofs.YtocligpfmfmihabGreatDoor
open Go Go.RowKit Go.Maps Go.WideMaps Go.MuLone
attribute [local go_sem] Oper.semAt_some

/-- What takeIn comes to. -/
def TiR (W w : World) (F : Nat → Prop) (kb : Nat) (r : Nat × Ldg) (c : Nat) (e : Ending) (w' : World) : Prop := ∃ F' : Nat → Prop, Kp F w w' ∧ (∀ k, F' k → F k ∨ w.heap.size ≤ k) ∧ (∀ k, F' k → k < w'.heap.size) ∧ (∀ k, F k → F' k) ∧ KN w' F' kb r.2 c ∧
  ((r.1 = 0 ∧ e = .returned .nilIface) ∨ (r.1 = 6 ∧ ∃ ev, e = .returned ev ∧ Chd W w' ev 6 ∧ ∃ t u, ev = .iface t u))
theorem held_kp (b : Nat) (w : World) : Kp (fun j => j = b) w (held b w) := Kp.setCell (S := fun j => j = b) (p := ⟨b, 0, none⟩) (Kp.refl _ _) (fun _ => rfl) _
/-- Behind the lock, whatever else has turned. -/
theorem lock_frameS {S : Nat → Prop} {w X : World} {b mb ib : Nat} (h : w.heap[b]? = some (knObj mb ib)) (hS : ¬ S b) (K : Kp S (held b w) X) :
    X.cell? ⟨b, 0, none⟩ = some (.int .i32 1) ∧ X.frozen? ⟨b, 0, none⟩ = false ∧ Kp S w (X.setCell ⟨b, 0, none⟩ (.int .i32 0)) := by
  have hs : (held b w).heap.size = w.heap.size := World.size_setCell _ _ _
  have hx := (K.block b (by rw [hs]; exact lt_heap h) hS).trans (held_obj h)
  refine ⟨by simp [World.cell?, hx], by simp [World.frozen?, hx], K.os, K.tape, K.output, ?_, ?_⟩
  · rw [World.size_setCell, ← hs]; exact K.size
  · intro k hk hk'
    by_cases he : k = b
    · subst he
      rw [h]
      simp [World.setCell, Array.getElem?_modify, hx, knObj]
    · rw [heap_set_other (by exact he), K.block k (by omega) hk', held_heap he]
theorem set_alloc1 {X : World} {q : Nat} {v : Value} {o : Obj} (h : q < X.heap.size) : (X.setCell ⟨q, 0, none⟩ v).alloc o = (X.alloc o).setCell ⟨q, 0, none⟩ v := set_alloc0 h
theorem KN.mono {w : World} {F : Nat → Prop} {kb : Nat} {st : Ldg} {c c' : Nat} (h : KN w F kb st c) (hc : c ≤ c') : KN w F kb st c' := by
  obtain ⟨mb, ib, sm, im, Bf, Qf, qm, h⟩ := h
  exact ⟨mb, ib, sm, im, Bf, Qf, qm, ⟨h.kblk, h.ms, h.mi, h.ss, h.si, h.look, h.vain, fun s t hs => ⟨(h.srv s t hs).1, Nat.le_trans (h.srv s t hs).2 hc⟩, h.non, h.inj, h.off, h.mbib, Nat.le_trans h.lsm hc, Nat.le_trans h.lim hc, h.fk, h.fm, h.fi, h.fs⟩⟩
theorem Chd.setk {W X : World} {ev : Value} {n b : Nat} {cs : Array Value} {v : Value} (h : Chd W X ev n) (hb : X.heap[b]? = some (.cells cs 109)) : Chd W (X.setCell ⟨b, 0, none⟩ v) ev n := by
  obtain ⟨a, ks, h1, h2⟩ := h
  refine ⟨a, ks, h1.up ?_, h2⟩
  intro j c t hj ht
  have : j ≠ b := by
    rintro rfl
    rw [hb] at hj
    injection hj with hj
    injection hj with _ h2 _
    subst h2
    revert ht
    decide
  rw [heap_set_other (by exact this)]
  exact hj
theorem ti_no {W w w' : World} {F : Nat → Prop} {kb : Nat} {st : Ldg} {c n : Nat} {t : TypeId} {u : Value} (K : Kp (fun _ => False) w w') (hF : ∀ k, F k → k < w.heap.size) (h : KN w F kb st c) (he : Chd W w' (.iface t u) 6) :
    TiR W w F kb (6, st) (c + n + 1) (.returned (.iface t u)) w' :=
  ⟨F, K.mono (fun _ _ h => h.elim), fun _ h => Or.inl h, fun k h => Nat.lt_of_lt_of_le (hF k h) K.size, fun _ h => h, (h.kp hF K).mono (by omega), Or.inr ⟨rfl, _, rfl, he, _, _, rfl⟩⟩
theorem ti_yes {W w w' : World} {F : Nat → Prop} {kb mb ib : Nat} {sm im : List (Bs × Value)} {Bf Qf : Bs → Nat} {qm : Bs → List (Bs × Value)} {st : Ldg} {c sb qb n : Nat} {qn : List (Bs × Value)} {sn text : Bs} {ks : List Ky} {now : Int} (h : KNs w F kb mb ib sm im Bf Qf qm st c) (hF : ∀ k, F k → k < w.heap.size)
    (K : Kp (fun j => j = qb ∨ j = sb ∨ j = mb) w w') (hm : w'.ownsMap Tryz.prog 9 Rv mb n (dm (insK sn (.pointer (some ⟨sb, 0, none⟩)) sm)))
    (hs : SV w' sb qb text qn (ks.foldl (updF now) (st.keys sn))) (hq : qn.length ≤ c + ks.length) (ho : (∃ t, st.docs sn = some t ∧ sb = Bf sn ∧ qb = Qf sn) ∨ (st.docs sn = none ∧ w.heap.size ≤ sb ∧ w.heap.size ≤ qb)) :
    TiR W w F kb (0, keptS (ks.foldl (updK sn now) st) sn text) (c + ks.length + 1) (.returned .nilIface) w' := by
  have hsq : ∀ k, k < w.heap.size → k = sb ∨ k = qb → F k := by
    intro k hk e
    rcases ho with ⟨t, hd, rfl, rfl⟩ | ⟨_, h1, h2⟩
    · rcases e with rfl | rfl
      · exact (h.fs sn t hd).1
      · exact (h.fs sn t hd).2
    · omega
  refine ⟨fun k => F k ∨ k = sb ∨ k = qb, K.mono ?_, ?_, ?_, fun _ h => Or.inl h, h.learned ?_ hm hs hq ho, Or.inl ⟨rfl, rfl⟩⟩
  · rintro k hk (rfl | rfl | rfl)
    · exact hsq _ hk (Or.inr rfl)
    · exact hsq _ hk (Or.inl rfl)
    · exact h.fm
  · rintro k (hk | hk)
    · exact Or.inl hk
    · rcases Nat.lt_or_ge k w.heap.size with h1 | h1
      · exact Or.inl (hsq k h1 hk)
      · exact Or.inr h1
  · rintro k (hk | rfl | rfl)
    · exact Nat.lt_of_lt_of_le (hF k hk) K.size
    · exact lt_heap hs.blk
    · exact hs.own.lt
  · intro k hk h1 h2 h3
    exact K.block k hk (by rintro (e | e | e) <;> contradiction)
theorem srv_set {w : World} {sb qb : Nat} {t text : Bs} (h : w.heap[sb]? = some (srvObj qb t)) : (w.setCell ⟨sb, 1, none⟩ (.string ⟨text.toArray⟩)).heap[sb]? = some (srvObj qb text) := by
  unfold srvObj at *
  simp [World.setCell, Array.getElem?_modify, h]
set_option maxRecDepth 20000 in
set_option maxHeartbeats 8000000 in
theorem takeIn_c (W : World) (hN : NG3 W) (w : World) (hW : Below W.heap.size W w) (F : Nat → Prop) (hFl : ∀ k, F k → W.heap.size ≤ k ∧ k < w.heap.size) (kb : Nat) (st : Ldg) (c : Nat) (hKN : KN w F kb st c) (sn : Bs) (u : Int) (text : Bs) (now : Int) (hnow : -9223372036854775808 ≤ now) (B : Nat) (v : Value) (ks : List Ky) (row : w.ownsRow B 148 4 v ks.length (ks.flatMap kyC)) (hsn : sn.length ≤ 2000000) (hkl : ∀ k ∈ ks, k.id.length ≤ 2000000) (hc : c + ks.length ≤ 200000000000000000) :
    Calls Tryz.prog 36 #[.pointer (some ⟨kb, 0, none⟩), .agg #[.string ⟨sn.toArray⟩, .int .i64 u, v], .string ⟨text.toArray⟩, .int .i64 now] w fun e w' => TiR W w F kb (takeS st sn ks text now) (c + ks.length + 1) e w' := by
  obtain ⟨mb, ib, sm, im, Bf, Qf, qm, hk⟩ := hKN
  obtain ⟨va, vc, rfl, hva⟩ := own_slice4 row
  have K0 : Kp (fun _ => False) w (w.alloc (.cells #[.string ⟨sn.toArray⟩, .int .i64 u, .slice va ks.length vc] 83)) := (Kp.refl _ _).alloc _
  have I0 := heap_alloc_new w (.cells #[.string ⟨sn.toArray⟩, .int .i64 u, .slice va ks.length vc] 83)
  have hk0 := hk.frame (fun k hf => K0.block k (hFl k hf).2 (by simp))
  obtain ⟨c0, c2, c3, f0⟩ := kn_facts hk0.kblk
  have hlt := hk.lt
  have hs0 : (w.alloc (.cells #[.string ⟨sn.toArray⟩, .int .i64 u, .slice va ks.length vc] 83)).heap.size = w.heap.size + 1 := by simp
  have HV := hide (And.intro hva (And.intro row hkl))
  have HF := hide hFl
  clear hva row hkl hFl
  go_enter_defers Tryz.func36, Tryz.ntmps36
  go_wp2_with (go_at_call 52; refine (lock_free Tryz.muLib ⟨kb, 0, none⟩ _ c0 f0).mono ?_; rintro e w' ⟨rfl, rfl⟩)
  have hw1 : ((w.setCell ⟨kb, 0, none⟩ (.int .i32 1)).alloc (.cells #[.string ⟨sn.toArray⟩, .int .i64 u, .slice va ks.length vc] 83)) = held kb (w.alloc (.cells #[.string ⟨sn.toArray⟩, .int .i64 u, .slice va ks.length vc] 83)) := set_alloc1 hlt.1
  rw [hw1]
  clear hw1
  generalize (w.alloc (.cells #[.string ⟨sn.toArray⟩, .int .i64 u, .slice va ks.length vc] 83)) = w0 at *
  have LF : Hid (∀ (S : Nat → Prop), ¬ S kb → ∀ X, Kp S (held kb w0) X → X.cell? ⟨kb, 0, none⟩ = some (.int .i32 1) ∧ X.frozen? ⟨kb, 0, none⟩ = false ∧ Kp S w0 (X.setCell ⟨kb, 0, none⟩ (.int .i32 0))) := fun S hS X K => lock_frameS hk0.kblk hS K
  obtain ⟨d0, d2, d3, g0⟩ := held_facts hk0.kblk
  have I1 : (held kb w0).heap[w.heap.size]? = some (.cells #[.string ⟨sn.toArray⟩, .int .i64 u, .slice va ks.length vc] 83) := (held_heap (by omega)).trans I0
  have hsz1 : (held kb w0).heap.size = w0.heap.size := World.size_setCell _ _ _
  have hk1 : ∀ k, k < w.heap.size → k ≠ kb → (held kb w0).heap[k]? = w.heap[k]? := fun k h1 h2 => (held_heap h2).trans (K0.block k h1 (by simp))
  have hWk : W.heap.size ≤ kb := (HF.out kb hk.fk).1
  have B1 : Below W.heap.size W (held kb w0) := ⟨(held_kp kb w0).os.trans (K0.os.trans hW.os), (held_kp kb w0).tape.trans (K0.tape.trans hW.tape), (held_kp kb w0).output.trans (K0.output.trans hW.output), by rw [hsz1]; have := hW.size; omega, fun k h => (hk1 k (Nat.lt_of_lt_of_le h hW.size) (by omega)).trans (hW.block k h)⟩
  have row1 : (held kb w0).ownsRow B 148 4 (.slice va ks.length vc) ks.length (ks.flatMap kyC) := ownsRow_heap HV.out.2.1 (fun k e => hk1 k (HV.out.2.1.lt k e).2 (by
    rintro rfl
    obtain ⟨_, cc, hcc⟩ := own_cells HV.out.2.1 e
    have hkk := hk.kblk
    rw [hcc] at hkk
    unfold knObj at hkk
    injection hkk with hkk
    injection hkk with _ h2 _
    revert h2
    decide))
  have ms1 : (held kb w0).ownsMap Tryz.prog 9 Rv mb sm.length (dm sm) := ownsMap_heap hk0.ms (held_heap (mapT_ne hk0.ms hk0.kblk))
  have hlk := mlook Tryz.underlying100 zSrv (held kb w0).drew sm mb sm.length sn (by omega) (ownsMap_heap ms1 rfl)
  rw [hk.look sn] at hlk
  have HK1 := hide hk1
  have HM1 := hide ms1
  have HRW := hide row1
  have HB1 := hide B1
  have HKS := hide hk
  have hkn := hk.lt.1
  have hdoc : ∀ t, st.docs sn = some t → SV (held kb w0) (Bf sn) (Qf sn) t (qm sn) (st.keys sn) ∧ (qm sn).length ≤ c := fun t hd => ⟨(hk.srv sn t hd).1.frame (hk1 _ (hk.lt.2.2.2 sn t hd).1 (srv_ne (hk.srv sn t hd).1.blk hk.kblk)) (hk1 _ (hk.lt.2.2.2 sn t hd).2 (mapT_ne (hk.srv sn t hd).1.own hk.kblk)), (hk.srv sn t hd).2⟩
  have HDOC := hide hdoc
  have HKB := hide (held_obj hk0.kblk)
  generalize held kb w0 = w1 at *
  obtain ⟨x0, x1, x2, xf0, xf1, xf2, hxb⟩ := dfacts I1
  clear hk1 ms1 row1 B1 hk hk0 c0 c2 c3 f0 hdoc
  have hmm : ∀ (w : World), (Instr.makeMap 127 none).run Tryz.prog w = .ok (.map (some w.heap.size)) (w.alloc (.map #[] 0)) := by
    intro w
    simp [Instr.makeMap, Result.andThen]
  rcases hd : st.docs sn with _ | t
  case' none =>
    rw [hd] at hlk
    replace hlk : (Instr.lookup 100 (.map (some mb)) (.string ⟨sn.toArray⟩) true).run Tryz.prog w1.drew = .ok (.tuple #[.pointer none, .bool false]) w1.drew := hlk
    go_region
    go_wp2_with fail
    have PK : ∃ (sb qb : Nat) (t0 : Bs) (q0 : List (Bs × Value)) (X : World), X = ((w1.alloc (.map #[] 0)).alloc (.cells #[.map (some (w.heap.size + 1)), .string ⟨#[]⟩] 129)).drew ∧ sb = w.heap.size + 1 + 1 ∧ Kp (fun _ => False) w1 X ∧ SV X sb qb t0 q0 (st.keys sn) ∧ q0.length ≤ c ∧ ((∃ t, st.docs sn = some t ∧ sb = Bf sn ∧ qb = Qf sn) ∨ (st.docs sn = none ∧ w.heap.size ≤ sb ∧ w.heap.size ≤ qb)) := by
      have hs2 : w1.heap.size = w.heap.size + 1 := by omega
      refine ⟨_, w.heap.size + 1, [], [], _, rfl, rfl, (((Kp.refl _ _).alloc _).alloc _).drew, ⟨?_, ?_, List.Pairwise.nil, ?_⟩, Nat.zero_le _, Or.inr ⟨hd, by omega, by omega⟩⟩
      · have h := heap_alloc_new (w1.alloc (.map #[] 0)) (.cells #[.map (some (w.heap.size + 1)), .string ⟨#[]⟩] 129)
        rw [World.size_alloc, hs2] at h
        exact h
      · have h0 : (w1.alloc (.map #[] 0)).ownsMap Tryz.prog 9 Rv w1.heap.size 0 (dm []) := by simpa [dm] using World.ownsMap_made w1 Tryz.prog 9 Rv
        rw [hs2] at h0
        exact ownsMap_heap h0 (by exact Below.heap_alloc (w1.alloc (.map #[] 0)) _ _ h0.lt)
      · intro i
        rw [HKS.out.non sn hd i]
        rfl
  case' some =>
    rw [hd] at hlk
    replace hlk : (Instr.lookup 100 (.map (some mb)) (.string ⟨sn.toArray⟩) true).run Tryz.prog w1.drew = .ok (.tuple #[.pointer (some ⟨Bf sn, 0, none⟩), .bool true]) w1.drew := hlk
    go_region
    go_wp2_with fail
    have PK : ∃ (sb qb : Nat) (t0 : Bs) (q0 : List (Bs × Value)) (X : World), X = w1.drew ∧ sb = Bf sn ∧ Kp (fun _ => False) w1 X ∧ SV X sb qb t0 q0 (st.keys sn) ∧ q0.length ≤ c ∧ ((∃ t, st.docs sn = some t ∧ sb = Bf sn ∧ qb = Qf sn) ∨ (st.docs sn = none ∧ w.heap.size ≤ sb ∧ w.heap.size ≤ qb)) :=
      ⟨Bf sn, Qf sn, t, qm sn, w1.drew, rfl, rfl, (Kp.refl _ _).drew, (HDOC.out t hd).1.kp (Kp.refl _ _).drew, (HDOC.out t hd).2, Or.inl ⟨t, hd, rfl, rfl⟩⟩
  all_goals
    obtain ⟨sb, qb, t0, q0, X, hX, hsb, KX, SVX, hq0, HO'⟩ := PK
    rw [← hX, ← hsb]
    have HO := hide HO'
    clear hX hsb HO' hd hlk hmm HDOC
    have HCC := hide (checkConflict_c W hN X (below_kp HB1.out KX) sb qb t0 q0 _ SVX B _ ks (ownsRow_kp HRW.out KX (by simp)) HV.out.2.2)
    refine HCC.out.mono ?_
    rintro e X1 ⟨K1, h1⟩
    have KX1 := KX.trans K1
    have SV1 := SVX.kp K1
    clear HCC K1 KX SVX
    rcases h1 with ⟨hb, rfl⟩ | ⟨hb, ev, rfl, he, tt, uu, rfl⟩
    case' inr =>
      have hts : takeS st sn ks text now = (6, st) := by
        unfold takeS
        rw [if_pos]
        exact hb
      have HT := hide (And.intro hts he)
      have lf := LF.out (fun _ => False) (by simp) X1 KX1
      have HL := hide lf
      have HL1 := hide (KX1.heap HKB.out)
      clear hts he hb KX1 SV1
      go_wp2
      refine leaves_cons (f := 53) (args := #[.pointer (some ⟨kb, 0, none⟩)]) (by simp) (by simp [go_sem]) ?_
      refine (unlock_deferred Tryz.muLib ⟨kb, 0, none⟩ .returning _ HL.out.1 HL.out.2.1).mono ?_
      rintro e u' w'' ⟨rfl, rfl, rfl⟩
      refine ⟨_, results_tmp rfl _ _ _, ?_⟩
      rw [HT.out.1]
      exact ti_no (K0.trans HL.out.2.2) (fun k h => (HF.out k h).2) ⟨_, _, _, _, _, _, _, HKS.out⟩ (HT.out.2.setk (HL1.out))
    case' inl =>
      have I1x := KX1.heap I1
      clear x0 x1 x2 xf0 xf1 xf2 hxb
      obtain ⟨x0, x1, x2, xf0, xf1, xf2, hxb⟩ := dfacts I1x
      have HSV := hide SV1
      have HKX := hide KX1
      have HIX := hide I1x
      have hqs := SV1.ne
      have hql := SV1.own.lt
      have hts : takeS st sn ks text now = (0, keptS (ks.foldl (updK sn now) st) sn text) := by
        unfold takeS
        rw [if_neg]
        intro h
        have hb' : confF st sn ks = false := hb
        rw [hb'] at h
        cases h
      have HT := hide hts
      have rowX := ownsRow_kp HRW.out KX1 (by simp)
      have hkm := own_max4 rowX
      have HRX := hide rowX
      clear hb SV1 KX1 I1x hts rowX
      go_wp2_with fail
      go_loopg [46] ks.length (fun gg a wr => ∃ (i : Nat), gg = ks.length - i ∧ i ≤ ks.length ∧ a = .int .i64 (i : Int) ∧ Kp (fun j => j = qb) X1 wr ∧ ∃ qi, SV wr sb qb t0 qi ((ks.take i).foldl (updF now) (st.keys sn)) ∧ qi.length ≤ q0.length + i)
      case atStart => exact ⟨0, rfl, by omega, rfl, Kp.refl _ _, q0, HSV.out, by omega⟩
      case round =>
        obtain ⟨i, hgg, hin, rfl, Kr, qi, hsi, hqi⟩ := hrel
        have HG := hide hgg
        clear hgg
        by_cases hlt2 : i < ks.length
        · have hlt' : decide ((i : Int) < (ks.length : Int)) = true := by simp; omega
          obtain ⟨k, hk⟩ : ∃ k, ks[i]? = some k := ⟨ks[i], List.getElem?_eq_getElem hlt2⟩
          obtain ⟨g, rfl, _⟩ := HV.out.1 (by omega)
          obtain ⟨c0, c1, c2, c3⟩ := ky_cells (ownsRow_kp HRX.out Kr (by
            intro j hj e
            subst e
            obtain ⟨_, cc, hcc⟩ := own_cells HRX.out hj
            exact mapT_ne HSV.out.own hcc rfl)) i k hk
          have hkk := HV.out.2.2 k (List.mem_of_getElem? hk)
          have Ka : Kp (fun _ => False) wr (wr.alloc (.cells #[.string ⟨k.id.toArray⟩, .string ⟨k.key.toArray⟩, .bool k.old, .int .i64 k.till] 148)) := (Kp.refl _ _).alloc _
          have Ia := heap_alloc_new wr (.cells #[.string ⟨k.id.toArray⟩, .string ⟨k.key.toArray⟩, .bool k.old, .int .i64 k.till] 148)
          have hsa := hsi.kp Ka
          obtain ⟨k0, k1, k2, k3, _, _, _, _, hkb⟩ := kfacts Ia
          have htk : (ks.take (i + 1)).foldl (updF now) (st.keys sn) = updF now ((ks.take i).foldl (updF now) (st.keys sn)) k := by
            rw [take_succ hk, List.foldl_append]
            rfl
          have HTK := hide htk
          have HA := hide (And.intro Kr (And.intro Ka hsa))
          clear htk hk Kr hsi hsa
          have HNW := hide hnow
          go_wp2_with fail
          generalize (wr.alloc (.cells #[.string ⟨k.id.toArray⟩, .string ⟨k.key.toArray⟩, .bool k.old, .int .i64 k.till] 148)) = wk at *
          refine wp_noP ?_
          go_region_law (first
            | (refine step_callF rfl 62 _ _ rfl #[.agg #[.string ⟨k.id.toArray⟩, .string ⟨k.key.toArray⟩, .bool k.old, .int .i64 k.till], .int .i64 now] (by go_simp) ?_; refine (lastMoment_c k now HNW.out _).mono ?_; rintro e wl ⟨rfl, Kl⟩; have HKL := hide (((Kp.refl (fun _ => False) wk).drew).trans Kl); obtain ⟨k0, k1, k2, k3, _, _, _, _, hkb⟩ := kfacts (HKL.out.heap Ia); clear Kl)
            | (refine step_callF rfl 61 _ _ rfl #[.pointer (some ⟨sb, 0, none⟩), .agg #[.string ⟨k.id.toArray⟩, .string ⟨k.key.toArray⟩, .bool k.old, .int .i64 k.till], .int .i64 (tillF now k)] (by go_simp) ?_; refine (trust_c _ sb qb t0 qi _ (HA.out.2.2.kp HKL.out) k hkk (by omega) now).mono ?_; rintro e wt ⟨rfl, Kt, qi', hst, hqt⟩; have HST := hide (And.intro Kt (And.intro hst hqt)); clear Kt hst hqt))
          all_goals refine noP_normal ?_
          all_goals go_wp2
          all_goals go_roundg (ks.length - (i + 1))
          all_goals first
            | (rw [HG.out]; omega)
            | (refine ⟨i + 1, rfl, by omega, int_i64 (by omega), (HA.out.1.trans ((HA.out.2.1.trans HKL.out).mono (fun _ _ h => h.elim))).trans HST.out.1, qi', ?_, by have := HST.out.2.2; omega⟩; rw [HTK.out]; exact HST.out.2.1)
        · have hlt' : decide ((i : Int) < (ks.length : Int)) = false := by simp; omega
          have hie : i = ks.length := by omega
          rw [hie, List.take_of_length_le (Nat.le_refl _)] at hsi
          have hkx := HKX.out.heap HKB.out
          have hkq : kb ≠ qb := fun e => mapT_ne HSV.out.own hkx e.symm
          have hks : sb ≠ kb := by
            rintro rfl
            have h1 := HSV.out.blk
            rw [hkx] at h1
            unfold srvObj at h1
            injection h1 with h1
            injection h1 with _ h2 _
            revert h2
            decide
          have hmq : mb ≠ qb := by
            rcases HO.out with ⟨t, hd, _, rfl⟩ | ⟨_, _, h2⟩
            · exact fun e => (HKS.out.off sn t hd).1 e.symm
            · have := HKS.out.ms.lt
              omega
          have hms : mb ≠ sb := fun e => mapT_ne (ownsMap_heap HM1.out (HKX.out.block _ HM1.out.lt (by simp))) HSV.out.blk e
          have hds : w.heap.size ≠ sb := by
            intro e
            have h1 := HSV.out.blk
            rw [← e, HIX.out] at h1
            unfold srvObj at h1
            injection h1 with h1
            injection h1 with _ h2 _
            revert h2
            decide
          have hdq : w.heap.size ≠ qb := fun e => mapT_ne HSV.out.own HIX.out e.symm
          obtain ⟨s0, s1, s2⟩ := srv_facts hsi.blk
          have KY : Kp (fun j => j = qb ∨ j = sb ∨ j = mb) X1 (wr.setCell ⟨sb, 1, none⟩ (.string ⟨text.toArray⟩)) := Kp.setCell (S := fun j => j = qb ∨ j = sb ∨ j = mb) (p := ⟨sb, 1, none⟩) (Kr.mono (fun _ _ h => Or.inl h)) (fun _ => Or.inr (Or.inl rfl)) _
          have hky : (wr.setCell ⟨sb, 1, none⟩ (.string ⟨text.toArray⟩)).heap[kb]? = some (.cells #[.int .i32 1, .int .u32 0, .map (some mb), .map (some ib)] 109) := (heap_set_other (by exact Ne.symm hks)).trans ((Kr.block kb (lt_heap hkx) hkq).trans hkx)
          have hdy : (wr.setCell ⟨sb, 1, none⟩ (.string ⟨text.toArray⟩)).heap[w.heap.size]? = some (.cells #[.string ⟨sn.toArray⟩, .int .i64 u, .slice va ks.length vc] 83) := (heap_set_other (by exact hds)).trans ((Kr.block _ (lt_heap HIX.out) hdq).trans HIX.out)
          have hmy : (wr.setCell ⟨sb, 1, none⟩ (.string ⟨text.toArray⟩)).ownsMap Tryz.prog 9 Rv mb sm.length (dm sm) := ownsMap_heap HM1.out ((heap_set_other (by exact hms)).trans ((Kr.block mb (Nat.lt_of_lt_of_le HM1.out.lt HKX.out.size) hmq).trans (HKX.out.block mb HM1.out.lt (by simp))))
          have hsy : SV (wr.setCell ⟨sb, 1, none⟩ (.string ⟨text.toArray⟩)) sb qb text qi (ks.foldl (updF now) (st.keys sn)) := ⟨srv_set hsi.blk, ownsMap_heap hsi.own (heap_set_other (by exact hqs)), hsi.srt, hsi.look⟩
          go_wp2_with fail
          generalize (wr.setCell ⟨sb, 1, none⟩ (.string ⟨text.toArray⟩)) = Y at *
          have y2 : Y.cell? ⟨kb, 2, none⟩ = some (.map (some mb)) := by simp [World.cell?, hky]
          clear s0 s1 s2 x0 x1 x2 xf0 xf1 xf2 hxb
          obtain ⟨x0, x1, x2, xf0, xf1, xf2, hxb⟩ := dfacts hdy
          have hlsm := HKS.out.lsm
          obtain ⟨w9, hup, o9, g9⟩ := (show Y.drew.ownsMap Tryz.prog 9 Rv mb sm.length (dm sm) from ownsMap_heap hmy rfl).update keyed Tryz.underlying100 (by unfold maxLen; omega) (key_mk2 (show sn.length ≤ 139000000000000 by omega)) (show Rv (.pointer (some ⟨sb, 0, none⟩)) = some (.held (.pointer (some ⟨sb, 0, none⟩)), []) from rfl)
          rw [dm_put sn _ sm HKS.out.ss] at o9
          have K9 : Kp (fun j => j = qb ∨ j = sb ∨ j = mb) w1 w9 := ((HKX.out.mono (fun _ _ h => h.elim)).trans KY.drew).grown g9 (fun j e _ => by cases e; exact Or.inr (Or.inr rfl))
          have hsz9 : SV w9 sb qb text qi (ks.foldl (updF now) (st.keys sn)) := hsy.frame (g9.block sb (lt_heap hsy.blk) (by intro e; injection e with e; exact hms e.symm)) (g9.block qb hsy.own.lt (by intro e; injection e with e; exact hmq e.symm))
          have hkm9 : kb ≠ mb := fun e => mapT_ne hmy hky e.symm
          have lf := LF.out (fun j => j = qb ∨ j = sb ∨ j = mb) (fun h => h.elim (fun e => hkq e) (fun h => h.elim (fun e => hks e.symm) (fun e => hkm9 e))) w9 K9
          have HL := hide (And.intro lf (And.intro o9 (And.intro hsz9 (And.intro hks (And.intro hkq hkm9)))))
          clear lf K9 hsz9 o9 g9 hmy hsy KY hky hdy hsi hkx hkm9
          go_region
          go_wp2
          refine leaves_cons (f := 53) (args := #[.pointer (some ⟨kb, 0, none⟩)]) (by simp) (by simp [go_sem]) ?_
          refine (unlock_deferred Tryz.muLib ⟨kb, 0, none⟩ .returning _ HL.out.1.1 HL.out.1.2.1).mono ?_
          rintro e u' w'' ⟨rfl, rfl, rfl⟩
          refine ⟨_, results_tmp rfl _ _ _, ?_⟩
          rw [HT.out]
          exact ti_yes HKS.out (fun k h => (HF.out k h).2) ((K0.mono (fun _ _ h => h.elim)).trans HL.out.1.2.2) (ownsMap_heap HL.out.2.1 (heap_set_other (by exact Ne.symm HL.out.2.2.2.2.2))) (HL.out.2.2.1.frame (heap_set_other (by exact HL.out.2.2.2.1)) (heap_set_other (by exact Ne.symm HL.out.2.2.2.2.1))) (by omega) HO.out
end Go.Proofs.YtocligpfmfmihabGreatDoor

import Derived.Test.YtocligpfmfmihabGreatDoorVp4G
import Derived.Test.YtocligpfmfmihabGreatDoorVr1G
import Derived.Test.YtocligpfmfmihabGreatDoorSemG
namespace Go.Proofs.YtocligpfmfmihabGreatDoor
open Go Go.RowKit Go.Maps Go.WideMaps
attribute [local go_sem] Oper.semAt_some

/-- What learnFrom comes to: what is known is behind it as the plain step says. -/
def LfR (w : World) (Fk : Nat → Prop) (kb : Nat) (r : Bool × Ldg) (c : Nat) (e : Ending) (w' : World) : Prop := ∃ Fk' : Nat → Prop, Kp Fk w w' ∧ (∀ k, Fk' k → Fk k ∨ w.heap.size ≤ k) ∧ (∀ k, Fk' k → k < w'.heap.size) ∧ KN w' Fk' kb r.2 c ∧ ((r.1 = true ∧ e = .returned .nilIface) ∨ (r.1 = false ∧ ∃ tt uu, e = .returned (.iface tt uu)))
theorem ti_ev {W w' : World} {e : Ending} {n : Nat} (h : (n = 0 ∧ e = .returned .nilIface) ∨ (n = 6 ∧ ∃ ev, e = .returned ev ∧ Chd W w' ev 6 ∧ ∃ t u, ev = .iface t u)) : ∃ ev, e = .returned ev ∧ ((n = 0 ∧ ev = .nilIface) ∨ (n = 6 ∧ ∃ t u, ev = .iface t u)) := by
  rcases h with ⟨h1, h2⟩ | ⟨h1, ev, h2, _, h3⟩
  · exact ⟨_, h2, Or.inl ⟨h1, rfl⟩⟩
  · exact ⟨_, h2, Or.inr ⟨h1, h3⟩⟩
set_option maxRecDepth 20000 in
set_option maxHeartbeats 4000000 in
theorem learnFrom_c (W : World) (hN : NG3 W) (w : World) (hW : Below W.heap.size W w) (Fk : Nat → Prop) (nb kb : Nat) (hFk : ∀ k, Fk k → W.heap.size ≤ k ∧ k < w.heap.size) (n4 : w.cell? ⟨nb, 4, none⟩ = some (.pointer (some ⟨kb, 0, none⟩))) (hnF : ¬ Fk nb) (st : Ldg) (T : List Bs) (hT : LOk T st) (hTl : T.length ≤ 700000) (hK : KN w Fk kb st (capT T))
    (rs : List Rpl) (ra : Option Addr) (rc cb : Nat) (hI : RpI w rs ra) (hrl : rs.length ≤ 1100000000) (hrT : ∀ r ∈ rs, r.text ∈ T) (hcb : w.heap[cb]? = some (.cells #[.slice ra rs.length rc] 37)) (src srv : Bs) (now : Int) (hn0 : -9223372036854775808 ≤ now) :
    Calls Tryz.prog 50 #[.pointer (some ⟨nb, 0, none⟩), .string ⟨src.toArray⟩, .string ⟨srv.toArray⟩, .int .i64 now, .func (.func 47) #[] #[.pointer (some ⟨cb, 0, none⟩)]] w fun e w' => LfR w Fk kb (fromS rs now srv st src) (capT T) e w' := by
  have HAK := hide (asked_c W hN w hW rs ra rc cb hI hrl hcb src srv)
  have HH := hide (And.intro hFk (And.intro hnF (And.intro hT (And.intro hK hrT))))
  clear hFk hnF hT hK hrT hI hcb
  go_enter Tryz.func50, Tryz.ntmps50
  go_wp2_with fail
  refine HAK.out.mono ?_
  rintro e w1 ⟨K1, h1⟩
  have HK1 := hide K1
  have n41 := K1.cel n4
  have hW1 := below_kp hW K1
  clear HAK K1
  rcases h1 with ⟨t, hf, rfl⟩ | ⟨a, hf, rfl⟩
  · have hm : t ∈ T := by
      obtain ⟨r, hr, rfl⟩ := fetF_mem hf
      exact HH.out.2.2.2.2 r hr
    have HD := hide (readDocument_c W hN.n2 ⟨t.toArray⟩ w1 hW1)
    have e9 : (⟨t.toArray⟩ : ByteArray).data.toList = t := by simp
    rw [e9] at HD
    clear e9
    have HF := hide (And.intro hf hm)
    clear hf hm
    go_wp2_with fail
    refine HD.out.mono ?_
    rintro e w2 ⟨K2, h2⟩
    have HK2 := hide (HK1.out.trans K2)
    have n42 := K2.cel n41
    have hW2 := below_kp hW1 K2
    clear HD K2 n41 hW1 HK1
    cases hr : readF t with
    | error n =>
      rw [hr] at h2
      obtain ⟨ev, rfl, he, tt, u, rfl⟩ := h2
      have hls : fromS rs now srv st src = (false, st) := by unfold fromS; rw [HF.out.1]; simp only [hr]
      have HL := hide hls
      clear he hr hls
      go_wp2
      go_ret
      rw [HL.out]
      refine ⟨Fk, (HK2.out.mono (fun _ _ h => h.elim)).alloc _, fun _ h => Or.inl h, fun k h => ?_, HH.out.2.2.2.1.kp (fun k h => (HH.out.1 k h).2) (HK2.out.alloc _), Or.inr ⟨rfl, _, _, rfl⟩⟩
      have := (HH.out.1 k h).2
      have := (HK2.out.alloc (.cells #[.string ⟨#[]⟩, .int .i64 0, .slice none 0 0] 83)).size
      omega
    | ok d =>
      obtain ⟨sn, un, ks⟩ := d
      rw [hr] at h2
      obtain ⟨v, rfl, row⟩ := h2
      obtain ⟨q1, q2, q3, q4, q5⟩ := readF_ok hr
      obtain ⟨va, vc, rfl, _⟩ := own_slice4 row
      have Kd : Kp (fun _ => False) w2 (w2.alloc (.cells #[.string ⟨sn.toArray⟩, .int .i64 un, .slice va ks.length vc] 83)) := (Kp.refl _ _).alloc _
      have Id := heap_alloc_new w2 (.cells #[.string ⟨sn.toArray⟩, .int .i64 un, .slice va ks.length vc] 83)
      by_cases hs : sn = srv
      · have hs' : (sn == srv) = true := by simpa using hs
        have hcap : capT T + ks.length ≤ 900000000 := by
          have : capT T ≤ 1100 * 700000 := Nat.mul_le_mul_left 1100 hTl
          omega
        have hls : fromS rs now srv st src = (decide ((takeS st sn ks t now).1 = 0), (takeS st sn ks t now).2) := by
          unfold fromS; rw [HF.out.1]; simp only [hr]; rw [if_pos hs]
        have HL := hide (And.intro hls (LOk.take HH.out.2.2.1 HF.out.2 hr now))
        have HTI : Hid (∀ X, Kp (fun _ => False) (w2.alloc (.cells #[.string ⟨sn.toArray⟩, .int .i64 un, .slice va ks.length vc] 83)) X → Calls Tryz.prog 36 #[.pointer (some ⟨kb, 0, none⟩), .agg #[.string ⟨sn.toArray⟩, .int .i64 un, .slice va ks.length vc], .string ⟨t.toArray⟩, .int .i64 now] X fun e w' => TiR W X Fk kb (takeS st sn ks t now) (capT T + ks.length + 1) e w') := fun X hX =>
          takeIn_c W hN X (below_kp hW2 (Kd.trans hX)) Fk (fun k hf => ⟨(HH.out.1 k hf).1, Nat.lt_of_lt_of_le (HH.out.1 k hf).2 (Nat.le_trans HK2.out.size (Kd.trans hX).size)⟩) kb st (capT T) (HH.out.2.2.2.1.kp (fun k h => (HH.out.1 k h).2) (HK2.out.trans (Kd.trans hX))) sn un t now hn0 _ _ ks (ownsRow_kp row (Kd.trans hX) (by simp)) (by omega) (fun k hk => by have := (q2 k hk).1; omega) hcap
        have n43 := Kd.cel n42
        clear hls hr hs row q1 q2 q3 q5
        go_wp2_with fail
        generalize (w2.alloc (.cells #[.string ⟨sn.toArray⟩, .int .i64 un, .slice va ks.length vc] 83)) = wd at *
        obtain ⟨x0, x1, x2, xf0, xf1, xf2, hxb⟩ := dfacts Id
        go_region_law (refine step_callF rfl 36 _ _ rfl #[.pointer (some ⟨kb, 0, none⟩), .agg #[.string ⟨sn.toArray⟩, .int .i64 un, .slice va ks.length vc], .string ⟨t.toArray⟩, .int .i64 now] (by go_simp) ?_; refine (HTI.out _ ((Kp.refl _ wd).drew)).mono ?_; rintro e w3 ⟨Fk', t1, t2, t3, t4, t5, t6⟩; obtain ⟨ev, rfl, hev⟩ : ∃ ev, e = .returned ev ∧ (((takeS st sn ks t now).1 = 0 ∧ ev = .nilIface) ∨ ((takeS st sn ks t now).1 = 6 ∧ ∃ t u, ev = .iface t u)) := ti_ev t6; have HT := hide (And.intro t1 (And.intro t2 (And.intro t3 (And.intro t5 hev)))); clear t1 t2 t3 t4 t5 t6 hev)
        all_goals go_wp2
        all_goals go_ret
        all_goals
          rw [HL.out.1]
          have K0 : Kp (fun _ => False) w wd.drew := (HK2.out.trans Kd).drew
          refine ⟨Fk', (K0.mono (fun _ _ h => h.elim)).trans HT.out.1, fun k h => (HT.out.2.1 k h).imp id (fun h => Nat.le_trans K0.size h), HT.out.2.2.1, HT.out.2.2.2.1.tight HL.out.2, ?_⟩
          rcases HT.out.2.2.2.2 with ⟨z1, rfl⟩ | ⟨z1, tt, uu, rfl⟩
          · exact Or.inl ⟨by simp [z1], rfl⟩
          · exact Or.inr ⟨by simp [z1], _, _, rfl⟩
      · have hs' : (sn == srv) = false := by simpa using hs
        obtain ⟨ef, hef, _⟩ := hN.oth 7 (by simp)
        have hls : fromS rs now srv st src = (false, st) := by
          unfold fromS; rw [HF.out.1]; simp only [hr]; rw [if_neg hs]
        have HL := hide hls
        have hce := Below.cl (below_kp hW2 Kd) hef
        have hcf := Below.cl (below_kp hW2 (Kd.alloc (.cells #[.string ⟨#[]⟩, .nilIface] 190))) hef
        unfold errV at hce hcf
        clear hls hr hs
        go_wp2
        go_ret
        rw [HL.out]
        have K0 : ∀ o1 o2, Kp (fun _ => False) w (((w2.alloc (.cells #[.string ⟨sn.toArray⟩, .int .i64 un, .slice va ks.length vc] 83)).alloc o1).alloc o2) := fun o1 o2 => ((HK2.out.trans Kd).alloc _).alloc _
        refine ⟨Fk, (K0 _ _).mono (fun _ _ h => h.elim), fun _ h => Or.inl h, fun k h => ?_, HH.out.2.2.2.1.kp (fun k h => (HH.out.1 k h).2) (K0 _ _), Or.inr ⟨rfl, _, _, rfl⟩⟩
        exact Nat.lt_of_lt_of_le (HH.out.1 k h).2 (K0 _ _).size
  · have hls : fromS rs now srv st src = (false, st) := by unfold fromS; rw [hf]
    have HL := hide hls
    clear hls hf
    unfold errV
    go_wp2
    go_ret
    rw [HL.out]
    refine ⟨Fk, HK1.out.mono (fun _ _ h => h.elim), fun _ h => Or.inl h, fun k h => ?_, HH.out.2.2.2.1.kp (fun k h => (HH.out.1 k h).2) HK1.out, Or.inr ⟨rfl, _, _, rfl⟩⟩
    have := (HH.out.1 k h).2
    have := HK1.out.size
    omega
end Go.Proofs.YtocligpfmfmihabGreatDoor
namespace Go.Proofs.YtocligpfmfmihabGreatDoor
open Go Go.RowKit Go.Maps Go.WideMaps
attribute [local go_sem] Oper.semAt_some

/-- All that a call of fetch finds in memory beside what is known. -/
structure FE (W w : World) (Fk : Nat → Prop) (nb kb : Nat) (nm id ky : Bs) (so : Value) (xs : List Bs) (rs : List Rpl) (ra : Option Addr) (rc cb : Nat) : Prop where
  bl : Below W.heap.size W w
  fl : ∀ k, Fk k → W.heap.size ≤ k ∧ k < w.heap.size
  nblk : w.heap[nb]? = some (ntObj nm id ky so kb)
  nf : ¬ Fk nb
  rso : w.ownsRow 0 9 1 so xs.length (xs.map fun s => .string ⟨s.toArray⟩)
  fso : ∀ k, so.ownBlock = some k → ¬ Fk k ∧ k < w.heap.size
  hcb : w.heap[cb]? = some (.cells #[.slice ra rs.length rc] 37)
  cf : ¬ Fk cb
  hI : RpI w rs ra
  rf : rs ≠ [] → ∀ g o, ra = some ⟨g, o, none⟩ → ¬ Fk g ∧ g < w.heap.size
/-- What the asking whether it is enough finds in memory. -/
structure CE (w : World) (Fk : Nat → Prop) (nb pb ib : Nat) (cl : Clm) (sv : Value) : Prop where
  pblk : w.heap[pb]? = some (.cells #[.pointer (some ⟨nb, 0, none⟩)] 27)
  pf : ¬ Fk pb
  iblk : w.heap[ib]? = some (clObj cl sv)
  nf : ¬ Fk ib
  row : w.ownsRow 0 120 2 sv cl.sigs.length (cl.sigs.flatMap sgC)
  sf : ∀ k, sv.ownBlock = some k → ¬ Fk k ∧ k < w.heap.size
theorem RpI.kps {w w' : World} {S : Nat → Prop} {rs : List Rpl} {ra : Option Addr} (h : RpI w rs ra) (K : Kp S w w') (hS : rs ≠ [] → ∀ g o, ra = some ⟨g, o, none⟩ → ¬ S g) : RpI w' rs ra := by
  intro j r hr
  obtain ⟨g, o, e, hm⟩ := h j r hr
  exact ⟨g, o, e, fun m u hu => (K.cell (lt_cell (hm m u hu)) (hS (by rintro rfl; cases hr) g o e)).trans (hm m u hu)⟩
theorem below_fq {W w w' : World} {F : Nat → Prop} (h : Below W.heap.size W w) (K : Kp F w w') (hF : ∀ k, F k → W.heap.size ≤ k) : Below W.heap.size W w' :=
  ⟨K.os.trans h.os, K.tape.trans h.tape, K.output.trans h.output, Nat.le_trans h.size K.size, fun k hk => (K.block k (Nat.lt_of_lt_of_le hk h.size) (fun hf => by have := hF k hf; omega)).trans (h.block k hk)⟩
theorem hp_kp {w w' : World} {S : Nat → Prop} {k : Nat} {o : Obj} (h : w.heap[k]? = some o) (K : Kp S w w') (hS : ¬ S k) : w'.heap[k]? = some o := (K.block k (lt_heap h) hS).trans h
theorem FE.kp {W w w' : World} {Fk Fk' : Nat → Prop} {nb kb : Nat} {nm id ky : Bs} {so : Value} {xs : List Bs} {rs : List Rpl} {ra : Option Addr} {rc cb : Nat} (h : FE W w Fk nb kb nm id ky so xs rs ra rc cb) (K : Kp Fk w w') (h1 : ∀ k, Fk' k → Fk k ∨ w.heap.size ≤ k) (h2 : ∀ k, Fk' k → k < w'.heap.size) : FE W w' Fk' nb kb nm id ky so xs rs ra rc cb := by
  have hn : ∀ k, k < w.heap.size → ¬ Fk k → ¬ Fk' k := fun k hk hf hf' => (h1 k hf').elim hf (fun h => by omega)
  refine ⟨below_fq h.bl K (fun k hf => (h.fl k hf).1), fun k hf => ⟨?_, h2 k hf⟩, hp_kp h.nblk K h.nf, hn _ (lt_heap h.nblk) h.nf, ownsRow_kp h.rso K (fun k e => (h.fso k e).1), fun k e => ⟨hn k (h.fso k e).2 (h.fso k e).1, Nat.lt_of_lt_of_le (h.fso k e).2 K.size⟩, hp_kp h.hcb K h.cf, hn _ (lt_heap h.hcb) h.cf, h.hI.kps K (fun h0 g o e => (h.rf h0 g o e).1), fun h0 g o e => ⟨hn g (h.rf h0 g o e).2 (h.rf h0 g o e).1, Nat.lt_of_lt_of_le (h.rf h0 g o e).2 K.size⟩⟩
  rcases h1 k hf with hf | hf
  · exact (h.fl k hf).1
  · exact Nat.le_trans h.bl.size hf
theorem CE.kp {w w' : World} {Fk Fk' : Nat → Prop} {nb pb ib : Nat} {cl : Clm} {sv : Value} (h : CE w Fk nb pb ib cl sv) (K : Kp Fk w w') (h1 : ∀ k, Fk' k → Fk k ∨ w.heap.size ≤ k) : CE w' Fk' nb pb ib cl sv := by
  have hn : ∀ k, k < w.heap.size → ¬ Fk k → ¬ Fk' k := fun k hk hf hf' => (h1 k hf').elim hf (fun h => by omega)
  exact ⟨hp_kp h.pblk K h.pf, hn _ (lt_heap h.pblk) h.pf, hp_kp h.iblk K h.nf, hn _ (lt_heap h.iblk) h.nf, ownsRow_kp h.row K (fun k e => (h.sf k e).1), fun k e => ⟨hn k (h.sf k e).2 (h.sf k e).1, Nat.lt_of_lt_of_le (h.sf k e).2 K.size⟩⟩
set_option maxRecDepth 20000 in
theorem enough_c (w : World) (Fk : Nat → Prop) (nb kb : Nat) (nm id ky : Bs) (so : Value) (st : Ldg) (c : Nat) (hK : KN w Fk kb st c) (hn : w.heap[nb]? = some (ntObj nm id ky so kb)) (pb ib : Nat) (cl : Clm) (hcl : ClK cl) (h0 : 0 < cl.sigs.length) (sv : Value) (hE : CE w Fk nb pb ib cl sv) :
    Calls Tryz.prog 27 #[.pointer (some ⟨pb, 0, none⟩), .pointer (some ⟨ib, 0, none⟩)] w fun e w' => e = .returned (.bool (hasS st cl)) ∧ Kp (fun _ => False) w w' := by
  obtain ⟨n0, n1, n2, n3, n4⟩ := nt_facts hn
  obtain ⟨cp, _⟩ := one_cells hE.pblk
  obtain ⟨sa, sc, rfl, hsm, hsa⟩ := own_sl hE.row
  obtain ⟨i0, i1, i2, i3, _⟩ := cl_facts hE.iblk
  have HW : Hid (∀ X, Kp (fun _ => False) w X → Calls Tryz.prog 25 #[.pointer (some ⟨kb, 0, none⟩), clV cl (.slice sa cl.sigs.length sc)] X fun e w' => e = .returned (.bool (wantS st cl)) ∧ Kp (fun _ => False) X w') := fun X hX => wants_c X Fk kb st c (hK.kp2 hX) cl hcl 0 _ (ownsRow_kp hE.row hX (by simp))
  have hw : (!wantS st cl) = hasS st cl := by unfold wantS; simp [h0]
  have HE := hide hE
  clear hE hK
  go_enter Tryz.func27, Tryz.ntmps27
  go_wp2_with fail
  go_region_law (refine step_callF rfl 25 _ _ rfl #[.pointer (some ⟨kb, 0, none⟩), .agg #[.string ⟨cl.server.toArray⟩, .int .i64 cl.ts, .string ⟨cl.msg.toArray⟩, .slice sa cl.sigs.length sc]] (by go_simp) ?_; refine (HW.out _ ((Kp.refl _ w).drew)).mono ?_; rintro e w3 ⟨rfl, t1⟩; have HT := hide t1; clear t1)
  all_goals go_wp2
  all_goals go_ret
  all_goals exact ⟨rfl, ((Kp.refl _ w).drew).trans HT.out⟩
end Go.Proofs.YtocligpfmfmihabGreatDoor
namespace Go.Proofs.YtocligpfmfmihabGreatDoor
open Go Go.RowKit Go.Maps Go.WideMaps
attribute [local go_sem] Oper.semAt_some

theorem FE.pns {W w : World} {Fk : Nat → Prop} {nb kb : Nat} {nm id ky : Bs} {so : Value} {xs : List Bs} {rs : List Rpl} {ra : Option Addr} {rc cb : Nat} {st : Ldg} {c : Nat} (h : FE W w Fk nb kb nm id ky so xs rs ra rc cb) (hk : KN w Fk kb st c) : PNs w (fun k => Fk k ∨ k = nb ∨ so.ownBlock = some k) Fk nb kb nm id ky so xs st c :=
  ⟨h.nblk, hk, h.rso, Or.inr (Or.inl rfl), fun k e => ⟨Or.inr (Or.inr e), (h.fso k e).1⟩, fun k hf => Or.inl hf, h.nf, fun k hf => by
    rcases hf with hf | rfl | hf
    · exact (h.fl k hf).2
    · exact lt_heap h.nblk
    · exact (h.fso k hf).2⟩
/-- What fetch and its loop have at hand. -/
structure FI (W w : World) (Fk : Nat → Prop) (nb kb : Nat) (nm id ky : Bs) (so : Value) (xs : List Bs) (rs : List Rpl) (ra : Option Addr) (rc cb pb ib : Nat) (cl : Clm) (sv : Value) (T : List Bs) (st : Ldg) : Prop where
  fe : FE W w Fk nb kb nm id ky so xs rs ra rc cb
  ce : CE w Fk nb pb ib cl sv
  kn : KN w Fk kb st (capT T)
  ok : LOk T st
theorem FI.kp {W w w' : World} {Fk Fk' : Nat → Prop} {nb kb : Nat} {nm id ky : Bs} {so : Value} {xs : List Bs} {rs : List Rpl} {ra : Option Addr} {rc cb pb ib : Nat} {cl : Clm} {sv : Value} {T : List Bs} {st st' : Ldg} (h : FI W w Fk nb kb nm id ky so xs rs ra rc cb pb ib cl sv T st) (K : Kp Fk w w') (h1 : ∀ k, Fk' k → Fk k ∨ w.heap.size ≤ k) (h2 : ∀ k, Fk' k → k < w'.heap.size) (hk : KN w' Fk' kb st' (capT T)) (ho : LOk T st') : FI W w' Fk' nb kb nm id ky so xs rs ra rc cb pb ib cl sv T st' :=
  ⟨h.fe.kp K h1 h2, h.ce.kp K h1, hk, ho⟩
theorem FI.kp0 {W w w' : World} {Fk : Nat → Prop} {nb kb : Nat} {nm id ky : Bs} {so : Value} {xs : List Bs} {rs : List Rpl} {ra : Option Addr} {rc cb pb ib : Nat} {cl : Clm} {sv : Value} {T : List Bs} {st : Ldg} (h : FI W w Fk nb kb nm id ky so xs rs ra rc cb pb ib cl sv T st) (K : Kp (fun _ => False) w w') : FI W w' Fk nb kb nm id ky so xs rs ra rc cb pb ib cl sv T st :=
  h.kp (K.mono (fun _ _ h => h.elim)) (fun _ h => Or.inl h) (fun k hf => Nat.lt_of_lt_of_le (h.fe.fl k hf).2 K.size) (h.kn.kp2 K) h.ok
/-- What fetch comes to. -/
def FtR (W w : World) (Fk : Nat → Prop) (nb kb : Nat) (nm id ky : Bs) (so : Value) (xs : List Bs) (rs : List Rpl) (ra : Option Addr) (rc cb pb ib : Nat) (cl : Clm) (sv : Value) (T : List Bs) (st : Ldg) (w' : World) : Prop := ∃ Fk' : Nat → Prop, Kp Fk w w' ∧ (∀ k, Fk' k → Fk k ∨ w.heap.size ≤ k) ∧ FI W w' Fk' nb kb nm id ky so xs rs ra rc cb pb ib cl sv T st
def FtE (W w : World) (Fk : Nat → Prop) (nb kb : Nat) (nm id ky : Bs) (so : Value) (xs : List Bs) (rs : List Rpl) (ra : Option Addr) (rc cb pb ib : Nat) (cl : Clm) (sv : Value) (T : List Bs) (r : Nat × Ldg) (e : Ending) (w' : World) : Prop := e = .returned (.int .i64 (r.1 : Int)) ∧ FtR W w Fk nb kb nm id ky so xs rs ra rc cb pb ib cl sv T r.2 w'
theorem ft_step {W w2 w3 w4 : World} {Fk Fs : Nat → Prop} {nb kb : Nat} {nm id ky : Bs} {so : Value} {xs : List Bs} {rs : List Rpl} {ra : Option Addr} {rc cb pb ib : Nat} {cl : Clm} {sv : Value} {T : List Bs} {st : Ldg} (K : Kp Fk w2 w3) (h1 : ∀ k, Fs k → Fk k ∨ w2.heap.size ≤ k) (h : FI W w3 Fs nb kb nm id ky so xs rs ra rc cb pb ib cl sv T st) (K4 : Kp (fun _ => False) w3 w4) : FtR W w2 Fk nb kb nm id ky so xs rs ra rc cb pb ib cl sv T st w4 :=
  ⟨Fs, K.trans (K4.mono (fun _ _ h => h.elim)), h1, h.kp0 K4⟩
theorem ft_end {W w w2 w3 w4 : World} {Fk Fs : Nat → Prop} {nb kb : Nat} {nm id ky : Bs} {so : Value} {xs : List Bs} {rs : List Rpl} {ra : Option Addr} {rc cb pb ib : Nat} {cl : Clm} {sv : Value} {T : List Bs} {st : Ldg} (K0 : Kp (fun _ => False) w w2) (K : Kp Fk w2 w3) (h1 : ∀ k, Fs k → Fk k ∨ w2.heap.size ≤ k) (h : FI W w3 Fs nb kb nm id ky so xs rs ra rc cb pb ib cl sv T st) (K4 : Kp (fun _ => False) w3 w4) : FtR W w Fk nb kb nm id ky so xs rs ra rc cb pb ib cl sv T st w4 :=
  ⟨Fs, (K0.mono (fun _ _ h => h.elim)).trans (K.trans (K4.mono (fun _ _ h => h.elim))), fun k hk => (h1 k hk).imp (fun h => h) (fun h => Nat.le_trans K0.size h), h.kp0 K4⟩
set_option maxRecDepth 20000 in
set_option maxHeartbeats 4000000 in
theorem fetch_c (W : World) (hN : NG3 W) (w : World) (Fk : Nat → Prop) (nb kb : Nat) (nm id ky : Bs) (so : Value) (xs : List Bs) (rs : List Rpl) (ra : Option Addr) (rc cb pb ib : Nat) (cl : Clm) (sv : Value) (T : List Bs) (st : Ldg) (hI : FI W w Fk nb kb nm id ky so xs rs ra rc cb pb ib cl sv T st) (hTl : T.length ≤ 700000) (hxl : xs.length ≤ 1100000000) (hrl : rs.length ≤ 1100000000) (hrT : ∀ r ∈ rs, r.text ∈ T)
    (hcl : ClK cl) (h0 : 0 < cl.sigs.length) {t : Bs} {cs : List Clm} (htT : t ∈ T) (hct : takeF t = .ok cs) (hcm : cl ∈ cs) (now : Int) (hn0 : -9223372036854775808 ≤ now) (hn1 : now ≤ 9223372036854775807) (res : Nat × Ldg) (hres : res = if soonS st cl.server now then (0, st) else fetchS rs now xs st cl) :
    Calls Tryz.prog 26 #[.pointer (some ⟨nb, 0, none⟩), .string ⟨cl.server.toArray⟩, .int .i64 now, .func (.func 47) #[] #[.pointer (some ⟨cb, 0, none⟩)], .func (.func 27) #[] #[.pointer (some ⟨pb, 0, none⟩), .pointer (some ⟨ib, 0, none⟩)]] w fun e w' =>
      FtE W w Fk nb kb nm id ky so xs rs ra rc cb pb ib cl sv T res e w' := by
  have HRS := hide hres
  clear hres
  obtain ⟨n0, n1, n2, n3, n4⟩ := nt_facts hI.fe.nblk
  have HTS := hide (tooSoon_c w Fk kb st (capT T) hI.kn cl.server (by have := hcl.srv; omega) now hn0 hn1 (fun s x h => (hI.ok.asked s x h).1))
  have HH := hide (And.intro hI (And.intro hrT (And.intro htT (And.intro hct hcm))))
  clear hI hrT htT hct hcm
  go_enter Tryz.func26, Tryz.ntmps26
  go_wp2_with fail
  refine HTS.out.mono ?_
  rintro e w1 ⟨rfl, K1⟩
  have HK1 := hide K1
  clear K1 HTS n4 n3 n2 n1 n0
  cases hso : soonS st cl.server now with
  | true =>
    rw [hso, if_pos rfl] at HRS
    go_wp2
    go_ret
    rw [HRS.out]
    exact ⟨rfl, Fk, HK1.out.mono (fun _ _ h => h.elim), fun _ h => Or.inl h, HH.out.1.kp0 HK1.out⟩
  | false =>
    rw [hso, if_neg (by decide)] at HRS
    have hi1 := HH.out.1.kp0 HK1.out
    have HSF := hide (sourcesFor_c w1 _ _ _ _ _ _ _ _ xs _ _ (hi1.fe.pns hi1.kn) hxl cl.server)
    clear hi1
    go_wp2_with fail
    refine HSF.out.mono ?_
    rintro e w2 ⟨v, rfl, K2, row⟩
    obtain ⟨va, vc, rfl, hvm, hva⟩ := own_sl row
    have hnf : ∀ k, (Value.slice va (srcsF cl.server xs).length vc).ownBlock = some k → ¬ Fk k := fun k e hf => by
      have := (row.lt k e).1
      have := (HH.out.1.fe.fl k hf).2
      have := HK1.out.size
      omega
    have HK2 := hide (And.intro (HK1.out.trans K2) (And.intro row hnf))
    have hLn : (srcsF cl.server xs).length ≤ 1100000001 := by
      unfold srcsF
      have := List.length_filter_le (fun s => decide (s ≠ cl.server)) xs
      simp only [List.length_cons]
      omega
    have HFS : Hid (res = if (askL rs now cl st (srcsF cl.server xs) 0).2.1 then ((askL rs now cl st (srcsF cl.server xs) 0).1, (askL rs now cl st (srcsF cl.server xs) 0).2.2) else ((askL rs now cl st (srcsF cl.server xs) 0).1, vainS (askL rs now cl st (srcsF cl.server xs) 0).2.2 cl.server now)) := HRS.out
    clear HSF K2 HK1 row hva hnf
    clear HRS
    generalize srcsF cl.server xs = L at *
    go_wp2_with fail
    go_loopg [11, 26] L.length (fun gg q q2 wx => ∃ (i : Nat) (st' : Ldg), gg = L.length - i ∧ i ≤ L.length ∧ q = .int .i64 (i : Int) ∧ q2 = .int .i64 (i : Int) ∧ askL rs now cl st L 0 = askL rs now cl st' (L.drop i) i ∧ FtR W w2 Fk nb kb nm id ky so xs rs ra rc cb pb ib cl sv T st' wx)
    case atStart => exact ⟨0, st, rfl, by omega, rfl, rfl, by rw [List.drop_zero], Fk, Kp.refl _ _, fun _ h => Or.inl h, HH.out.1.kp0 HK2.out.1⟩
    case round =>
      obtain ⟨i, st', hgg, hin, rfl, rfl, hak, Fr, Kr, hFr, hfi⟩ := hrel
      have HG := hide (And.intro hgg (And.intro hak (And.intro Kr (And.intro hFr hfi))))
      by_cases hlt : i < L.length
      · have hlt' : (i : Int) < (L.length : Int) := by omega
        obtain ⟨x, hx⟩ : ∃ x, L[i]? = some x := ⟨L[i], List.getElem?_eq_getElem hlt⟩
        have row' := ownsRow_kp HK2.out.2.1 Kr HK2.out.2.2
        obtain ⟨_, _, e1, _, hg⟩ := own_sl row'
        obtain ⟨g, e2, hg⟩ := hg (by omega)
        injection e1 with e1a e1b e1c
        subst e1c
        rw [← e1a] at e2
        subst e2
        have cg1 : wr.cell? ⟨g, i, none⟩ = some (.string ⟨x.toArray⟩) := own_cell row' i _ (by rw [List.getElem?_map, hx]; rfl)
        have hdr : L.drop i = x :: L.drop (i + 1) := by
          rw [List.drop_eq_getElem_cons hlt]
          have := List.getElem?_eq_getElem hlt
          rw [hx] at this
          injection this with this
          rw [this]
        have HAK : Hid (askL rs now cl st L 0 = if (fromS rs now cl.server st' x).1 && hasS (fromS rs now cl.server st' x).2 cl then (i + 1, true, (fromS rs now cl.server st' x).2) else askL rs now cl (fromS rs now cl.server st' x).2 (L.drop (i + 1)) (i + 1)) := by
          show _ = _
          rw [hak, hdr]
          rfl
        have n4r := (nt_facts hfi.fe.nblk).2.2.2.2
        have HLF := hide (learnFrom_c W hN wr hfi.fe.bl Fr nb kb hfi.fe.fl n4r hfi.fe.nf st' T hfi.ok hTl hfi.kn rs ra rc cb hfi.fe.hI hrl HH.out.2.1 hfi.fe.hcb x cl.server now hn0)
        have hlo := hfi.ok.from HH.out.2.1 now cl.server x
        have HLO := hide hlo
        clear hx hdr hak hgg Kr hFr hfi row' hlo e1a e1b
        go_wp2_with fail
        refine HLF.out.mono ?_
        rintro e w3 ⟨Fs, K3, h31, h32, h33, h34⟩
        have hfi := HG.out.2.2.2.2.kp K3 h31 h32 h33 HLO.out
        have HFR : Hid (Kp Fk w2 w3 ∧ (∀ k, Fs k → Fk k ∨ w2.heap.size ≤ k) ∧ FI W w3 Fs nb kb nm id ky so xs rs ra rc cb pb ib cl sv T (fromS rs now cl.server st' x).2) := by
          refine ⟨HG.out.2.2.1.and K3 (fun j hj hf => (HG.out.2.2.2.1 j hf).resolve_right (by omega)), fun k hk => ?_, hfi⟩
          rcases h31 k hk with h | h
          · exact HG.out.2.2.2.1 k h
          · exact Or.inr (Nat.le_trans HG.out.2.2.1.size h)
        clear K3 h31 h32 h33 HLF HLO
        rcases h34 with ⟨hf1, rfl⟩ | ⟨hf1, tt, uu, rfl⟩
        · rw [hf1, Bool.true_and] at HAK
          have HEN := hide (enough_c w3 Fs nb kb nm id ky so _ _ hfi.kn hfi.fe.nblk pb ib cl hcl h0 sv hfi.ce)
          clear hfi hf1
          go_wp2_with fail
          refine HEN.out.mono ?_
          rintro e w4 ⟨rfl, K4⟩
          have HK4 := hide K4
          clear K4 HEN
          cases hha : hasS (fromS rs now cl.server st' x).2 cl with
          | true =>
            rw [hha, if_pos rfl] at HAK
            have hres : res = (i + 1, (fromS rs now cl.server st' x).2) := by rw [HFS.out, HAK.out]; rfl
            have HR := hide hres
            clear hres hha
            go_wp2
            go_ret
            rw [HR.out]
            exact ⟨rfl, ft_end HK2.out.1 HFR.out.1 HFR.out.2.1 HFR.out.2.2 HK4.out⟩
          | false =>
            rw [hha, if_neg (by decide)] at HAK
            clear hha
            go_wp2
            go_roundg (L.length - (i + 1))
            case measure => rw [HG.out.1]; omega
            case rel => exact ⟨i + 1, _, rfl, by omega, int_i64 (by omega), int_i64 (by omega), HAK.out, ft_step HFR.out.1 HFR.out.2.1 HFR.out.2.2 HK4.out⟩
        · rw [hf1, Bool.false_and, if_neg (by decide)] at HAK
          clear hfi hf1
          go_wp2
          go_roundg (L.length - (i + 1))
          case measure => rw [HG.out.1]; omega
          case rel => exact ⟨i + 1, _, rfl, by omega, int_i64 (by omega), int_i64 (by omega), HAK.out, ⟨Fs, HFR.out.1, HFR.out.2.1, HFR.out.2.2⟩⟩
      · have hlt' : ¬ (i : Int) < (L.length : Int) := by omega
        have hres : res = (i, vainS st' cl.server now) := by
          have : askL rs now cl st L 0 = (i, false, st') := by
            rw [hak, List.drop_of_length_le (by omega)]
            rfl
          rw [HFS.out, this]
          rfl
        have hcT : capT T ≤ 900000000 := by
          have : capT T ≤ 1100 * 700000 := Nat.mul_le_mul_left 1100 hTl
          omega
        have HR := hide hres
        have n4r := (nt_facts hfi.fe.nblk).2.2.2.2
        have HIV := hide (inVain_c wr Fr kb st' (capT T) hfi.kn cl.server (by have := hcl.srv; omega) now hcT)
        clear hres hak hgg Kr hFr hfi
        go_wp2_with fail
        refine HIV.out.mono ?_
        rintro e w3 ⟨rfl, K3, hk3⟩
        have H3 := hide (And.intro K3 hk3)
        clear K3 hk3 HIV
        go_wp2
        go_ret
        rw [HR.out]
        have hlo : LOk T (vainS st' cl.server now) := HG.out.2.2.2.2.ok.vain HH.out.2.2.1 HH.out.2.2.2.1 HH.out.2.2.2.2 hn0 hn1
        have hfi := HG.out.2.2.2.2.kp H3.out.1 (fun _ h => Or.inl h) (fun k hf => Nat.lt_of_lt_of_le (HG.out.2.2.2.2.fe.fl k hf).2 H3.out.1.size) (H3.out.2.tight hlo) hlo
        exact ⟨rfl, ft_end HK2.out.1 (HG.out.2.2.1.and H3.out.1 (fun j hj hf => (HG.out.2.2.2.1 j hf).resolve_right (by omega))) HG.out.2.2.2.1 hfi (Kp.refl _ _)⟩
end Go.Proofs.YtocligpfmfmihabGreatDoor
namespace Go.Proofs.YtocligpfmfmihabGreatDoor
open Go Go.RowKit Go.Maps
attribute [local go_sem] Oper.semAt_some

theorem verL_step {rs : List Rpl} {now : Int} {xs : List Bs} {st : Ldg} {l : List Clm} {i n : Nat} {c : Clm} (h : l[i]? = some c) : verL rs now xs st (l.drop i) n = if (signS (oneS rs now xs st c).2 c).1 = 0 then verL rs now xs (oneS rs now xs st c).2 (l.drop (i + 1)) (n + (oneS rs now xs st c).1) else ((signS (oneS rs now xs st c).2 c, n + (oneS rs now xs st c).1), (oneS rs now xs st c).2) := by
  obtain ⟨hlt, he⟩ := List.getElem?_eq_some_iff.1 h
  rw [List.drop_eq_getElem_cons hlt, he]
  rfl
theorem ask_le (rs : List Rpl) (now : Int) (c : Clm) : ∀ (l : List Bs) (st : Ldg) (n : Nat), (askL rs now c st l n).1 ≤ n + l.length
  | [], st, n => by simp [askL]
  | a :: l, st, n => by
    simp only [askL]
    split
    · simp only [List.length_cons]
      omega
    · have := ask_le rs now c l (fromS rs now c.server st a).2 (n + 1)
      simp only [List.length_cons]
      omega
theorem fetch_le (rs : List Rpl) (now : Int) (xs : List Bs) (st : Ldg) (c : Clm) : (fetchS rs now xs st c).1 ≤ xs.length + 1 := by
  have h1 := ask_le rs now c (srcsF c.server xs) st 0
  have h2 : (srcsF c.server xs).length ≤ xs.length + 1 := by
    unfold srcsF
    have := List.length_filter_le (fun s => decide (s ≠ c.server)) xs
    simp only [List.length_cons]
    omega
  unfold fetchS
  split <;> simp only [] <;> omega
end Go.Proofs.YtocligpfmfmihabGreatDoor

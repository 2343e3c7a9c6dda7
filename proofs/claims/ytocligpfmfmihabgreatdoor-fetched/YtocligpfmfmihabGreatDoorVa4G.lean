import Derived.Test.YtocligpfmfmihabGreatDoorVa1G
import Derived.Test.YtocligpfmfmihabGreatDoorHon5G
import Derived.Test.YtocligpfmfmihabGreatDoorPn8G
import Derived.Test.YtocligpfmfmihabGreatDoorSemG
import Derived.Test.YtocligpfmfmihabGreatDoorHon2G
namespace Go.Proofs.YtocligpfmfmihabGreatDoor
open Go Go.RowKit Go.Maps Go.WideMaps
attribute [local go_sem] Oper.semAt_some

/-- What Verify comes to. -/
def VyR (w : World) (F : Nat → Prop) (nb : Nat) (nm id ky : Bs) (xs : List Bs) (T : List Bs) (r : ((Nat × Bs) × Nat) × Ldg) (e : Ending) (w' : World) : Prop := e = .returned (.tuple #[outV r.1.1, .int .i64 (r.1.2 : Int)]) ∧ PnR w F nb nm id ky xs r.2 (capT T) w'
theorem vy_results {w : World} {rb : Nat} {a b v : Value} (tmps : Array Value) (h2 : tmps[8]?.getD undef = .pointer (some ⟨rb, 0, none⟩)) (h3 : tmps[9]?.getD undef = v) (hb : w.heap[rb]? = some (.cells #[a, b] 32)) :
    (results Tryz.f11 tmps).run Tryz.prog w = .ok (.tuple #[.agg #[a, b], v]) w := by
  obtain ⟨⟨c0, c1⟩, _⟩ := pair_facts hb
  simp [results, Tryz.results11, go_sem, h2, h3, c0, c1]
theorem takeF_cl {t : Bs} {cs : List Clm} (h : takeF t = .ok cs) : ∀ c ∈ cs, ClK c := by
  unfold takeF at h
  split at h
  · cases h
  · rename_i l hl
    split at h
    · cases h
    · rename_i cs' hc
      injection h with h
      subst h
      obtain ⟨hwf, hlen⟩ : WF 6 (.obj l) ∧ (cJ (.obj l)).length ≤ 600 := by
        obtain ⟨hp, hl'⟩ := object_ok hl
        obtain ⟨hwf, hle⟩ := parse_ok hp
        exact ⟨hwf, by omega⟩
      unfold clmF at hc
      simp only [Option.bind_eq_some_iff, Option.map_eq_some_iff] at hc
      obtain ⟨ss, h1, t, h2, rfl⟩ := hc
      intro c hc
      obtain ⟨s, hs, rfl⟩ := List.mem_map.1 hc
      have hk := kid2 (s := s) hwf hlen
      refine ⟨(srvF_ok h1).2 s hs, Nat.le_trans (bare_fits hwf hlen).2.2.2 (by omega), fun p hp => ?_, Nat.le_trans (List.length_filterMap_le _ _) hk.2.1⟩
      obtain ⟨q, hq, hqp⟩ := List.mem_filterMap.1 hp
      unfold sgP at hqp
      split at hqp
      · injection hqp with hqp
        subst hqp
        exact hk.2.2 q hq
      · cases hqp
theorem cl_cells {w : World} {B : Nat} {g n c : Nat} {ps : List (Clm × Value)} (h : w.ownsRow B 67 4 (.slice (some ⟨g, 0, none⟩) n c) n (ps.flatMap clC)) (i : Nat) (p : Clm × Value) (hp : ps[i]? = some p) :
    w.cell? ⟨g, i * 4, none⟩ = some (.string ⟨p.1.server.toArray⟩) ∧ w.cell? ⟨g, i * 4 + 1, none⟩ = some (.int .i64 p.1.ts) ∧ w.cell? ⟨g, i * 4 + 2, none⟩ = some (.string ⟨p.1.msg.toArray⟩) ∧ w.cell? ⟨g, i * 4 + 3, none⟩ = some p.2 :=
  ⟨row_cell (f := clC) (fun _ => rfl) h i p hp 0 (by omega) _ rfl, row_cell (f := clC) (fun _ => rfl) h i p hp 1 (by omega) _ rfl, row_cell (f := clC) (fun _ => rfl) h i p hp 2 (by omega) _ rfl, row_cell (f := clC) (fun _ => rfl) h i p hp 3 (by omega) _ rfl⟩
/-- What Verify's loop finds in memory, and keeps. -/
structure VE (w wx : World) (Fk : Nat → Prop) (nb : Nat) (ps : List (Clm × Value)) (v : Value) : Prop where
  kw : Kp (fun _ => False) w wx
  fz : ∀ k, Fk k → k < w.heap.size
  pblk : wx.heap[w.heap.size]? = some (.cells #[.pointer (some ⟨nb, 0, none⟩)] 27)
  rblk : wx.heap[w.heap.size + 1]? = some (.cells #[.int .i64 0, .string ⟨#[]⟩] 32)
  row : wx.ownsRow w.heap.size 67 4 v ps.length (ps.flatMap clC)
  sigs : ∀ p ∈ ps, wx.ownsRow w.heap.size 120 2 p.2 p.1.sigs.length (p.1.sigs.flatMap sgC)
/-- The same later on. -/
structure VL (w wx : World) (F1 : Nat → Prop) (nb : Nat) (ps : List (Clm × Value)) (v : Value) : Prop where
  pblk : wx.heap[w.heap.size]? = some (.cells #[.pointer (some ⟨nb, 0, none⟩)] 27)
  pf : ¬ F1 w.heap.size
  rblk : wx.heap[w.heap.size + 1]? = some (.cells #[.int .i64 0, .string ⟨#[]⟩] 32)
  rf : ¬ F1 (w.heap.size + 1)
  row : wx.ownsRow w.heap.size 67 4 v ps.length (ps.flatMap clC)
  sigs : ∀ p ∈ ps, wx.ownsRow 0 120 2 p.2 p.1.sigs.length (p.1.sigs.flatMap sgC) ∧ ∀ k, p.2.ownBlock = some k → ¬ F1 k ∧ k < wx.heap.size
theorem row_mono {w : World} {B B' : Nat} {e : TypeId} {sz n : Nat} {v : Value} {xs : List Value} (h : w.ownsRow B e sz v n xs) (hb : B' ≤ B) : w.ownsRow B' e sz v n xs := by
  obtain ⟨h1, h2⟩ := h
  refine ⟨h1, ?_⟩
  rcases h2 with h2 | ⟨g, cap, cur, rfl, hg, r⟩
  · exact Or.inl h2
  · exact Or.inr ⟨g, cap, cur, rfl, Nat.le_trans hb hg, r⟩
theorem ck_zero {W w' : World} {o : Nat × Bs} {e : Ending} (ho : o.1 = 0) (h : (o.1 = 0 ∧ e = .returned .nilIface) ∨ (∃ q a, e = .returned (.iface 114 (.pointer (some ⟨q, 0, none⟩))) ∧ w'.heap[q]? = some (.cells #[.string ⟨o.2.toArray⟩, errV a] 118) ∧
    ((o.1 = 8 ∧ W.cell? ⟨1, 0, none⟩ = some (errV a)) ∨ (o.1 = 5 ∧ Plain W a)))) : e = .returned .nilIface := by
  rcases h with ⟨_, h⟩ | ⟨q, a, _, _, h | h⟩
  · exact h
  · exact absurd (ho.symm.trans h.1) (by decide)
  · exact absurd (ho.symm.trans h.1) (by decide)
theorem VE.kp {w w5 wx : World} {Fk F1 : Nat → Prop} {nb : Nat} {ps : List (Clm × Value)} {v : Value} (h : VE w w5 Fk nb ps v) (K : Kp Fk w5 wx) (hF : ∀ k, F1 k → Fk k ∨ w5.heap.size ≤ k) : VL w wx F1 nb ps v := by
  have hn : ∀ k, w.heap.size ≤ k → ¬ Fk k := fun k hk hf => by have := h.fz k hf; omega
  have hn1 : ∀ k, w.heap.size ≤ k → k < w5.heap.size → ¬ F1 k := fun k hk hk5 hf => (hF k hf).elim (hn k hk) (fun h => by omega)
  exact ⟨hp_kp h.pblk K (hn _ (Nat.le_refl _)), hn1 _ (Nat.le_refl _) (lt_heap h.pblk), hp_kp h.rblk K (hn _ (Nat.le_succ _)), hn1 _ (Nat.le_succ _) (lt_heap h.rblk), ownsRow_kp h.row K (fun k e => hn k (h.row.lt k e).1), fun p hp => ⟨row_mono (ownsRow_kp (h.sigs p hp) K (fun k e => hn k ((h.sigs p hp).lt k e).1)) (Nat.zero_le _), fun k e => ⟨hn1 k ((h.sigs p hp).lt k e).1 ((h.sigs p hp).lt k e).2, Nat.lt_of_lt_of_le ((h.sigs p hp).lt k e).2 K.size⟩⟩⟩
theorem vy_fin {W w w5 wx w6 : World} {F Fk F1 : Nat → Prop} {nb kb : Nat} {nm id ky : Bs} {so : Value} {xs : List Bs} {rs : List Rpl} {ra : Option Addr} {rc cb : Nat} {st st1 : Ldg} {c c1 : Nat} {ps : List (Clm × Value)} {v : Value} (hP : PNs w F Fk nb kb nm id ky so xs st c) (hV : VE w w5 Fk nb ps v) (K : Kp Fk w5 wx) (hF : ∀ k, F1 k → Fk k ∨ w5.heap.size ≤ k) (hfe : FE W wx F1 nb kb nm id ky so xs rs ra rc cb) (hk : KN wx F1 kb st1 c1) (K6 : Kp (fun _ => False) wx w6) (p q : Value) : PnR w F nb nm id ky xs st1 c1 ((w6.setCell ⟨w.heap.size + 1, 0, none⟩ p).setCell ⟨w.heap.size + 1, 1, none⟩ q) := by
  have Kx : Kp Fk w wx := (hV.kw.mono (fun _ _ h => h.elim)).trans K
  have h1 : ∀ k, F1 k → Fk k ∨ w.heap.size ≤ k := fun k hf => (hF k hf).imp (fun h => h) (fun h => Nat.le_trans hV.kw.size h)
  have hx := (hP.after Kx h1 (fun k hf => (hfe.fl k hf).2) hk).kp K6
  have hne : ∀ k, F k ∨ F1 k → k ≠ w.heap.size + 1 := by
    rintro k (hf | hf) rfl
    · have := hP.lt _ hf
      omega
    · exact (hV.kp K hF).rf hf
  refine ⟨fun k => F k ∨ F1 k, Kp.setCell (p := ⟨w.heap.size + 1, 1, none⟩) (Kp.setCell (p := ⟨w.heap.size + 1, 0, none⟩) ((Kx.mono (fun k _ h => hP.fk k h)).trans (K6.mono (fun _ _ h => h.elim))) (fun e => absurd e (Nat.not_lt.2 (Nat.le_succ _))) _) (fun e => absurd e (Nat.not_lt.2 (Nat.le_succ _))) _, fun k hf => ?_, F1, kb, so, hx.frame (by rw [World.size_setCell, World.size_setCell]; exact Nat.le_refl _) (fun k h => ?_)⟩
  · rcases hf with hf | hf
    · exact Or.inl hf
    · exact (h1 k hf).imp (fun h => hP.fk k h) (fun h => h)
  · rw [heap_set_other (by exact hne k h), heap_set_other (by exact hne k h)]
set_option maxRecDepth 20000 in
set_option maxHeartbeats 4000000 in
theorem verify_c (W : World) (hN : NG3 W) (w : World) (hW : Below W.heap.size W w) (F : Nat → Prop) (hFl : ∀ k, F k → W.heap.size ≤ k) (nb : Nat) (nm id ky : Bs) (xs : List Bs) (st : Ldg) (T : List Bs) (hT : LOk T st) (hTl : T.length ≤ 700000) (hP : PN w F nb nm id ky xs st (capT T)) (hxl : xs.length ≤ 1100000000)
    (rs : List Rpl) (ra : Option Addr) (rc : Nat) (hI : RpI w rs ra) (hrf : rs ≠ [] → ∀ g o, ra = some ⟨g, o, none⟩ → ¬ F g ∧ g < w.heap.size) (hrl : rs.length ≤ 1100000000) (hrT : ∀ r ∈ rs, r.text ∈ T) (text : Bs) (htT : text ∈ T) (now : Int) (hn0 : -9223372036854775808 ≤ now) (hn1 : now ≤ 9223372036854775807) (res : ((Nat × Bs) × Nat) × Ldg) (hres : res = verifyS rs now xs st text) :
    Calls Tryz.prog 11 #[.pointer (some ⟨nb, 0, none⟩), .string ⟨text.toArray⟩, .int .i64 now, .slice ra rs.length rc] w fun e w' => VyR w F nb nm id ky xs T res e w' := by
  obtain ⟨Fk, kb, so, hp⟩ := hP
  have HRS := hide hres
  have HH := hide (And.intro hp (And.intro hI (And.intro hrf (And.intro hrT (And.intro htT hT)))))
  clear hres hp hI hrf hrT htT hT
  have K0 : Kp (fun _ => False) w ((w.alloc (.cells #[.pointer (some ⟨nb, 0, none⟩)] 27)).alloc (.cells #[.int .i64 0, .string ⟨#[]⟩] 32)) := ((Kp.refl _ _).alloc _).alloc _
  have I0 : ((w.alloc (.cells #[.pointer (some ⟨nb, 0, none⟩)] 27)).alloc (.cells #[.int .i64 0, .string ⟨#[]⟩] 32)).heap[w.heap.size]? = some (.cells #[.pointer (some ⟨nb, 0, none⟩)] 27) := ((Kp.refl (fun _ => False) _).alloc _).heap (heap_alloc_new w _)
  have I1 : ((w.alloc (.cells #[.pointer (some ⟨nb, 0, none⟩)] 27)).alloc (.cells #[.int .i64 0, .string ⟨#[]⟩] 32)).heap[w.heap.size + 1]? = some (.cells #[.int .i64 0, .string ⟨#[]⟩] 32) := by
    have := heap_alloc_new (w.alloc (.cells #[.pointer (some ⟨nb, 0, none⟩)] 27)) (.cells #[.int .i64 0, .string ⟨#[]⟩] 32)
    rwa [World.size_alloc] at this
  have HRE := hide (readEvent_c W hN.n2 text _ (below_kp hW K0))
  have HK0 := hide (And.intro K0 (And.intro I0 I1))
  clear K0 I0 I1
  go_enter Tryz.func11, Tryz.ntmps11
  go_wp2_with fail
  generalize ((w.alloc (.cells #[.pointer (some ⟨nb, 0, none⟩)] 27)).alloc (.cells #[.int .i64 0, .string ⟨#[]⟩] 32)) = w0 at *
  refine HRE.out.mono ?_
  rintro e w1 ⟨K1, h1⟩
  have HK1 := hide K1
  clear K1 HRE
  cases htk : takeF text with
  | error n =>
    rw [htk] at h1
    obtain ⟨tt, uu, rfl, he⟩ := h1
    have hr : res = (((n, []), 0), st) := by rw [HRS.out]; unfold verifyS; rw [htk]
    have HR := hide hr
    have HOC := hide (outcome_ev W hN.n2 w1 (below_kp hW (HK0.out.1.trans HK1.out)) tt uu n he)
    clear hr htk he
    go_wp2_with fail
    refine HOC.out.mono ?_
    rintro e w2 ⟨rfl, K2⟩
    have I2 := K2.heap (HK1.out.heap HK0.out.2.2)
    obtain ⟨⟨b0, b1⟩, b2, b3⟩ := pair_facts I2
    have HK2 := hide (And.intro (HK0.out.1.trans (HK1.out.trans K2)) I2)
    clear K2 I2 HOC
    unfold outV
    go_wp2
    refine bodyPost_ret (vy_results _ rfl rfl (set_pair HK2.out.2)) rfl ?_
    rw [HR.out]
    have Kz := set_kp (b := w.heap.size + 1) (p := .int .i64 (n : Int)) (q := .string ⟨#[]⟩) HK2.out.1 (Nat.le_succ _)
    exact ⟨rfl, F, Kz.mono (fun _ _ h => h.elim), fun _ h => Or.inl h, Fk, kb, so, HH.out.1.kp Kz⟩
  | ok cs =>
    rw [htk] at h1
    obtain ⟨v, ps, rfl, hps, hcr⟩ := h1
    have hr : res = verL rs now xs st cs 0 := by rw [HRS.out]; unfold verifyS; rw [htk]
    have HAN := hide (answering_c w1 (.slice ra rs.length rc) ⟨_, _, _, rfl⟩)
    obtain ⟨va, vc, rfl, _, _⟩ := own_sl hcr.1
    have K5 : Kp (fun _ => False) w1 (w1.alloc (.cells #[.slice ra rs.length rc] 37)) := (Kp.refl _ _).alloc _
    have I5 := heap_alloc_new w1 (.cells #[.slice ra rs.length rc] 37)
    have hlen : ps.length ≤ 2 := by
      have := takeF_len htk
      rw [← hps, List.length_map] at this
      exact this
    have HR := hide (And.intro hr (And.intro htk (And.intro hps (And.intro hcr (And.intro K5 I5)))))
    clear hr htk hps hcr HRS K5 I5
    go_wp2_with fail
    refine HAN.out.mono ?_
    rintro e w2 ⟨rfl, rfl⟩
    clear HAN
    generalize (w1.alloc (.cells #[.slice ra rs.length rc] 37)) = w5 at *
    have hV : VE w w5 Fk nb ps (.slice va ps.length vc) := by
      have K15 : Kp (fun _ => False) w0 w5 := HK1.out.trans HR.out.2.2.2.2.1
      have hrow := HR.out.2.2.2.1
      have hs0 := HK0.out.1.size
      have hz : ∀ k, Fk k → k < w.heap.size := fun k hf => HH.out.1.lt k (HH.out.1.fk k hf)
      refine ⟨HK0.out.1.trans K15, hz, K15.heap HK0.out.2.1, K15.heap HK0.out.2.2, ownsRow_kp (row_mono hrow.1 hs0) HR.out.2.2.2.2.1 (by simp), fun p hp => ownsRow_kp (row_mono (hrow.2 p hp) hs0) HR.out.2.2.2.2.1 (by simp)⟩
    have hF5 : FE W w5 Fk nb kb nm id ky so xs rs ra rc w1.heap.size := by
      have K05 := hV.kw
      have hz := hV.fz
      have hp5 := HH.out.1.kp K05
      refine ⟨below_kp hW K05, fun k hf => ⟨hFl k (HH.out.1.fk k hf), hp5.lt k (hp5.fk k hf)⟩, hp5.nblk, hp5.nf, hp5.rso, fun k e => ⟨(hp5.fso k e).2, hp5.lt k (hp5.fso k e).1⟩, HR.out.2.2.2.2.2, fun hf => ?_, HH.out.2.1.kps K05 (fun _ _ _ _ h => h), fun h0 g o e => ⟨fun hf => (HH.out.2.2.1 h0 g o e).1 (HH.out.1.fk g hf), Nat.lt_of_lt_of_le (HH.out.2.2.1 h0 g o e).2 K05.size⟩⟩
      have := hz _ hf
      have := HK0.out.1.size
      have := HK1.out.size
      omega
    have HVE := hide (And.intro hV hF5)
    clear hV hF5
    go_wp2_with fail
    go_loopg [13, 30] ps.length (fun gg q q2 wx => ∃ (i n : Nat) (st1 : Ldg) (F1 : Nat → Prop), gg = ps.length - i ∧ i ≤ ps.length ∧ q = .int .i64 (n : Int) ∧ q2 = .int .i64 (i : Int) ∧ n ≤ i * 1100000001 ∧ Kp Fk w5 wx ∧ (∀ k, F1 k → Fk k ∨ w5.heap.size ≤ k) ∧ FE W wx F1 nb kb nm id ky so xs rs ra rc w1.heap.size ∧ KN wx F1 kb st1 (capT T) ∧ LOk T st1 ∧ verL rs now xs st cs 0 = verL rs now xs st1 (cs.drop i) n)
    case atStart => exact ⟨0, 0, st, Fk, rfl, by omega, rfl, rfl, by omega, Kp.refl _ _, fun _ h => Or.inl h, HVE.out.2, (HH.out.1.kp HVE.out.1.kw).kn, HH.out.2.2.2.2.2, rfl⟩
    case round =>
      obtain ⟨i, n, st1, F1, hgg, hin, rfl, rfl, hnb, Kr, hF1, hfe, hkn, hlo, hver⟩ := hrel
      have hv := HVE.out.1.kp Kr hF1
      by_cases hlt : i < ps.length
      · have hlt' : (i : Int) < (ps.length : Int) := by omega
        obtain ⟨⟨cl, sv⟩, hx⟩ : ∃ x, ps[i]? = some x := ⟨ps[i], List.getElem?_eq_getElem hlt⟩
        obtain ⟨hsr, hsf⟩ := hv.sigs _ (List.mem_of_getElem? hx)
        obtain ⟨sa, sc, hsv, _, _⟩ := own_sl hsr
        replace hsv : sv = .slice sa cl.sigs.length sc := hsv
        subst hsv
        obtain ⟨_, _, e1, _, hg⟩ := own_sl hv.row
        obtain ⟨g, e2, hg⟩ := hg (by omega)
        injection e1 with e1a e1b e1c
        subst e1c
        rw [← e1a] at e2
        subst e2
        obtain ⟨c0, c1, c2, c3⟩ := cl_cells hv.row i _ hx
        have hcsi : cs[i]? = some cl := by rw [← HR.out.2.2.1, List.getElem?_map, hx]; rfl
        have hstep := verL_step (rs := rs) (now := now) (xs := xs) (st := st1) (n := n) hcsi
        have hclk := takeF_cl HR.out.2.1 cl (List.mem_of_getElem? hcsi)
        have Kd : Kp (fun _ => False) wr (wr.alloc (clObj cl (.slice sa cl.sigs.length sc))) := (Kp.refl _ _).alloc _
        have Id := heap_alloc_new wr (clObj cl (.slice sa cl.sigs.length sc))
        have hfd : FI W (wr.alloc (clObj cl (.slice sa cl.sigs.length sc))) F1 nb kb nm id ky so xs rs ra rc w1.heap.size w.heap.size wr.heap.size cl (.slice sa cl.sigs.length sc) T st1 := by
          refine ⟨hfe.kp (Kd.mono (fun _ _ h => h.elim)) (fun _ h => Or.inl h) (fun k hf => Nat.lt_of_lt_of_le (hfe.fl k hf).2 Kd.size), ⟨Kd.heap hv.pblk, hv.pf, Id, fun hf => ?_, ownsRow_kp hsr Kd (by simp), fun k e => ⟨(hsf k e).1, Nat.lt_of_lt_of_le (hsf k e).2 Kd.size⟩⟩, hkn.kp2 Kd, hlo⟩
          have := (hfe.fl _ hf).2
          omega
        have HWT : Hid (∀ X, Kp (fun _ => False) (wr.alloc (clObj cl (.slice sa cl.sigs.length sc))) X → Calls Tryz.prog 25 #[.pointer (some ⟨kb, 0, none⟩), clV cl (.slice sa cl.sigs.length sc)] X fun e w' => e = .returned (.bool (wantS st1 cl)) ∧ Kp (fun _ => False) X w') := fun X hX => wants_c X F1 kb st1 (capT T) (hfd.kn.kp2 hX) cl hclk 0 _ (ownsRow_kp hfd.ce.row hX (by simp))
        have HG := hide (And.intro hgg (And.intro Kr (And.intro hF1 (And.intro Kd (And.intro hfd (And.intro hver hv))))))
        have HX := hide (And.intro hcsi (And.intro hclk (And.intro hstep (List.mem_of_getElem? hcsi))))
        obtain ⟨n0, n1, n2, n3, n4⟩ := nt_facts hfd.fe.nblk
        obtain ⟨cp, _⟩ := one_cells hfd.ce.pblk
        obtain ⟨i0, i1, i2, i3, _⟩ := cl_facts hfd.ce.iblk
        clear hgg Kr hF1 hfe hkn hlo hver hv hfd hx hsr hsf hcsi hstep hclk e1a e1b Kd Id
        unfold clObj at *
        go_wp2_with fail
        generalize hwd : (wr.alloc (.cells #[.string ⟨cl.server.toArray⟩, .int .i64 cl.ts, .string ⟨cl.msg.toArray⟩, .slice sa cl.sigs.length sc] 67)) = wd at *
        clear hwd
        refine wp_md ?_ (fun Y => Kp (fun _ => False) wd Y) ?_ ?_
        rotate_left
        · go_region_law (refine step_callF rfl 25 _ _ rfl #[.pointer (some ⟨kb, 0, none⟩), .agg #[.string ⟨cl.server.toArray⟩, .int .i64 cl.ts, .string ⟨cl.msg.toArray⟩, .slice sa cl.sigs.length sc]] (by go_simp) ?_; refine (HWT.out _ ((Kp.refl _ wd).drew)).mono ?_; rintro e w3 ⟨rfl, t1⟩)
          all_goals exact md_normal (C := fun Y => Kp (fun _ => False) wd Y) (((Kp.refl _ wd).drew).trans t1)
        intro w3 K3
        have HK3 := hide K3
        clear HWT n0 n1 n2 n3 n4 cp i0 i1 i2 i3 c0 c1 c2 c3 K3
        cases hwb : wantS st1 cl with
        | false =>
          have h1S : oneS rs now xs st1 cl = (0, st1) := by unfold oneS; rw [hwb]; rfl
          have hn2 : n ≤ (i + 1) * 1100000001 := Nat.le_trans hnb (Nat.mul_le_mul_right _ (Nat.le_succ i))
          obtain ⟨F2, hF2⟩ : ∃ F2, F2 = F1 := ⟨_, rfl⟩
          obtain ⟨st2, hs2⟩ : ∃ st2, st2 = st1 := ⟨_, rfl⟩
          obtain ⟨w4, hw4⟩ : ∃ w4, w4 = w3 := ⟨_, rfl⟩
          have H5 : Hid (Kp Fk w5 w4 ∧ (∀ k, F2 k → Fk k ∨ w5.heap.size ≤ k) ∧ FI W w4 F2 nb kb nm id ky so xs rs ra rc w1.heap.size w.heap.size wr.heap.size cl (.slice sa cl.sigs.length sc) T st2 ∧ oneS rs now xs st1 cl = (0, st2)) := by
            subst hF2 hs2 hw4
            exact ⟨HG.out.2.1.trans ((HG.out.2.2.2.1.trans HK3.out).mono (fun _ _ h => h.elim)), HG.out.2.2.1, HG.out.2.2.2.2.1.kp0 HK3.out, h1S⟩
          rw [← hw4]
          clear h1S hwb hF2 hw4 hs2
          have HCK : Hid (∀ X, Kp (fun _ => False) w4 X → Calls Tryz.prog 28 #[.pointer (some ⟨kb, 0, none⟩), clV cl (.slice sa cl.sigs.length sc)] X fun e w' => CkR W X (signS st2 cl) e w') := fun X hX => kcheck_c W hN X (below_kp H5.out.2.2.1.fe.bl hX) F2 kb st2 (capT T) (H5.out.2.2.1.kn.kp2 hX) (fun s i p h => (H5.out.2.2.1.ok.keys s i p h).1) cl HX.out.2.1 0 _ (ownsRow_kp H5.out.2.2.1.ce.row hX (by simp))
          obtain ⟨n0, n1, n2, n3, n4⟩ := nt_facts H5.out.2.2.1.fe.nblk
          obtain ⟨cp, _⟩ := one_cells H5.out.2.2.1.ce.pblk
          obtain ⟨i0, i1, i2, i3, _⟩ := cl_facts H5.out.2.2.1.ce.iblk
          by_cases ho : (signS st2 cl).1 = 0
          · have hvv : verL rs now xs st cs 0 = verL rs now xs st2 (cs.drop (i + 1)) n := by
              rw [HG.out.2.2.2.2.2.1, HX.out.2.2.1, H5.out.2.2.2]
              simp only []
              rw [if_pos ho]
              rfl
            have HVV := hide hvv
            clear hvv
            go_wp2_with fail
            refine wp_md ?_ (fun Y => Kp (fun _ => False) w4 Y) ?_ ?_
            rotate_left
            · go_region_law (refine step_callF rfl 28 _ _ rfl #[.pointer (some ⟨kb, 0, none⟩), .agg #[.string ⟨cl.server.toArray⟩, .int .i64 cl.ts, .string ⟨cl.msg.toArray⟩, .slice sa cl.sigs.length sc]] (by go_simp) ?_; refine (HCK.out _ ((Kp.refl _ w4).drew)).mono ?_; rintro e w7 ⟨t1, t2⟩; obtain rfl := ck_zero ho t2)
              all_goals exact md_normal (C := fun Y => Kp (fun _ => False) w4 Y) (((Kp.refl _ w4).drew).trans t1)
            intro w7 K7
            have HK7 := hide K7
            clear K7 HCK n0 n1 n2 n3 n4 cp i0 i1 i2 i3 ho
            go_wp2
            go_roundg (ps.length - (i + 1))
            case measure => rw [HG.out.1]; omega
            case rel =>
              have hfi := H5.out.2.2.1.kp0 HK7.out
              exact ⟨i + 1, n, st2, F2, rfl, by omega, rfl, int_i64 (by omega), hn2, H5.out.1.trans (HK7.out.mono (fun _ _ h => h.elim)), H5.out.2.1, hfi.fe, hfi.kn, hfi.ok, HVV.out⟩
          · have hrr : res = ((signS st2 cl, n), st2) := by
              rw [HR.out.1, HG.out.2.2.2.2.2.1, HX.out.2.2.1, H5.out.2.2.2]
              simp only []
              rw [if_neg ho]
              rfl
            have HVV := hide hrr
            clear hrr
            go_wp2_with fail
            go_region_law (refine step_callF rfl 28 _ _ rfl #[.pointer (some ⟨kb, 0, none⟩), .agg #[.string ⟨cl.server.toArray⟩, .int .i64 cl.ts, .string ⟨cl.msg.toArray⟩, .slice sa cl.sigs.length sc]] (by go_simp) ?_; refine (HCK.out _ ((Kp.refl _ w4).drew)).mono ?_; rintro e w7 ⟨t1, t2⟩; obtain ⟨q, a, rfl, t3, t4⟩ := t2.resolve_left (fun h => ho h.1); have HOS := hide (outcome_srv W hN w7 (below_kp H5.out.2.2.1.fe.bl (((Kp.refl _ w4).drew).trans t1)) (signS st2 cl) q a t3 t4); have HT := hide t1; clear t1 t2 t3 t4)
            all_goals go_wp2_with fail
            all_goals
              refine HOS.out.mono ?_
              rintro e w8 ⟨rfl, K8⟩
              have K48 : Kp (fun _ => False) w4 w8 := ((Kp.refl _ w4).drew).trans (HT.out.trans K8)
              have I8 := K48.heap (HVE.out.1.kp H5.out.1 H5.out.2.1).rblk
              obtain ⟨⟨b0, b1⟩, b2, b3⟩ := pair_facts I8
              have HK8 := hide (And.intro K48 I8)
              clear K8 K48 I8 HOS
              unfold outV
            all_goals go_wp2
            all_goals
              refine bodyPost_ret (vy_results _ rfl rfl (set_pair HK8.out.2)) rfl ?_
              rw [HVV.out]
              exact ⟨rfl, vy_fin HH.out.1 HVE.out.1 H5.out.1 H5.out.2.1 H5.out.2.2.1.fe H5.out.2.2.1.kn HK8.out.1 _ _⟩
        | true =>
          have h0 : 0 < cl.sigs.length := by
            unfold wantS at hwb
            simp only [Bool.and_eq_true, decide_eq_true_eq] at hwb
            exact hwb.1
          obtain ⟨⟨kq, st2⟩, hfe⟩ : ∃ r, r = if soonS st1 cl.server now then (0, st1) else fetchS rs now xs st1 cl := ⟨_, rfl⟩
          have h1S : oneS rs now xs st1 cl = (kq, st2) := by
            rw [hfe]
            unfold oneS
            rw [hwb]
            cases soonS st1 cl.server now <;> rfl
          have hkq : kq ≤ 1100000001 := by
            have h1 := fetch_le rs now xs st1 cl
            have h2 := congrArg (·.1) hfe
            simp only [] at h2
            rw [h2]
            split
            · exact Nat.zero_le _
            · omega
          have hn2 : n + kq ≤ (i + 1) * 1100000001 := by
            rw [Nat.add_mul, Nat.one_mul]
            exact Nat.add_le_add hnb hkq
          have hfi := HG.out.2.2.2.2.1.kp0 HK3.out
          have HFT := hide (fetch_c W hN w3 F1 nb kb nm id ky so xs rs ra rc w1.heap.size w.heap.size wr.heap.size cl _ T st1 hfi hTl hxl hrl HH.out.2.2.2.1 HX.out.2.1 h0 HH.out.2.2.2.2.1 HR.out.2.1 HX.out.2.2.2 now hn0 hn1 _ hfe)
          obtain ⟨cp, _⟩ := one_cells hfi.ce.pblk
          obtain ⟨i0, i1, i2, i3, _⟩ := cl_facts hfi.ce.iblk
          have H1S := hide h1S
          clear h1S hwb hfe hfi
          go_wp2_with fail
          refine HFT.out.mono ?_
          rintro e w4 ⟨rfl, F2, K4, hF2, hfi⟩
          have H5 : Hid (Kp Fk w5 w4 ∧ (∀ k, F2 k → Fk k ∨ w5.heap.size ≤ k) ∧ FI W w4 F2 nb kb nm id ky so xs rs ra rc w1.heap.size w.heap.size wr.heap.size cl (.slice sa cl.sigs.length sc) T st2 ∧ oneS rs now xs st1 cl = (kq, st2)) := by
            have K3 := HG.out.2.1.trans ((HG.out.2.2.2.1.trans HK3.out).mono (fun _ _ h => h.elim))
            refine ⟨K3.and K4 (fun j hj hf => (HG.out.2.2.1 j hf).resolve_right (by omega)), fun k hk => ?_, hfi, H1S.out⟩
            rcases hF2 k hk with h | h
            · exact HG.out.2.2.1 k h
            · exact Or.inr (Nat.le_trans K3.size h)
          clear K4 hF2 hfi HFT H1S cp i0 i1 i2 i3 h0
          have HCK : Hid (∀ X, Kp (fun _ => False) w4 X → Calls Tryz.prog 28 #[.pointer (some ⟨kb, 0, none⟩), clV cl (.slice sa cl.sigs.length sc)] X fun e w' => CkR W X (signS st2 cl) e w') := fun X hX => kcheck_c W hN X (below_kp H5.out.2.2.1.fe.bl hX) F2 kb st2 (capT T) (H5.out.2.2.1.kn.kp2 hX) (fun s i p h => (H5.out.2.2.1.ok.keys s i p h).1) cl HX.out.2.1 0 _ (ownsRow_kp H5.out.2.2.1.ce.row hX (by simp))
          obtain ⟨n0, n1, n2, n3, n4⟩ := nt_facts H5.out.2.2.1.fe.nblk
          obtain ⟨cp, _⟩ := one_cells H5.out.2.2.1.ce.pblk
          obtain ⟨i0, i1, i2, i3, _⟩ := cl_facts H5.out.2.2.1.ce.iblk
          by_cases ho : (signS st2 cl).1 = 0
          · have hvv : verL rs now xs st cs 0 = verL rs now xs st2 (cs.drop (i + 1)) (n + kq) := by
              rw [HG.out.2.2.2.2.2.1, HX.out.2.2.1, H5.out.2.2.2]
              simp only []
              rw [if_pos ho]
            have HVV := hide hvv
            clear hvv
            go_wp2_with fail
            refine wp_md ?_ (fun Y => Kp (fun _ => False) w4 Y) ?_ ?_
            rotate_left
            · go_region_law (refine step_callF rfl 28 _ _ rfl #[.pointer (some ⟨kb, 0, none⟩), .agg #[.string ⟨cl.server.toArray⟩, .int .i64 cl.ts, .string ⟨cl.msg.toArray⟩, .slice sa cl.sigs.length sc]] (by go_simp) ?_; refine (HCK.out _ ((Kp.refl _ w4).drew)).mono ?_; rintro e w7 ⟨t1, t2⟩; obtain rfl := ck_zero ho t2)
              all_goals exact md_normal (C := fun Y => Kp (fun _ => False) w4 Y) (((Kp.refl _ w4).drew).trans t1)
            intro w7 K7
            have HK7 := hide K7
            clear K7 HCK n0 n1 n2 n3 n4 cp i0 i1 i2 i3 ho
            go_wp2
            go_roundg (ps.length - (i + 1))
            case measure => rw [HG.out.1]; omega
            case rel =>
              have hfi := H5.out.2.2.1.kp0 HK7.out
              exact ⟨i + 1, (n + kq), st2, F2, rfl, by omega, int_i64 (by omega), int_i64 (by omega), hn2, H5.out.1.trans (HK7.out.mono (fun _ _ h => h.elim)), H5.out.2.1, hfi.fe, hfi.kn, hfi.ok, HVV.out⟩
          · have hrr : res = ((signS st2 cl, (n + kq)), st2) := by
              rw [HR.out.1, HG.out.2.2.2.2.2.1, HX.out.2.2.1, H5.out.2.2.2]
              simp only []
              rw [if_neg ho]
            have HVV := hide hrr
            clear hrr
            go_wp2_with fail
            go_region_law (refine step_callF rfl 28 _ _ rfl #[.pointer (some ⟨kb, 0, none⟩), .agg #[.string ⟨cl.server.toArray⟩, .int .i64 cl.ts, .string ⟨cl.msg.toArray⟩, .slice sa cl.sigs.length sc]] (by go_simp) ?_; refine (HCK.out _ ((Kp.refl _ w4).drew)).mono ?_; rintro e w7 ⟨t1, t2⟩; obtain ⟨q, a, rfl, t3, t4⟩ := t2.resolve_left (fun h => ho h.1); have HOS := hide (outcome_srv W hN w7 (below_kp H5.out.2.2.1.fe.bl (((Kp.refl _ w4).drew).trans t1)) (signS st2 cl) q a t3 t4); have HT := hide t1; clear t1 t2 t3 t4)
            all_goals go_wp2_with fail
            all_goals
              refine HOS.out.mono ?_
              rintro e w8 ⟨rfl, K8⟩
              have K48 : Kp (fun _ => False) w4 w8 := ((Kp.refl _ w4).drew).trans (HT.out.trans K8)
              have I8 := K48.heap (HVE.out.1.kp H5.out.1 H5.out.2.1).rblk
              obtain ⟨⟨b0, b1⟩, b2, b3⟩ := pair_facts I8
              have HK8 := hide (And.intro K48 I8)
              clear K8 K48 I8 HOS
              unfold outV
            all_goals go_wp2
            all_goals
              refine bodyPost_ret (vy_results _ rfl rfl (set_pair HK8.out.2)) rfl ?_
              rw [HVV.out]
              exact ⟨by simp [outV, Int.natCast_add], vy_fin HH.out.1 HVE.out.1 H5.out.1 H5.out.2.1 H5.out.2.2.1.fe H5.out.2.2.1.kn HK8.out.1 _ _⟩
      · have hlt' : ¬ (i : Int) < (ps.length : Int) := by omega
        have hr : res = (((0, []), n), st1) := by
          rw [HR.out.1, hver, List.drop_of_length_le (by rw [← HR.out.2.2.1, List.length_map]; omega)]
          rfl
        have HRR := hide (And.intro hr (And.intro Kr (And.intro hF1 (And.intro hfe (And.intro hkn hv)))))
        have HON := hide (outcome_nil wr)
        clear hr hgg Kr hF1 hfe hkn hlo hver hv
        go_wp2_with fail
        refine HON.out.mono ?_
        rintro e w6 ⟨rfl, K6⟩
        have I6 := K6.heap HRR.out.2.2.2.2.2.rblk
        obtain ⟨⟨b0, b1⟩, b2, b3⟩ := pair_facts I6
        have HK6 := hide (And.intro K6 I6)
        clear K6 I6 HON
        unfold outV
        go_wp2
        refine bodyPost_ret (vy_results _ rfl rfl (set_pair HK6.out.2)) rfl ?_
        rw [HRR.out.1]
        exact ⟨rfl, vy_fin HH.out.1 HVE.out.1 HRR.out.2.1 HRR.out.2.2.1 HRR.out.2.2.2.1 HRR.out.2.2.2.2.1 HK6.out.1 _ _⟩
end Go.Proofs.YtocligpfmfmihabGreatDoor
namespace Go.Proofs.YtocligpfmfmihabGreatDoor
open Go Go.RowKit Go.Maps Go.Lib

theorem moment_ex (n : Int) (h0 : -9223372036854775808 ≤ n) (h1 : n ≤ 9223372036854775807) : ∃ m : Int, 0 ≤ m ∧ m < 10000 ∧ Hid (∀ X, Calls Tryz.prog 7 #[.int .i64 n] X fun e w' => e = .returned (.int .i64 m) ∧ X = w') :=
  ⟨momS n, (momS_ok n).1, (momS_ok n).2, hide (fun X => (moment_c X n h0 h1).mono fun _ _ h => ⟨h.1, h.2.symm⟩)⟩
theorem vId : validD kId = true := low_valid (by decide)
theorem lId : ∀ c ∈ kId, 97 ≤ c.toNat ∧ c.toNat ≤ 122 := by decide
theorem pn_kp {w w' : World} {F : Nat → Prop} {nb : Nat} {nm id ky : Bs} {xs : List Bs} {st : Ldg} {c : Nat} (h : PN w F nb nm id ky xs st c) (K : Kp (fun _ => False) w w') : PN w' F nb nm id ky xs st c := by
  obtain ⟨Fk, kb, so, h⟩ := h
  exact ⟨Fk, kb, so, h.kp K⟩
theorem pn_lt {w : World} {F : Nat → Prop} {nb : Nat} {nm id ky : Bs} {xs : List Bs} {st : Ldg} {c : Nat} (h : PN w F nb nm id ky xs st c) : ∀ k, F k → k < w.heap.size := by
  obtain ⟨Fk, kb, so, h⟩ := h
  exact h.lt
theorem Below.setCell2 {W w : World} (h : Below W.heap.size W w) {n : Nat} (hn : W.heap.size ≤ n) (a b : Value) : Below W.heap.size W ((w.setCell ⟨n, 0, none⟩ a).setCell ⟨n, 1, none⟩ b) :=
  below_kp (Below.refl _ _) (set_kp (kp_below h) hn)
end Go.Proofs.YtocligpfmfmihabGreatDoor
namespace Go.Proofs.YtocligpfmfmihabGreatDoor
open Go Go.Lib

def kMe : Bs := [109, 101]
def kMine : Bs := [109, 105, 110, 101]
def kSecret : Bs := [115, 101, 99, 114, 101, 116]
theorem doc_two {s : Bs} (hs : s.head? = some 110) (k sg sg2 : Bs) (till : Int) : signL (signL (docL s kId k till) s kId sg) kMe kMine sg2 = [(kSrv, .str s), (kSig, .obj [(kMe, .obj [(kMine, .str sg2)]), (s, .obj [(kId, .str sg)])]), (kUnt, .num till), (kVer, .obj [(kId, .obj [(kKey, .str k)])])] := by
  obtain ⟨r, rfl⟩ : ∃ r, s = 110 :: r := by
    cases s with
    | nil => cases hs
    | cons c r => injection hs with h; subst h; exact ⟨r, rfl⟩
  have h1 : kMe < 110 :: r := by
    unfold kMe
    exact List.Lex.rel (by decide)
  have h2 : ¬ (110 :: r : Bs) = kMe := by
    intro h
    unfold kMe at h
    injection h with h _
    revert h
    decide
  rw [docL_sign]
  unfold signL
  simp [childF, lookK, insK, show ¬ kSrv = kSig by decide, show ¬ kSig < kSrv by decide, h1, h2]
theorem len_two {s : Bs} (hs : s.head? = some 110) {k sg sg2 : Bs} {till : Int} (ns : Nm s) (hk : Nm k) (hg : sg.length ≤ 8) (hg2 : sg2.length ≤ 8) (h0 : 0 ≤ till) (h1 : till < 100000) : (cJ (.obj (signL (signL (docL s kId k till) s kId sg) kMe kMine sg2))).length ≤ 600 := by
  have h2 := len_doc ns lId (by decide) hk h0 h1
  have h3 := cStr8 hg
  have h4 := cStr8 hg2
  have h5 := cStr_six s
  have e0 : (cStr kSig).length = 12 := by decide
  have e1 : (cStr kMe).length = 4 := by decide
  have e2 : (cStr kMine).length = 6 := by decide
  have e3 : (cStr kId).length = 4 := by decide
  have := ns.few
  rw [doc_two hs]
  simp only [docL, cJ, cMs, joinC, List.length_cons, List.length_append, List.length_nil] at h2 ⊢
  omega
theorem fet_ans {s k : Bs} {t : Int} (hs : s.head? = some 110) (ns : Nm s) (hk : Nm k) (h0 : 0 ≤ t) (h1 : t < 10000) :
    ∃ A m : Bs, answerS (fS2 s k (sdocF s kId k (t + 10)) t) kMe kMine kSecret s = (A, 0) ∧ messageF A = (m, 0) ∧ messageF (sdocF s kId k (t + 10)) = (m, 0) := by
  have hv := seal_ok ⟨k.toArray⟩ ⟨(bareF (docL s kId k (t + 10))).toArray⟩
  have hwf := WF_signL _ s kId _ (docL_wf ns vId hk (by omega : 0 ≤ t + 10) (by omega)) ns.valid vId hv.1
  have hl := len_sdoc (id := kId) (till := t + 10) ns lId (by decide) hk (Nat.le_of_eq hv.2) (by omega) (by omega)
  have hm := msg_of hwf hl
  have hv2 := seal_ok ⟨kSecret.toArray⟩ ⟨(messageF (sdocF s kId k (t + 10))).1.toArray⟩
  have hw2 := WF_signL _ kMe kMine _ hwf (low_valid (by decide)) (low_valid (by decide)) hv2.1
  refine ⟨cJ (.obj (signL (signL (docL s kId k (t + 10)) s kId (sealF ⟨k.toArray⟩ ⟨(bareF (docL s kId k (t + 10))).toArray⟩).data.toList) kMe kMine (sealF ⟨kSecret.toArray⟩ ⟨(messageF (sdocF s kId k (t + 10))).1.toArray⟩).data.toList)), bareF (signL (docL s kId k (t + 10)) s kId (sealF ⟨k.toArray⟩ ⟨(bareF (docL s kId k (t + 10))).toArray⟩).data.toList), ?_, ?_, hm⟩
  · show (match (fS2 s k (sdocF s kId k (t + 10)) t).docs s with | none => ([], 8) | some t => _) = _
    have : (fS2 s k (sdocF s kId k (t + 10)) t).docs s = some (sdocF s kId k (t + 10)) := by simp [fS2, keptS]
    rw [this]
    exact sgn_of hwf hl (low_valid (by decide)) (low_valid (by decide)) hv2.1
  · rw [msg_of hw2 (len_two hs ns hk (Nat.le_of_eq hv.2) (Nat.le_of_eq hv2.2) (by omega) (by omega)), bare_sign]
end Go.Proofs.YtocligpfmfmihabGreatDoor

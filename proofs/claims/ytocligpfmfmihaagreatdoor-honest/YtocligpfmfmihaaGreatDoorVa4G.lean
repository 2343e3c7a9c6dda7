import Derived.Test.YtocligpfmfmihaaGreatDoorVp8G
import Derived.Test.YtocligpfmfmihaaGreatDoorVr6G
import Derived.Test.YtocligpfmfmihaaGreatDoorRea8G
import Derived.Test.YtocligpfmfmihaaGreatDoorPn12G
import Derived.Test.YtocligpfmfmihaaGreatDoorPn8G
import Derived.Test.YtocligpfmfmihaaGreatDoorRn3G
namespace Go.Proofs.YtocligpfmfmihaaGreatDoor
open Go Go.RowKit Go.Maps Go.WideMaps
attribute [local go_sem] Oper.semAt_some
def VyR (w : World) (F : Nat → Prop) (nb : Nat) (nm id ky : Bs) (xs : List Bs) (T : List Bs) (r : ((Nat × Bs) × Nat) × Ldg) (e : Ending) (w' : World) : Prop := e = .returned (.tuple #[outV r.1.1, .int .i64 (r.1.2 : Int)]) ∧ PnR w F nb nm id ky xs r.2 (capT T) w'
theorem vy_results {w : World} {rb : Nat} {a b v : Value} (tmps : Array Value) (h2 : tmps[8]?.getD undef = .pointer (some ⟨rb, 0, none⟩)) (h3 : tmps[9]?.getD undef = v) (hb : w.heap[rb]? = some (.cells #[a, b] 52)) :
  (results Tryz.f31 tmps).run Tryz.prog w = .ok (.tuple #[.agg #[a, b], v]) w := by
 obtain ⟨⟨c0, c1⟩, _⟩ := pair_facts hb
 simp [results, Tryz.results31, go_sem, h2, h3, c0, c1]
theorem takeF_cl {t : Bs} {cs : List Clm} (h : takeF t = .ok cs) : ∀ c ∈ cs, ClK c := by
 unfold takeF at h
 split at h
 ·cases h
 ·rename_i l hl
  split at h
  ·cases h
  ·rename_i cs' hc
   injection h with h
   subst h
   obtain ⟨hwf, hlen⟩ : WF 6 (.obj l) ∧ (cJ (.obj l)).length ≤ 600 := by
    obtain ⟨hp, hl'⟩ := object_ok hl
    obtain ⟨hwf, hle⟩ := parse_ok hp
    exact ⟨hwf, by omega⟩
   unfold clmF at hc
   simp only [Option.bind_eq_some_iff, Option.map_eq_some_iff] at hc
   obtain ⟨ss, h1, t, h2, rfl⟩ := hc
   intro c hc
   obtain ⟨s, hs, rfl⟩ := List.mem_map.1 hc
   have hk := kid2 (s := s) hwf hlen
   refine ⟨(srvF_ok h1).2 s hs, Nat.le_trans (bare_fits hwf hlen).2.2.2 (by omega), fun p hp => ?_, Nat.le_trans (List.length_filterMap_le _ _) hk.2.1⟩
   obtain ⟨q, hq, hqp⟩ := List.mem_filterMap.1 hp
   unfold sgP at hqp
   split at hqp
   ·injection hqp with hqp
    subst hqp
    exact hk.2.2 q hq
   ·cases hqp
theorem cl_cells {w : World} {B : Nat} {g n c : Nat} {ps : List (Clm × Value)} (h : w.ownsRow B 111 4 (.slice (some ⟨g, 0, none⟩) n c) n (ps.flatMap clC)) (i : Nat) (p : Clm × Value) (hp : ps[i]? = some p) :
  w.cell? ⟨g, i * 4, none⟩ = some (.string ⟨p.1.server.toArray⟩) ∧ w.cell? ⟨g, i * 4 + 1, none⟩ = some (.int .i64 p.1.ts) ∧ w.cell? ⟨g, i * 4 + 2, none⟩ = some (.string ⟨p.1.msg.toArray⟩) ∧ w.cell? ⟨g, i * 4 + 3, none⟩ = some p.2 :=
 ⟨row_cell (f := clC) (fun _ => rfl) h i p hp 0 (by omega) _ rfl, row_cell (f := clC) (fun _ => rfl) h i p hp 1 (by omega) _ rfl, row_cell (f := clC) (fun _ => rfl) h i p hp 2 (by omega) _ rfl, row_cell (f := clC) (fun _ => rfl) h i p hp 3 (by omega) _ rfl⟩
structure VE (w wx : World) (Fk : Nat → Prop) (nb : Nat) (ps : List (Clm × Value)) (v : Value) : Prop where
 kw : Kp (fun _ => False) w wx
 fz : ∀ k, Fk k → k < w.heap.size
 pblk : wx.heap[w.heap.size]? = some (.cells #[.pointer (some ⟨nb, 0, none⟩)] 47)
 rblk : wx.heap[w.heap.size + 1]? = some (.cells #[.int .i64 0, .string ⟨#[]⟩] 52)
 row : wx.ownsRow w.heap.size 111 4 v ps.length (ps.flatMap clC)
 sigs : ∀ p ∈ ps, wx.ownsRow w.heap.size 193 2 p.2 p.1.sigs.length (p.1.sigs.flatMap sgC)
structure VL (w wx : World) (F1 : Nat → Prop) (nb : Nat) (ps : List (Clm × Value)) (v : Value) : Prop where
 pblk : wx.heap[w.heap.size]? = some (.cells #[.pointer (some ⟨nb, 0, none⟩)] 47)
 pf : ¬ F1 w.heap.size
 rblk : wx.heap[w.heap.size + 1]? = some (.cells #[.int .i64 0, .string ⟨#[]⟩] 52)
 rf : ¬ F1 (w.heap.size + 1)
 row : wx.ownsRow w.heap.size 111 4 v ps.length (ps.flatMap clC)
 sigs : ∀ p ∈ ps, wx.ownsRow 0 193 2 p.2 p.1.sigs.length (p.1.sigs.flatMap sgC) ∧ ∀ k, p.2.ownBlock = some k → ¬ F1 k ∧ k < wx.heap.size
theorem row_mono {w : World} {B B' : Nat} {e : TypeId} {sz n : Nat} {v : Value} {xs : List Value} (h : w.ownsRow B e sz v n xs) (hb : B' ≤ B) : w.ownsRow B' e sz v n xs := by
 obtain ⟨h1, h2⟩ := h
 refine ⟨h1, ?_⟩
 rcases h2 with h2 | ⟨g, cap, cur, rfl, hg, r⟩
 ·exact Or.inl h2
 ·exact Or.inr ⟨g, cap, cur, rfl, Nat.le_trans hb hg, r⟩
theorem ck_zero {W w' : World} {o : Nat × Bs} {e : Ending} (ho : o.1 = 0) (h : (o.1 = 0 ∧ e = .returned .nilIface) ∨ (∃ q a, e = .returned (.iface 188 (.pointer (some ⟨q, 0, none⟩))) ∧ w'.heap[q]? = some (.cells #[.string ⟨o.2.toArray⟩, errV a] 191) ∧
    ((o.1 = 8 ∧ W.cell? ⟨3, 0, none⟩ = some (errV a)) ∨ (o.1 = 5 ∧ Plain W a)))) : e = .returned .nilIface := by
 rcases h with ⟨_, h⟩ | ⟨q, a, _, _, h | h⟩
 ·exact h
 ·exact absurd (ho.symm.trans h.1) (by decide)
 ·exact absurd (ho.symm.trans h.1) (by decide)
theorem VE.kp {w w5 wx : World} {Fk F1 : Nat → Prop} {nb : Nat} {ps : List (Clm × Value)} {v : Value} (h : VE w w5 Fk nb ps v) (K : Kp Fk w5 wx) (hF : ∀ k, F1 k → Fk k ∨ w5.heap.size ≤ k) : VL w wx F1 nb ps v := by
 have hn : ∀ k, w.heap.size ≤ k → ¬ Fk k := fun k hk hf => by have := h.fz k hf; omega
 have hn1 : ∀ k, w.heap.size ≤ k → k < w5.heap.size → ¬ F1 k := fun k hk hk5 hf => (hF k hf).elim (hn k hk) (fun h => by omega)
 exact ⟨hp_kp h.pblk K (hn _ (Nat.le_refl _)), hn1 _ (Nat.le_refl _) (lt_heap h.pblk), hp_kp h.rblk K (hn _ (Nat.le_succ _)), hn1 _ (Nat.le_succ _) (lt_heap h.rblk), ownsRow_kp h.row K (fun k e => hn k (h.row.lt k e).1), fun p hp => ⟨row_mono (ownsRow_kp (h.sigs p hp) K (fun k e => hn k ((h.sigs p hp).lt k e).1)) (Nat.zero_le _), fun k e => ⟨hn1 k ((h.sigs p hp).lt k e).1 ((h.sigs p hp).lt k e).2, Nat.lt_of_lt_of_le ((h.sigs p hp).lt k e).2 K.size⟩⟩⟩
theorem vy_fin {W w w5 wx w6 : World} {F Fk F1 : Nat → Prop} {nb kb : Nat} {nm id ky : Bs} {so : Value} {xs : List Bs} {rs : List Rpl} {ra : Option Addr} {rc cb : Nat} {st st1 : Ldg} {c c1 : Nat} {ps : List (Clm × Value)} {v : Value} (hP : PNs w F Fk nb kb nm id ky so xs st c) (hV : VE w w5 Fk nb ps v) (K : Kp Fk w5 wx) (hF : ∀ k, F1 k → Fk k ∨ w5.heap.size ≤ k) (hfe : FE W wx F1 nb kb nm id ky so xs rs ra rc cb) (hk : KN wx F1 kb st1 c1) (K6 : Kp (fun _ => False) wx w6) (p q : Value) : PnR w F nb nm id ky xs st1 c1 ((w6.setCell ⟨w.heap.size + 1, 0, none⟩ p).setCell ⟨w.heap.size + 1, 1, none⟩ q) := by
 have Kx : Kp Fk w wx := (hV.kw.mono (fun _ _ h => h.elim)).trans K
 have h1 : ∀ k, F1 k → Fk k ∨ w.heap.size ≤ k := fun k hf => (hF k hf).imp (fun h => h) (fun h => Nat.le_trans hV.kw.size h)
 have hx := (hP.after Kx h1 (fun k hf => (hfe.fl k hf).2) hk).kp K6
 have hne : ∀ k, F k ∨ F1 k → k ≠ w.heap.size + 1 := by
  rintro k (hf | hf) rfl
  ·have := hP.lt _ hf
   omega
  ·exact (hV.kp K hF).rf hf
 refine ⟨fun k => F k ∨ F1 k, Kp.setCell (p := ⟨w.heap.size + 1, 1, none⟩) (Kp.setCell (p := ⟨w.heap.size + 1, 0, none⟩) ((Kx.mono (fun k _ h => hP.fk k h)).trans (K6.mono (fun _ _ h => h.elim))) (fun e => absurd e (Nat.not_lt.2 (Nat.le_succ _))) _) (fun e => absurd e (Nat.not_lt.2 (Nat.le_succ _))) _, fun k hf => ?_, F1, kb, so, hx.frame (by rw [World.size_setCell, World.size_setCell]; exact Nat.le_refl _) (fun k h => ?_)⟩
 ·rcases hf with hf | hf
  ·exact Or.inl hf
  ·exact (h1 k hf).imp (fun h => hP.fk k h) (fun h => h)
 ·rw [heap_set_other (by exact hne k h), heap_set_other (by exact hne k h)]
set_option maxRecDepth 20000 in
set_option maxHeartbeats 4000000 in
theorem verify_c (W : World) (hN : NG3 W) (w : World) (hW : Below W.heap.size W w) (F : Nat → Prop) (hFl : ∀ k, F k → W.heap.size ≤ k) (nb : Nat) (nm id ky : Bs) (xs : List Bs) (st : Ldg) (T : List Bs) (hT : LOk T st) (hTl : T.length ≤ 700000) (hP : PN w F nb nm id ky xs st (capT T)) (hxl : xs.length ≤ 1100000000)
  (rs : List Rpl) (ra : Option Addr) (rc : Nat) (hI : RpI w rs ra) (hrf : rs ≠ [] → ∀ g o, ra = some ⟨g, o, none⟩ → ¬ F g ∧ g < w.heap.size) (hrl : rs.length ≤ 1100000000) (hrT : ∀ r ∈ rs, r.text ∈ T) (text : Bs) (htT : text ∈ T) (now : Int) (hn0 : -9223372036854775808 ≤ now) (hn1 : now ≤ 9223372036854775807) (res : ((Nat × Bs) × Nat) × Ldg) (hres : res = verifyS rs now xs st text) :
  Calls Tryz.prog 31 #[.pointer (some ⟨nb, 0, none⟩), .string ⟨text.toArray⟩, .int .i64 now, .slice ra rs.length rc] w fun e w' => VyR w F nb nm id ky xs T res e w' := by
 obtain ⟨Fk, kb, so, hp⟩ := hP
 have HRS := hide hres
 have HH := hide (And.intro hp (And.intro hI (And.intro hrf (And.intro hrT (And.intro htT hT)))))
 clear hres hp hI hrf hrT htT hT
 have K0 : Kp (fun _ => False) w ((w.alloc (.cells #[.pointer (some ⟨nb, 0, none⟩)] 47)).alloc (.cells #[.int .i64 0, .string ⟨#[]⟩] 52)) := ((Kp.refl _ _).alloc _).alloc _
 have I0 : ((w.alloc (.cells #[.pointer (some ⟨nb, 0, none⟩)] 47)).alloc (.cells #[.int .i64 0, .string ⟨#[]⟩] 52)).heap[w.heap.size]? = some (.cells #[.pointer (some ⟨nb, 0, none⟩)] 47) := ((Kp.refl (fun _ => False) _).alloc _).heap (heap_alloc_new w _)
 have I1 : ((w.alloc (.cells #[.pointer (some ⟨nb, 0, none⟩)] 47)).alloc (.cells #[.int .i64 0, .string ⟨#[]⟩] 52)).heap[w.heap.size + 1]? = some (.cells #[.int .i64 0, .string ⟨#[]⟩] 52) := by
  have := heap_alloc_new (w.alloc (.cells #[.pointer (some ⟨nb, 0, none⟩)] 47)) (.cells #[.int .i64 0, .string ⟨#[]⟩] 52)
  rwa [World.size_alloc] at this
 have HRE := hide (readEvent_c W hN.n2 text _ (below_kp hW K0))
 have HK0 := hide (And.intro K0 (And.intro I0 I1))
 clear K0 I0 I1
 go_enter Tryz.func31, Tryz.ntmps31
 go_wp2_with fail
 generalize ((w.alloc (.cells #[.pointer (some ⟨nb, 0, none⟩)] 47)).alloc (.cells #[.int .i64 0, .string ⟨#[]⟩] 52)) = w0 at *
 refine HRE.out.mono ?_
 rintro e w1 ⟨K1, h1⟩
 have HK1 := hide K1
 clear K1 HRE
 cases htk : takeF text with
 | error n =>
  rw [htk] at h1
  obtain ⟨tt, uu, rfl, he⟩ := h1
  have hr : res = (((n, []), 0), st) := by rw [HRS.out]; unfold verifyS; rw [htk]
  have HR := hide hr
  have HOC := hide (outcome_ev W hN.n2 w1 (below_kp hW (HK0.out.1.trans HK1.out)) tt uu n he)
  clear hr htk he
  go_wp2_with fail
  refine HOC.out.mono ?_
  rintro e w2 ⟨rfl, K2⟩
  have I2 := K2.heap (HK1.out.heap HK0.out.2.2)
  obtain ⟨⟨b0, b1⟩, b2, b3⟩ := pair_facts I2
  have HK2 := hide (And.intro (HK0.out.1.trans (HK1.out.trans K2)) I2)
  clear K2 I2 HOC
  unfold outV
  go_wp2
  refine bodyPost_ret (vy_results _ rfl rfl (set_pair HK2.out.2)) rfl ?_
  rw [HR.out]
  have Kz := set_kp (b := w.heap.size + 1) (p := .int .i64 (n : Int)) (q := .string ⟨#[]⟩) HK2.out.1 (Nat.le_succ _)
  exact ⟨rfl, F, Kz.mono (fun _ _ h => h.elim), fun _ h => Or.inl h, Fk, kb, so, HH.out.1.kp Kz⟩
 | ok cs =>
  rw [htk] at h1
  obtain ⟨v, ps, rfl, hps, hcr⟩ := h1
  have hr : res = verL rs now xs st cs 0 := by rw [HRS.out]; unfold verifyS; rw [htk]
  have HAN := hide (answering_c w1 (.slice ra rs.length rc) ⟨_, _, _, rfl⟩)
  obtain ⟨va, vc, rfl, _, _⟩ := own_sl hcr.1
  have K5 : Kp (fun _ => False) w1 (w1.alloc (.cells #[.slice ra rs.length rc] 91)) := (Kp.refl _ _).alloc _
  have I5 := heap_alloc_new w1 (.cells #[.slice ra rs.length rc] 91)
  have hlen : ps.length ≤ 2 := by
   have := takeF_len htk
   rw [← hps, List.length_map] at this
   exact this
  have HR := hide (And.intro hr (And.intro htk (And.intro hps (And.intro hcr (And.intro K5 I5)))))
  clear hr htk hps hcr HRS K5 I5
  go_wp2_with fail
  refine HAN.out.mono ?_
  rintro e w2 ⟨rfl, rfl⟩
  clear HAN
  generalize (w1.alloc (.cells #[.slice ra rs.length rc] 91)) = w5 at *
  have hV : VE w w5 Fk nb ps (.slice va ps.length vc) := by
   have K15 : Kp (fun _ => False) w0 w5 := HK1.out.trans HR.out.2.2.2.2.1
   have hrow := HR.out.2.2.2.1
   have hs0 := HK0.out.1.size
   have hz : ∀ k, Fk k → k < w.heap.size := fun k hf => HH.out.1.lt k (HH.out.1.fk k hf)
   refine ⟨HK0.out.1.trans K15, hz, K15.heap HK0.out.2.1, K15.heap HK0.out.2.2, ownsRow_kp (row_mono hrow.1 hs0) HR.out.2.2.2.2.1 (by simp), fun p hp => ownsRow_kp (row_mono (hrow.2 p hp) hs0) HR.out.2.2.2.2.1 (by simp)⟩
  have hF5 : FE W w5 Fk nb kb nm id ky so xs rs ra rc w1.heap.size := by
   have K05 := hV.kw
   have hz := hV.fz
   have hp5 := HH.out.1.kp K05
   refine ⟨below_kp hW K05, fun k hf => ⟨hFl k (HH.out.1.fk k hf), hp5.lt k (hp5.fk k hf)⟩, hp5.nblk, hp5.nf, hp5.rso, fun k e => ⟨(hp5.fso k e).2, hp5.lt k (hp5.fso k e).1⟩, HR.out.2.2.2.2.2, fun hf => ?_, HH.out.2.1.kps K05 (fun _ _ _ _ h => h), fun h0 g o e => ⟨fun hf => (HH.out.2.2.1 h0 g o e).1 (HH.out.1.fk g hf), Nat.lt_of_lt_of_le (HH.out.2.2.1 h0 g o e).2 K05.size⟩⟩
   have := hz _ hf
   have := HK0.out.1.size
   have := HK1.out.size
   omega
  have HVE := hide (And.intro hV hF5)
  clear hV hF5
  go_wp2_with fail
  go_loopg [13, 30] ps.length (fun gg q q2 wx => ∃ (i n : Nat) (st1 : Ldg) (F1 : Nat → Prop), gg = ps.length - i ∧ i ≤ ps.length ∧ q = .int .i64 (n : Int) ∧ q2 = .int .i64 (i : Int) ∧ n ≤ i * 1100000001 ∧ Kp Fk w5 wx ∧ (∀ k, F1 k → Fk k ∨ w5.heap.size ≤ k) ∧ FE W wx F1 nb kb nm id ky so xs rs ra rc w1.heap.size ∧ KN wx F1 kb st1 (capT T) ∧ LOk T st1 ∧ verL rs now xs st cs 0 = verL rs now xs st1 (cs.drop i) n)
  case atStart => exact ⟨0, 0, st, Fk, rfl, by omega, rfl, rfl, by omega, Kp.refl _ _, fun _ h => Or.inl h, HVE.out.2, (HH.out.1.kp HVE.out.1.kw).kn, HH.out.2.2.2.2.2, rfl⟩
  case round =>
   obtain ⟨i, n, st1, F1, hgg, hin, rfl, rfl, hnb, Kr, hF1, hfe, hkn, hlo, hver⟩ := hrel
   have hv := HVE.out.1.kp Kr hF1
   by_cases hlt : i < ps.length
   ·have hlt' : (i : Int) < (ps.length : Int) := by omega
    obtain ⟨⟨cl, sv⟩, hx⟩ : ∃ x, ps[i]? = some x := ⟨ps[i], List.getElem?_eq_getElem hlt⟩
    obtain ⟨hsr, hsf⟩ := hv.sigs _ (List.mem_of_getElem? hx)
    obtain ⟨sa, sc, hsv, _, _⟩ := own_sl hsr
    replace hsv : sv = .slice sa cl.sigs.length sc := hsv
    subst hsv
    obtain ⟨_, _, e1, _, hg⟩ := own_sl hv.row
    obtain ⟨g, e2, hg⟩ := hg (by omega)
    injection e1 with e1a e1b e1c
    subst e1c
    rw [← e1a] at e2
    subst e2
    obtain ⟨c0, c1, c2, c3⟩ := cl_cells hv.row i _ hx
    have hcsi : cs[i]? = some cl := by rw [← HR.out.2.2.1, List.getElem?_map, hx]; rfl
    have hstep := verL_step (rs := rs) (now := now) (xs := xs) (st := st1) (n := n) hcsi
    have hclk := takeF_cl HR.out.2.1 cl (List.mem_of_getElem? hcsi)
    have Kd : Kp (fun _ => False) wr (wr.alloc (clObj cl (.slice sa cl.sigs.length sc))) := (Kp.refl _ _).alloc _
    have Id := heap_alloc_new wr (clObj cl (.slice sa cl.sigs.length sc))
    have hfd : FI W (wr.alloc (clObj cl (.slice sa cl.sigs.length sc))) F1 nb kb nm id ky so xs rs ra rc w1.heap.size w.heap.size wr.heap.size cl (.slice sa cl.sigs.length sc) T st1 := by
     refine ⟨hfe.kp (Kd.mono (fun _ _ h => h.elim)) (fun _ h => Or.inl h) (fun k hf => Nat.lt_of_lt_of_le (hfe.fl k hf).2 Kd.size), ⟨Kd.heap hv.pblk, hv.pf, Id, fun hf => ?_, ownsRow_kp hsr Kd (by simp), fun k e => ⟨(hsf k e).1, Nat.lt_of_lt_of_le (hsf k e).2 Kd.size⟩⟩, hkn.kp2 Kd, hlo⟩
     have := (hfe.fl _ hf).2
     omega
    have HWT : Hid (∀ X, Kp (fun _ => False) (wr.alloc (clObj cl (.slice sa cl.sigs.length sc))) X → Calls Tryz.prog 60 #[.pointer (some ⟨kb, 0, none⟩), clV cl (.slice sa cl.sigs.length sc)] X fun e w' => e = .returned (.bool (wantS st1 cl)) ∧ Kp (fun _ => False) X w') := fun X hX => wants_c X F1 kb st1 (capT T) (hfd.kn.kp2 hX) cl hclk 0 _ (ownsRow_kp hfd.ce.row hX (by simp))
    have HG := hide (And.intro hgg (And.intro Kr (And.intro hF1 (And.intro Kd (And.intro hfd (And.intro hver hv))))))
    have HX := hide (And.intro hcsi (And.intro hclk (And.intro hstep (List.mem_of_getElem? hcsi))))
    obtain ⟨n0, n1, n2, n3, n4⟩ := nt_facts hfd.fe.nblk
    obtain ⟨cp, _⟩ := one_cells hfd.ce.pblk
    obtain ⟨i0, i1, i2, i3, _⟩ := cl_facts hfd.ce.iblk
    clear hgg Kr hF1 hfe hkn hlo hver hv hfd hx hsr hsf hcsi hstep hclk e1a e1b Kd Id
    unfold clObj at *
    go_wp2_with fail
    generalize hwd : (wr.alloc (.cells #[.string ⟨cl.server.toArray⟩, .int .i64 cl.ts, .string ⟨cl.msg.toArray⟩, .slice sa cl.sigs.length sc] 111)) = wd at *
    clear hwd
    refine wp_md ?_ (fun Y => Kp (fun _ => False) wd Y) ?_ ?_
    rotate_left
    ·go_region_law (refine step_callF rfl 60 _ _ rfl #[.pointer (some ⟨kb, 0, none⟩), .agg #[.string ⟨cl.server.toArray⟩, .int .i64 cl.ts, .string ⟨cl.msg.toArray⟩, .slice sa cl.sigs.length sc]] (by go_simp) ?_; refine (HWT.out _ ((Kp.refl _ wd).drew)).mono ?_; rintro e w3 ⟨rfl, t1⟩)
     all_goals exact md_normal (C := fun Y => Kp (fun _ => False) wd Y) (((Kp.refl _ wd).drew).trans t1)
    intro w3 K3
    have HK3 := hide K3
    clear HWT n0 n1 n2 n3 n4 cp i0 i1 i2 i3 c0 c1 c2 c3 K3
    cases hwb : wantS st1 cl with
    | false =>
     have h1S : oneS rs now xs st1 cl = (0, st1) := by unfold oneS; rw [hwb]; rfl
     have hn2 : n ≤ (i + 1) * 1100000001 := Nat.le_trans hnb (Nat.mul_le_mul_right _ (Nat.le_succ i))
     obtain ⟨F2, hF2⟩ : ∃ F2, F2 = F1 := ⟨_, rfl⟩
     obtain ⟨st2, hs2⟩ : ∃ st2, st2 = st1 := ⟨_, rfl⟩
     obtain ⟨w4, hw4⟩ : ∃ w4, w4 = w3 := ⟨_, rfl⟩
     have H5 : Hid (Kp Fk w5 w4 ∧ (∀ k, F2 k → Fk k ∨ w5.heap.size ≤ k) ∧ FI W w4 F2 nb kb nm id ky so xs rs ra rc w1.heap.size w.heap.size wr.heap.size cl (.slice sa cl.sigs.length sc) T st2 ∧ oneS rs now xs st1 cl = (0, st2)) := by
      subst hF2 hs2 hw4
      exact ⟨HG.out.2.1.trans ((HG.out.2.2.2.1.trans HK3.out).mono (fun _ _ h => h.elim)), HG.out.2.2.1, HG.out.2.2.2.2.1.kp0 HK3.out, h1S⟩
     rw [← hw4]
     clear h1S hwb hF2 hw4 hs2
     have HCK : Hid (∀ X, Kp (fun _ => False) w4 X → Calls Tryz.prog 63 #[.pointer (some ⟨kb, 0, none⟩), clV cl (.slice sa cl.sigs.length sc)] X fun e w' => CkR W X (signS st2 cl) e w') := fun X hX => kcheck_c W hN X (below_kp H5.out.2.2.1.fe.bl hX) F2 kb st2 (capT T) (H5.out.2.2.1.kn.kp2 hX) (fun s i p h => (H5.out.2.2.1.ok.keys s i p h).1) cl HX.out.2.1 0 _ (ownsRow_kp H5.out.2.2.1.ce.row hX (by simp))
     obtain ⟨n0, n1, n2, n3, n4⟩ := nt_facts H5.out.2.2.1.fe.nblk
     obtain ⟨cp, _⟩ := one_cells H5.out.2.2.1.ce.pblk
     obtain ⟨i0, i1, i2, i3, _⟩ := cl_facts H5.out.2.2.1.ce.iblk
     by_cases ho : (signS st2 cl).1 = 0
     ·have hvv : verL rs now xs st cs 0 = verL rs now xs st2 (cs.drop (i + 1)) n := by
       rw [HG.out.2.2.2.2.2.1, HX.out.2.2.1, H5.out.2.2.2]
       simp only []
       rw [if_pos ho]
       rfl
      have HVV := hide hvv
      clear hvv
      go_wp2_with fail
      refine wp_md ?_ (fun Y => Kp (fun _ => False) w4 Y) ?_ ?_
      rotate_left
      ·go_region_law (refine step_callF rfl 63 _ _ rfl #[.pointer (some ⟨kb, 0, none⟩), .agg #[.string ⟨cl.server.toArray⟩, .int .i64 cl.ts, .string ⟨cl.msg.toArray⟩, .slice sa cl.sigs.length sc]] (by go_simp) ?_; refine (HCK.out _ ((Kp.refl _ w4).drew)).mono ?_; rintro e w7 ⟨t1, t2⟩; obtain rfl := ck_zero ho t2)
       all_goals exact md_normal (C := fun Y => Kp (fun _ => False) w4 Y) (((Kp.refl _ w4).drew).trans t1)
      intro w7 K7
      have HK7 := hide K7
      clear K7 HCK n0 n1 n2 n3 n4 cp i0 i1 i2 i3 ho
      go_wp2
      go_roundg (ps.length - (i + 1))
      case measure => rw [HG.out.1]; omega
      case rel =>
       have hfi := H5.out.2.2.1.kp0 HK7.out
       exact ⟨i + 1, n, st2, F2, rfl, by omega, rfl, int_i64 (by omega), hn2, H5.out.1.trans (HK7.out.mono (fun _ _ h => h.elim)), H5.out.2.1, hfi.fe, hfi.kn, hfi.ok, HVV.out⟩
     ·have hrr : res = ((signS st2 cl, n), st2) := by
       rw [HR.out.1, HG.out.2.2.2.2.2.1, HX.out.2.2.1, H5.out.2.2.2]
       simp only []
       rw [if_neg ho]
       rfl
      have HVV := hide hrr
      clear hrr
      go_wp2_with fail
      go_region_law (refine step_callF rfl 63 _ _ rfl #[.pointer (some ⟨kb, 0, none⟩), .agg #[.string ⟨cl.server.toArray⟩, .int .i64 cl.ts, .string ⟨cl.msg.toArray⟩, .slice sa cl.sigs.length sc]] (by go_simp) ?_; refine (HCK.out _ ((Kp.refl _ w4).drew)).mono ?_; rintro e w7 ⟨t1, t2⟩; obtain ⟨q, a, rfl, t3, t4⟩ := t2.resolve_left (fun h => ho h.1); have HOS := hide (outcome_srv W hN w7 (below_kp H5.out.2.2.1.fe.bl (((Kp.refl _ w4).drew).trans t1)) (signS st2 cl) q a t3 t4); have HT := hide t1; clear t1 t2 t3 t4)
      all_goals go_wp2_with fail
      all_goals
       refine HOS.out.mono ?_
       rintro e w8 ⟨rfl, K8⟩
       have K48 : Kp (fun _ => False) w4 w8 := ((Kp.refl _ w4).drew).trans (HT.out.trans K8)
       have I8 := K48.heap (HVE.out.1.kp H5.out.1 H5.out.2.1).rblk
       obtain ⟨⟨b0, b1⟩, b2, b3⟩ := pair_facts I8
       have HK8 := hide (And.intro K48 I8)
       clear K8 K48 I8 HOS
       unfold outV
      all_goals go_wp2
      all_goals
       refine bodyPost_ret (vy_results _ rfl rfl (set_pair HK8.out.2)) rfl ?_
       rw [HVV.out]
       exact ⟨rfl, vy_fin HH.out.1 HVE.out.1 H5.out.1 H5.out.2.1 H5.out.2.2.1.fe H5.out.2.2.1.kn HK8.out.1 _ _⟩
    | true =>
     have h0 : 0 < cl.sigs.length := by
      unfold wantS at hwb
      simp only [Bool.and_eq_true, decide_eq_true_eq] at hwb
      exact hwb.1
     obtain ⟨⟨kq, st2⟩, hfe⟩ : ∃ r, r = if soonS st1 cl.server now then (0, st1) else fetchS rs now xs st1 cl := ⟨_, rfl⟩
     have h1S : oneS rs now xs st1 cl = (kq, st2) := by
      rw [hfe]
      unfold oneS
      rw [hwb]
      cases soonS st1 cl.server now <;> rfl
     have hkq : kq ≤ 1100000001 := by
      have h1 := fetch_le rs now xs st1 cl
      have h2 := congrArg (·.1) hfe
      simp only [] at h2
      rw [h2]
      split
      ·exact Nat.zero_le _
      ·omega
     have hn2 : n + kq ≤ (i + 1) * 1100000001 := by
      rw [Nat.add_mul, Nat.one_mul]
      exact Nat.add_le_add hnb hkq
     have hfi := HG.out.2.2.2.2.1.kp0 HK3.out
     have HFT := hide (fetch_c W hN w3 F1 nb kb nm id ky so xs rs ra rc w1.heap.size w.heap.size wr.heap.size cl _ T st1 hfi hTl hxl hrl HH.out.2.2.2.1 HX.out.2.1 h0 HH.out.2.2.2.2.1 HR.out.2.1 HX.out.2.2.2 now hn0 hn1 _ hfe)
     obtain ⟨cp, _⟩ := one_cells hfi.ce.pblk
     obtain ⟨i0, i1, i2, i3, _⟩ := cl_facts hfi.ce.iblk
     have H1S := hide h1S
     clear h1S hwb hfe hfi
     go_wp2_with fail
     refine HFT.out.mono ?_
     rintro e w4 ⟨rfl, F2, K4, hF2, hfi⟩
     have H5 : Hid (Kp Fk w5 w4 ∧ (∀ k, F2 k → Fk k ∨ w5.heap.size ≤ k) ∧ FI W w4 F2 nb kb nm id ky so xs rs ra rc w1.heap.size w.heap.size wr.heap.size cl (.slice sa cl.sigs.length sc) T st2 ∧ oneS rs now xs st1 cl = (kq, st2)) := by
      have K3 := HG.out.2.1.trans ((HG.out.2.2.2.1.trans HK3.out).mono (fun _ _ h => h.elim))
      refine ⟨K3.and K4 (fun j hj hf => (HG.out.2.2.1 j hf).resolve_right (by omega)), fun k hk => ?_, hfi, H1S.out⟩
      rcases hF2 k hk with h | h
      ·exact HG.out.2.2.1 k h
      ·exact Or.inr (Nat.le_trans K3.size h)
     clear K4 hF2 hfi HFT H1S cp i0 i1 i2 i3 h0
     have HCK : Hid (∀ X, Kp (fun _ => False) w4 X → Calls Tryz.prog 63 #[.pointer (some ⟨kb, 0, none⟩), clV cl (.slice sa cl.sigs.length sc)] X fun e w' => CkR W X (signS st2 cl) e w') := fun X hX => kcheck_c W hN X (below_kp H5.out.2.2.1.fe.bl hX) F2 kb st2 (capT T) (H5.out.2.2.1.kn.kp2 hX) (fun s i p h => (H5.out.2.2.1.ok.keys s i p h).1) cl HX.out.2.1 0 _ (ownsRow_kp H5.out.2.2.1.ce.row hX (by simp))
     obtain ⟨n0, n1, n2, n3, n4⟩ := nt_facts H5.out.2.2.1.fe.nblk
     obtain ⟨cp, _⟩ := one_cells H5.out.2.2.1.ce.pblk
     obtain ⟨i0, i1, i2, i3, _⟩ := cl_facts H5.out.2.2.1.ce.iblk
     by_cases ho : (signS st2 cl).1 = 0
     ·have hvv : verL rs now xs st cs 0 = verL rs now xs st2 (cs.drop (i + 1)) (n + kq) := by
       rw [HG.out.2.2.2.2.2.1, HX.out.2.2.1, H5.out.2.2.2]
       simp only []
       rw [if_pos ho]
      have HVV := hide hvv
      clear hvv
      go_wp2_with fail
      refine wp_md ?_ (fun Y => Kp (fun _ => False) w4 Y) ?_ ?_
      rotate_left
      ·go_region_law (refine step_callF rfl 63 _ _ rfl #[.pointer (some ⟨kb, 0, none⟩), .agg #[.string ⟨cl.server.toArray⟩, .int .i64 cl.ts, .string ⟨cl.msg.toArray⟩, .slice sa cl.sigs.length sc]] (by go_simp) ?_; refine (HCK.out _ ((Kp.refl _ w4).drew)).mono ?_; rintro e w7 ⟨t1, t2⟩; obtain rfl := ck_zero ho t2)
       all_goals exact md_normal (C := fun Y => Kp (fun _ => False) w4 Y) (((Kp.refl _ w4).drew).trans t1)
      intro w7 K7
      have HK7 := hide K7
      clear K7 HCK n0 n1 n2 n3 n4 cp i0 i1 i2 i3 ho
      go_wp2
      go_roundg (ps.length - (i + 1))
      case measure => rw [HG.out.1]; omega
      case rel =>
       have hfi := H5.out.2.2.1.kp0 HK7.out
       exact ⟨i + 1, (n + kq), st2, F2, rfl, by omega, int_i64 (by omega), int_i64 (by omega), hn2, H5.out.1.trans (HK7.out.mono (fun _ _ h => h.elim)), H5.out.2.1, hfi.fe, hfi.kn, hfi.ok, HVV.out⟩
     ·have hrr : res = ((signS st2 cl, (n + kq)), st2) := by
       rw [HR.out.1, HG.out.2.2.2.2.2.1, HX.out.2.2.1, H5.out.2.2.2]
       simp only []
       rw [if_neg ho]
      have HVV := hide hrr
      clear hrr
      go_wp2_with fail
      go_region_law (refine step_callF rfl 63 _ _ rfl #[.pointer (some ⟨kb, 0, none⟩), .agg #[.string ⟨cl.server.toArray⟩, .int .i64 cl.ts, .string ⟨cl.msg.toArray⟩, .slice sa cl.sigs.length sc]] (by go_simp) ?_; refine (HCK.out _ ((Kp.refl _ w4).drew)).mono ?_; rintro e w7 ⟨t1, t2⟩; obtain ⟨q, a, rfl, t3, t4⟩ := t2.resolve_left (fun h => ho h.1); have HOS := hide (outcome_srv W hN w7 (below_kp H5.out.2.2.1.fe.bl (((Kp.refl _ w4).drew).trans t1)) (signS st2 cl) q a t3 t4); have HT := hide t1; clear t1 t2 t3 t4)
      all_goals go_wp2_with fail
      all_goals
       refine HOS.out.mono ?_
       rintro e w8 ⟨rfl, K8⟩
       have K48 : Kp (fun _ => False) w4 w8 := ((Kp.refl _ w4).drew).trans (HT.out.trans K8)
       have I8 := K48.heap (HVE.out.1.kp H5.out.1 H5.out.2.1).rblk
       obtain ⟨⟨b0, b1⟩, b2, b3⟩ := pair_facts I8
       have HK8 := hide (And.intro K48 I8)
       clear K8 K48 I8 HOS
       unfold outV
      all_goals go_wp2
      all_goals
       refine bodyPost_ret (vy_results _ rfl rfl (set_pair HK8.out.2)) rfl ?_
       rw [HVV.out]
       exact ⟨by simp [outV, Int.natCast_add], vy_fin HH.out.1 HVE.out.1 H5.out.1 H5.out.2.1 H5.out.2.2.1.fe H5.out.2.2.1.kn HK8.out.1 _ _⟩
   ·have hlt' : ¬ (i : Int) < (ps.length : Int) := by omega
    have hr : res = (((0, []), n), st1) := by
     rw [HR.out.1, hver, List.drop_of_length_le (by rw [← HR.out.2.2.1, List.length_map]; omega)]
     rfl
    have HRR := hide (And.intro hr (And.intro Kr (And.intro hF1 (And.intro hfe (And.intro hkn hv)))))
    have HON := hide (outcome_nil wr)
    clear hr hgg Kr hF1 hfe hkn hlo hver hv
    go_wp2_with fail
    refine HON.out.mono ?_
    rintro e w6 ⟨rfl, K6⟩
    have I6 := K6.heap HRR.out.2.2.2.2.2.rblk
    obtain ⟨⟨b0, b1⟩, b2, b3⟩ := pair_facts I6
    have HK6 := hide (And.intro K6 I6)
    clear K6 I6 HON
    unfold outV
    go_wp2
    refine bodyPost_ret (vy_results _ rfl rfl (set_pair HK6.out.2)) rfl ?_
    rw [HRR.out.1]
    exact ⟨rfl, vy_fin HH.out.1 HVE.out.1 HRR.out.2.1 HRR.out.2.2.1 HRR.out.2.2.2.1 HRR.out.2.2.2.2.1 HK6.out.1 _ _⟩
end Go.Proofs.YtocligpfmfmihaaGreatDoor
namespace Go.Proofs.YtocligpfmfmihaaGreatDoor
open Go Go.RowKit Go.Maps Go.Lib
theorem plain_ex (a : ByteArray) (ha : a.size ≤ 9223372036854775807) : ∃ s : Bs, Nm s ∧ Hid (∀ X, Calls Tryz.prog 25 #[.string a] X fun e w' => e = .returned (.string ⟨s.toArray⟩) ∧ X = w') :=
 ⟨plF a.data.toList, plF_nm _, hide (fun X => (plain_c X a ha).mono fun _ _ h => ⟨h.1, h.2.symm⟩)⟩
theorem moment_ex (n : Int) (h0 : -9223372036854775808 ≤ n) (h1 : n ≤ 9223372036854775807) : ∃ m : Int, 0 ≤ m ∧ m < 10000 ∧ Hid (∀ X, Calls Tryz.prog 26 #[.int .i64 n] X fun e w' => e = .returned (.int .i64 m) ∧ X = w') :=
 ⟨momS n, (momS_ok n).1, (momS_ok n).2, hide (fun X => (moment_c X n h0 h1).mono fun _ _ h => ⟨h.1, h.2.symm⟩)⟩
theorem vId : validD kId = true := low_valid (by decide)
theorem lId : ∀ c ∈ kId, 97 ≤ c.toNat ∧ c.toNat ≤ 122 := by decide
theorem pn_kp {w w' : World} {F : Nat → Prop} {nb : Nat} {nm id ky : Bs} {xs : List Bs} {st : Ldg} {c : Nat} (h : PN w F nb nm id ky xs st c) (K : Kp (fun _ => False) w w') : PN w' F nb nm id ky xs st c := by
 obtain ⟨Fk, kb, so, h⟩ := h
 exact ⟨Fk, kb, so, h.kp K⟩
theorem pn_lt {w : World} {F : Nat → Prop} {nb : Nat} {nm id ky : Bs} {xs : List Bs} {st : Ldg} {c : Nat} (h : PN w F nb nm id ky xs st c) : ∀ k, F k → k < w.heap.size := by
 obtain ⟨Fk, kb, so, h⟩ := h
 exact h.lt
theorem seal_eq (a b m : ByteArray) : ((sealF a m).toList == (sealF b m).toList) = decide ((sealF b m).data.toList = (sealF a m).data.toList) := by
 rw [Lib.toList_data, Lib.toList_data]
 by_cases h : (sealF b m).data.toList = (sealF a m).data.toList
 ·rw [h]
  simp
 ·rw [decide_eq_false h]
  simp only [beq_eq_false_iff_ne, ne_eq]
  exact fun e => h e.symm
theorem Below.setCell2 {W w : World} (h : Below W.heap.size W w) {n : Nat} (hn : W.heap.size ≤ n) (a b : Value) : Below W.heap.size W ((w.setCell ⟨n, 0, none⟩ a).setCell ⟨n, 1, none⟩ b) :=
 below_kp (Below.refl _ _) (set_kp (kp_below h) hn)
set_option maxRecDepth 20000 in
set_option maxHeartbeats 8000000 in
theorem honest_c (W : World) (hN : NG3 W) (a b c d : ByteArray) (ha : a.size ≤ 9223372036854775807) (hb : b.size ≤ 9223372036854775807) (hc : c.size ≤ 9223372036854775807) (hd : d.size ≤ 9223372036854775807) (till now ts : Int) (h1 : -9223372036854775808 ≤ till ∧ till ≤ 9223372036854775807) (h2 : -9223372036854775808 ≤ now ∧ now ≤ 9223372036854775807) (h3 : -9223372036854775808 ≤ ts ∧ ts ≤ 9223372036854775807) :
  Calls Tryz.prog 13 #[.string a, .string b, .string c, .string d, .int .i64 till, .int .i64 now, .int .i64 ts] W fun e w' => e = .returned (.bool true) ∧ Kp (fun _ => False) W w' := by
 obtain ⟨s, ns, HA⟩ := plain_ex a ha
 obtain ⟨k, nk, HB⟩ := plain_ex b hb
 obtain ⟨o, no, HC⟩ := plain_ex c hc
 obtain ⟨bd, nb', HD⟩ := plain_ex d hd
 obtain ⟨en, e0, e1, HE⟩ := moment_ex till h1.1 h1.2
 obtain ⟨at', a0, a1, HF⟩ := moment_ex ts h3.1 h3.2
 obtain ⟨t, t0, t1, HG⟩ := moment_ex now h2.1 h2.2
 clear h1 h2 h3 ha hb hc hd
 have HE1 := hide (ev_take (s := s) (b := bd) (id := kId) (sig := (sealF ⟨k.toArray⟩ ⟨(bareF (evL s bd at')).toArray⟩).data.toList) (at' := at') ns vId (by decide) nb' (seal_ok _ _).1 (by rw [(seal_ok _ _).2]; omega) a0 (by omega))
 have HE2 := hide (ev_take (s := s) (b := bd) (id := kId) (sig := (sealF ⟨o.toArray⟩ ⟨(bareF (evL s bd at')).toArray⟩).data.toList) (at' := at') ns vId (by decide) nb' (seal_ok _ _).1 (by rw [(seal_ok _ _).2]; omega) a0 (by omega))
 have HR := hide (doc_read ns lId (by decide) (by decide) nk e0 (by omega))
 go_enter Tryz.func13, Tryz.ntmps13
 go_wp2_with fail
 refine (HA.out _).mono ?_
 rintro e _ ⟨rfl, rfl⟩
 go_wp2_with fail
 refine (HB.out _).mono ?_
 rintro e _ ⟨rfl, rfl⟩
 go_wp2_with fail
 refine (HC.out _).mono ?_
 rintro e _ ⟨rfl, rfl⟩
 go_wp2_with fail
 refine (HD.out _).mono ?_
 rintro e _ ⟨rfl, rfl⟩
 go_wp2_with fail
 refine (HE.out _).mono ?_
 rintro e _ ⟨rfl, rfl⟩
 go_wp2_with fail
 refine (HF.out _).mono ?_
 rintro e _ ⟨rfl, rfl⟩
 go_wp2_with fail
 refine (HG.out _).mono ?_
 rintro e _ ⟨rfl, rfl⟩
 clear HA HB HC HD HE HF HG
 go_wp2_with fail
 refine (document_c W hN.n2.ng W (Below.refl _ _) s kId k en ns lId (by decide) (by decide) nk e0 (by omega)).mono ?_
 rintro e w1 ⟨rfl, K1⟩
 have HK1 := hide K1
 clear K1
 go_wp2_with fail
 refine (new_c w1 [109, 101] [109, 105, 110, 101] [115, 101, 99, 114, 101, 116] 0 (.slice none 0 0) [] ⟨rfl, .inl ⟨rfl, rfl⟩⟩ (by simp)).mono ?_
 rintro e w2 ⟨F, nb, rfl, K2, hP, hF⟩
 have b2 := below_kp (below_kp (Below.refl _ W) HK1.out) K2
 have hF' : ∀ k, F k → W.heap.size ≤ k := fun k h => Nat.le_trans HK1.out.size (hF k h)
 have HL := hide (hon_learn (D := sdocF s kId k en) HR.out t1)
 have HT := hide (LOk.learn (LOk.zero [sdocF s kId k en, sevF s kId k bd at', sevF s kId o bd at']) (t := sdocF s kId k en) (by simp) t)
 have HQ := hide (learn_c W hN w2 b2 F hF' nb _ _ _ [] Ldg.zero 0 hP (sdocF s kId k en) t (by omega) (by omega))
 have HB := hide (And.intro b2 hF')
 clear K2 hP hF b2 hF' HR HK1
 go_wp2_with fail
 refine HQ.out.mono ?_
 rintro e w3 ⟨rfl, hq⟩
 rw [HL.out.1]
 generalize hst : (learnS Ldg.zero (sdocF s kId k en) t).2 = st at hq HL HT
 clear hst HQ
 obtain ⟨F1, K3, hF1, Fk, kb, so, hP1⟩ := hq
 have H3 : Hid (Below W.heap.size W w3 ∧ (∀ k, F1 k → W.heap.size ≤ k) ∧ PN w3 F1 nb [109, 101] [109, 105, 110, 101] [115, 101, 99, 114, 101, 116] [] st (capT [sdocF s kId k en, sevF s kId k bd at', sevF s kId o bd at'])) :=
  hide ⟨below_fq HB.out.1 K3 HB.out.2, fun k h => (hF1 k h).elim (HB.out.2 k) (fun h => Nat.le_trans HB.out.1.size h), Fk, kb, so, hP1.tight HT.out⟩
 clear K3 hF1 hP1 HB
 obtain ⟨lim, hlim⟩ : ∃ lim, lim = min en (t + 1000) := ⟨_, rfl⟩
 rw [← hlim] at HL
 have HLM := hide hlim
 clear hlim
 by_cases hl : t + 1000 < en
 ·go_wp2_with fail
  refine (event_c W hN.n2.ng w3 H3.out.1 s kId k bd at' ns vId (by decide) nk nb' a0 (by omega)).mono ?_
  rintro e w4 ⟨rfl, K4⟩
  have b4 := below_kp H3.out.1 K4
  have hP4 := pn_kp H3.out.2.2 K4
  have H4 := hide (And.intro b4 (And.intro H3.out.2.1 hP4))
  clear b4 hP4 K4 H3
  by_cases hlt : lim < at'
  ·have HV := hide (verify_c W hN w4 H4.out.1 F1 H4.out.2.1 nb _ _ _ [] st _ HT.out (by simp) H4.out.2.2 (by simp) [] none 0 (fun j r h => by simp at h) (by simp) (by simp) (by simp) (sevF s kId k bd at') (by simp) t (by omega) (by omega) _ (hon_late (HL.out.2.1 at') HL.out.2.2 HE1.out hlt).symm)
   go_wp2_with fail
   refine HV.out.mono ?_
   rintro e w5 ⟨rfl, F2, K5, hF2, hP2⟩
   have H5 := hide (And.intro K5 (And.intro hF2 hP2))
   clear K5 hF2 hP2 HV
   rw [show outV ((((8, s), 1), vainS st s t) : ((Nat × Bs) × Nat) × Ldg).1.1 = .agg #[.int .i64 8, .string ⟨s.toArray⟩] from rfl, show ((((((8, s), 1), vainS st s t) : ((Nat × Bs) × Nat) × Ldg).1.2 : Nat) : Int) = 1 from rfl]
   have KA : Kp (fun _ => False) w5 (w5.alloc (.cells #[.int .i64 8, .string ⟨s.toArray⟩] 52)) := (Kp.refl _ _).alloc _
   have HKy := hide (key_c _ F2 nb _ _ _ [] (vainS st s t) _ (pn_kp H5.out.2.2 KA) s kId (by have := ns.few; omega) (by decide) at')
   have HM : Hid (mayS (vainS st s t) s kId at' = none) := hide (by have := HL.out.2.1 at'; rw [if_pos hlt] at this; exact this)
   have HKA := hide KA
   clear KA
   go_wp2_with fail
   refine HKy.out.mono ?_
   rintro e w6 ⟨rfl, K6⟩
   rw [HM.out]
   obtain ⟨⟨q0, q1⟩, _⟩ := pair_facts ((K6.block _ (by rw [World.size_alloc]; exact Nat.lt_succ_self _) (by simp)).trans (heap_alloc_new w5 _))
   have HF6 := hide (below_kp (below_kp (below_fq H4.out.1 H5.out.1 H4.out.2.1) HKA.out) K6)
   have hlt' : t + 1000 < at' := by have := HLM.out; omega
   clear HKy HM HKA K6
   go_wp2_with fail
   go_ret
   exact ⟨rfl, kp_below HF6.out⟩
  ·have HV := hide (verify_c W hN w4 H4.out.1 F1 H4.out.2.1 nb _ _ _ [] st _ HT.out (by simp) H4.out.2.2 (by simp) [] none 0 (fun j r h => by simp at h) (by simp) (by simp) (by simp) (sevF s kId k bd at') (by simp) t (by omega) (by omega) (((0, []), 0), st) (by rw [hon_time (e := sevF s kId k bd at') (t := t) (HL.out.2.1 at') HE1.out hlt, if_pos rfl]))
   have HM : Hid (mayS st s kId at' = some k) := hide (by have := HL.out.2.1 at'; rw [if_neg hlt] at this; exact this)
   go_wp2_with fail
   refine HV.out.mono ?_
   rintro e w5 ⟨rfl, F2, K5, hF2, hP2⟩
   have H5 := hide (And.intro (below_fq H4.out.1 K5 H4.out.2.1) (And.intro (fun k h => (hF2 k h).elim (H4.out.2.1 k) (fun h => Nat.le_trans H4.out.1.size h) : ∀ k, F2 k → W.heap.size ≤ k) hP2))
   clear K5 hF2 hP2 HV H4
   rw [show outV ((((0, []), 0), st) : ((Nat × Bs) × Nat) × Ldg).1.1 = .agg #[.int .i64 0, .string ⟨#[]⟩] from rfl, show ((((((0, []), 0), st) : ((Nat × Bs) × Nat) × Ldg).1.2 : Nat) : Int) = 0 from rfl]
   have KA : Kp (fun _ => False) w5 (w5.alloc (.cells #[.int .i64 0, .string ⟨#[]⟩] 52)) := (Kp.refl _ _).alloc _
   have HKy := hide (key_c _ F2 nb _ _ _ [] st _ (pn_kp H5.out.2.2 KA) s kId (by have := ns.few; omega) (by decide) at')
   have HKA := hide KA
   clear KA
   go_wp2_with fail
   refine HKy.out.mono ?_
   rintro e w6 ⟨rfl, K6⟩
   rw [HM.out]
   obtain ⟨⟨q0, q1⟩, _⟩ := pair_facts ((K6.block _ (by rw [World.size_alloc]; exact Nat.lt_succ_self _) (by simp)).trans (heap_alloc_new w5 _))
   have H6 := hide (And.intro (below_kp (below_kp H5.out.1 HKA.out) K6) (And.intro (HKA.out.trans K6) ((K6.block _ (by rw [World.size_alloc]; exact Nat.lt_succ_self _) (by simp)).trans (heap_alloc_new w5 _))))
   have hlt' : ¬ t + 1000 < at' := by have := HLM.out; omega
   clear HKy HM HKA K6
   go_wp2_with fail
   refine (event_c W hN.n2.ng w6 H6.out.1 s kId o bd at' ns vId (by decide) no nb' a0 (by omega)).mono ?_
   rintro e w7 ⟨rfl, K7⟩
   have hn6 : w5.heap.size < w6.heap.size := lt_heap H6.out.2.2
   have H7 : Hid (Below W.heap.size W w7 ∧ PN w7 F2 nb [109, 101] [109, 105, 110, 101] [115, 101, 99, 114, 101, 116] [] st (capT [sdocF s kId k en, sevF s kId k bd at', sevF s kId o bd at']) ∧ w7.heap[w5.heap.size]? = some (.cells #[.int .i64 0, .string ⟨#[]⟩] 52) ∧ ¬ F2 w5.heap.size ∧ W.heap.size ≤ w5.heap.size) :=
    hide ⟨below_kp H6.out.1 K7, pn_kp (pn_kp H5.out.2.2 H6.out.2.1) K7, (K7.block _ hn6 (by simp)).trans H6.out.2.2, fun h => Nat.lt_irrefl _ (pn_lt H5.out.2.2 _ h), H5.out.1.size⟩
   clear K7 hn6 H6 q0 q1
   have HSE := hide (seal_eq ⟨k.toArray⟩ ⟨o.toArray⟩ ⟨(bareF (evL s bd at')).toArray⟩)
   by_cases heq : (sealF ⟨o.toArray⟩ ⟨(bareF (evL s bd at')).toArray⟩).data.toList = (sealF ⟨k.toArray⟩ ⟨(bareF (evL s bd at')).toArray⟩).data.toList
   ·have HV := hide (verify_c W hN w7 H7.out.1 F2 H5.out.2.1 nb _ _ _ [] st _ HT.out (by simp) H7.out.2.1 (by simp) [] none 0 (fun j r h => by simp at h) (by simp) (by simp) (by simp) (sevF s kId o bd at') (by simp) t (by omega) (by omega) (((0, []), 0), st) (by rw [hon_time (e := sevF s kId o bd at') (t := t) (HL.out.2.1 at') HE2.out (by omega), if_pos heq]))
    rw [decide_eq_true heq] at HSE
    have HEQ := hide heq
    clear heq
    go_wp2_with fail
    refine HV.out.mono ?_
    rintro e w8 ⟨rfl, F3, K8, hF3, hP3⟩
    have r8 := (K8.block _ (lt_heap H7.out.2.2.1) H7.out.2.2.2.1).trans H7.out.2.2.1
    obtain ⟨⟨q0, q1⟩, z0, z1⟩ := pair_facts r8
    have b8 := below_fq H7.out.1 K8 H5.out.2.1
    have b9 := Below.setCell2 b8 H7.out.2.2.2.2 (.int .i64 0) (.string ⟨([] : Bs).toArray⟩)
    have r9 := set_pair (p := .int .i64 0) (q := .string ⟨([] : Bs).toArray⟩) r8
    have H9 := hide (And.intro b9 r9)
    clear K8 hF3 hP3 HV r8 b8 b9 r9
    rw [show outV ((((0, []), 0), st) : ((Nat × Bs) × Nat) × Ldg).1.1 = .agg #[.int .i64 0, .string ⟨([] : Bs).toArray⟩] from rfl, show ((((((0, []), 0), st) : ((Nat × Bs) × Nat) × Ldg).1.2 : Nat) : Int) = 0 from rfl]
    go_wp2_with fail
    refine (same_c W hN.n2.ng _ H9.out.1 s k o bd at' ns nk no nb' a0 (by omega)).mono ?_
    rintro e w10 ⟨rfl, K10⟩
    rw [HSE.out]
    clear q0 q1 z0 z1
    obtain ⟨⟨q0, q1⟩, _⟩ := pair_facts ((K10.block _ (lt_heap H9.out.2) (by simp)).trans H9.out.2)
    have HF := hide (below_kp H9.out.1 K10)
    clear K10
    go_wp2_with fail
    go_ret
    exact ⟨rfl, kp_below HF.out⟩
   ·have HV := hide (verify_c W hN w7 H7.out.1 F2 H5.out.2.1 nb _ _ _ [] st _ HT.out (by simp) H7.out.2.1 (by simp) [] none 0 (fun j r h => by simp at h) (by simp) (by simp) (by simp) (sevF s kId o bd at') (by simp) t (by omega) (by omega) (((5, s), 0), st) (by rw [hon_time (e := sevF s kId o bd at') (t := t) (HL.out.2.1 at') HE2.out (by omega), if_neg heq]))
    rw [decide_eq_false heq] at HSE
    have HEQ := hide heq
    clear heq
    go_wp2_with fail
    refine HV.out.mono ?_
    rintro e w8 ⟨rfl, F3, K8, hF3, hP3⟩
    have r8 := (K8.block _ (lt_heap H7.out.2.2.1) H7.out.2.2.2.1).trans H7.out.2.2.1
    obtain ⟨⟨q0, q1⟩, z0, z1⟩ := pair_facts r8
    have b8 := below_fq H7.out.1 K8 H5.out.2.1
    have b9 := Below.setCell2 b8 H7.out.2.2.2.2 (.int .i64 5) (.string ⟨(s : Bs).toArray⟩)
    have r9 := set_pair (p := .int .i64 5) (q := .string ⟨(s : Bs).toArray⟩) r8
    have H9 := hide (And.intro b9 r9)
    clear K8 hF3 hP3 HV r8 b8 b9 r9
    rw [show outV ((((5, s), 0), st) : ((Nat × Bs) × Nat) × Ldg).1.1 = .agg #[.int .i64 5, .string ⟨(s : Bs).toArray⟩] from rfl, show ((((((5, s), 0), st) : ((Nat × Bs) × Nat) × Ldg).1.2 : Nat) : Int) = 0 from rfl]
    go_wp2_with fail
    refine (same_c W hN.n2.ng _ H9.out.1 s k o bd at' ns nk no nb' a0 (by omega)).mono ?_
    rintro e w10 ⟨rfl, K10⟩
    rw [HSE.out]
    clear q0 q1 z0 z1
    obtain ⟨⟨q0, q1⟩, _⟩ := pair_facts ((K10.block _ (lt_heap H9.out.2) (by simp)).trans H9.out.2)
    have HF := hide (below_kp H9.out.1 K10)
    clear K10
    go_wp2_with fail
    go_ret
    exact ⟨rfl, kp_below HF.out⟩
 ·go_wp2_with fail
  refine (event_c W hN.n2.ng w3 H3.out.1 s kId k bd at' ns vId (by decide) nk nb' a0 (by omega)).mono ?_
  rintro e w4 ⟨rfl, K4⟩
  have b4 := below_kp H3.out.1 K4
  have hP4 := pn_kp H3.out.2.2 K4
  have H4 := hide (And.intro b4 (And.intro H3.out.2.1 hP4))
  clear b4 hP4 K4 H3
  by_cases hlt : lim < at'
  ·have HV := hide (verify_c W hN w4 H4.out.1 F1 H4.out.2.1 nb _ _ _ [] st _ HT.out (by simp) H4.out.2.2 (by simp) [] none 0 (fun j r h => by simp at h) (by simp) (by simp) (by simp) (sevF s kId k bd at') (by simp) t (by omega) (by omega) _ (hon_late (HL.out.2.1 at') HL.out.2.2 HE1.out hlt).symm)
   go_wp2_with fail
   refine HV.out.mono ?_
   rintro e w5 ⟨rfl, F2, K5, hF2, hP2⟩
   have H5 := hide (And.intro K5 (And.intro hF2 hP2))
   clear K5 hF2 hP2 HV
   rw [show outV ((((8, s), 1), vainS st s t) : ((Nat × Bs) × Nat) × Ldg).1.1 = .agg #[.int .i64 8, .string ⟨s.toArray⟩] from rfl, show ((((((8, s), 1), vainS st s t) : ((Nat × Bs) × Nat) × Ldg).1.2 : Nat) : Int) = 1 from rfl]
   have KA : Kp (fun _ => False) w5 (w5.alloc (.cells #[.int .i64 8, .string ⟨s.toArray⟩] 52)) := (Kp.refl _ _).alloc _
   have HKy := hide (key_c _ F2 nb _ _ _ [] (vainS st s t) _ (pn_kp H5.out.2.2 KA) s kId (by have := ns.few; omega) (by decide) at')
   have HM : Hid (mayS (vainS st s t) s kId at' = none) := hide (by have := HL.out.2.1 at'; rw [if_pos hlt] at this; exact this)
   have HKA := hide KA
   clear KA
   go_wp2_with fail
   refine HKy.out.mono ?_
   rintro e w6 ⟨rfl, K6⟩
   rw [HM.out]
   obtain ⟨⟨q0, q1⟩, _⟩ := pair_facts ((K6.block _ (by rw [World.size_alloc]; exact Nat.lt_succ_self _) (by simp)).trans (heap_alloc_new w5 _))
   have HF6 := hide (below_kp (below_kp (below_fq H4.out.1 H5.out.1 H4.out.2.1) HKA.out) K6)
   have hlt' : en < at' := by have := HLM.out; omega
   clear HKy HM HKA K6
   go_wp2_with fail
   go_ret
   exact ⟨rfl, kp_below HF6.out⟩
  ·have HV := hide (verify_c W hN w4 H4.out.1 F1 H4.out.2.1 nb _ _ _ [] st _ HT.out (by simp) H4.out.2.2 (by simp) [] none 0 (fun j r h => by simp at h) (by simp) (by simp) (by simp) (sevF s kId k bd at') (by simp) t (by omega) (by omega) (((0, []), 0), st) (by rw [hon_time (e := sevF s kId k bd at') (t := t) (HL.out.2.1 at') HE1.out hlt, if_pos rfl]))
   have HM : Hid (mayS st s kId at' = some k) := hide (by have := HL.out.2.1 at'; rw [if_neg hlt] at this; exact this)
   go_wp2_with fail
   refine HV.out.mono ?_
   rintro e w5 ⟨rfl, F2, K5, hF2, hP2⟩
   have H5 := hide (And.intro (below_fq H4.out.1 K5 H4.out.2.1) (And.intro (fun k h => (hF2 k h).elim (H4.out.2.1 k) (fun h => Nat.le_trans H4.out.1.size h) : ∀ k, F2 k → W.heap.size ≤ k) hP2))
   clear K5 hF2 hP2 HV H4
   rw [show outV ((((0, []), 0), st) : ((Nat × Bs) × Nat) × Ldg).1.1 = .agg #[.int .i64 0, .string ⟨#[]⟩] from rfl, show ((((((0, []), 0), st) : ((Nat × Bs) × Nat) × Ldg).1.2 : Nat) : Int) = 0 from rfl]
   have KA : Kp (fun _ => False) w5 (w5.alloc (.cells #[.int .i64 0, .string ⟨#[]⟩] 52)) := (Kp.refl _ _).alloc _
   have HKy := hide (key_c _ F2 nb _ _ _ [] st _ (pn_kp H5.out.2.2 KA) s kId (by have := ns.few; omega) (by decide) at')
   have HKA := hide KA
   clear KA
   go_wp2_with fail
   refine HKy.out.mono ?_
   rintro e w6 ⟨rfl, K6⟩
   rw [HM.out]
   obtain ⟨⟨q0, q1⟩, _⟩ := pair_facts ((K6.block _ (by rw [World.size_alloc]; exact Nat.lt_succ_self _) (by simp)).trans (heap_alloc_new w5 _))
   have H6 := hide (And.intro (below_kp (below_kp H5.out.1 HKA.out) K6) (And.intro (HKA.out.trans K6) ((K6.block _ (by rw [World.size_alloc]; exact Nat.lt_succ_self _) (by simp)).trans (heap_alloc_new w5 _))))
   have hlt' : ¬ en < at' := by have := HLM.out; omega
   clear HKy HM HKA K6
   go_wp2_with fail
   refine (event_c W hN.n2.ng w6 H6.out.1 s kId o bd at' ns vId (by decide) no nb' a0 (by omega)).mono ?_
   rintro e w7 ⟨rfl, K7⟩
   have hn6 : w5.heap.size < w6.heap.size := lt_heap H6.out.2.2
   have H7 : Hid (Below W.heap.size W w7 ∧ PN w7 F2 nb [109, 101] [109, 105, 110, 101] [115, 101, 99, 114, 101, 116] [] st (capT [sdocF s kId k en, sevF s kId k bd at', sevF s kId o bd at']) ∧ w7.heap[w5.heap.size]? = some (.cells #[.int .i64 0, .string ⟨#[]⟩] 52) ∧ ¬ F2 w5.heap.size ∧ W.heap.size ≤ w5.heap.size) :=
    hide ⟨below_kp H6.out.1 K7, pn_kp (pn_kp H5.out.2.2 H6.out.2.1) K7, (K7.block _ hn6 (by simp)).trans H6.out.2.2, fun h => Nat.lt_irrefl _ (pn_lt H5.out.2.2 _ h), H5.out.1.size⟩
   clear K7 hn6 H6 q0 q1
   have HSE := hide (seal_eq ⟨k.toArray⟩ ⟨o.toArray⟩ ⟨(bareF (evL s bd at')).toArray⟩)
   by_cases heq : (sealF ⟨o.toArray⟩ ⟨(bareF (evL s bd at')).toArray⟩).data.toList = (sealF ⟨k.toArray⟩ ⟨(bareF (evL s bd at')).toArray⟩).data.toList
   ·have HV := hide (verify_c W hN w7 H7.out.1 F2 H5.out.2.1 nb _ _ _ [] st _ HT.out (by simp) H7.out.2.1 (by simp) [] none 0 (fun j r h => by simp at h) (by simp) (by simp) (by simp) (sevF s kId o bd at') (by simp) t (by omega) (by omega) (((0, []), 0), st) (by rw [hon_time (e := sevF s kId o bd at') (t := t) (HL.out.2.1 at') HE2.out (by omega), if_pos heq]))
    rw [decide_eq_true heq] at HSE
    have HEQ := hide heq
    clear heq
    go_wp2_with fail
    refine HV.out.mono ?_
    rintro e w8 ⟨rfl, F3, K8, hF3, hP3⟩
    have r8 := (K8.block _ (lt_heap H7.out.2.2.1) H7.out.2.2.2.1).trans H7.out.2.2.1
    obtain ⟨⟨q0, q1⟩, z0, z1⟩ := pair_facts r8
    have b8 := below_fq H7.out.1 K8 H5.out.2.1
    have b9 := Below.setCell2 b8 H7.out.2.2.2.2 (.int .i64 0) (.string ⟨([] : Bs).toArray⟩)
    have r9 := set_pair (p := .int .i64 0) (q := .string ⟨([] : Bs).toArray⟩) r8
    have H9 := hide (And.intro b9 r9)
    clear K8 hF3 hP3 HV r8 b8 b9 r9
    rw [show outV ((((0, []), 0), st) : ((Nat × Bs) × Nat) × Ldg).1.1 = .agg #[.int .i64 0, .string ⟨([] : Bs).toArray⟩] from rfl, show ((((((0, []), 0), st) : ((Nat × Bs) × Nat) × Ldg).1.2 : Nat) : Int) = 0 from rfl]
    go_wp2_with fail
    refine (same_c W hN.n2.ng _ H9.out.1 s k o bd at' ns nk no nb' a0 (by omega)).mono ?_
    rintro e w10 ⟨rfl, K10⟩
    rw [HSE.out]
    clear q0 q1 z0 z1
    obtain ⟨⟨q0, q1⟩, _⟩ := pair_facts ((K10.block _ (lt_heap H9.out.2) (by simp)).trans H9.out.2)
    have HF := hide (below_kp H9.out.1 K10)
    clear K10
    go_wp2_with fail
    go_ret
    exact ⟨rfl, kp_below HF.out⟩
   ·have HV := hide (verify_c W hN w7 H7.out.1 F2 H5.out.2.1 nb _ _ _ [] st _ HT.out (by simp) H7.out.2.1 (by simp) [] none 0 (fun j r h => by simp at h) (by simp) (by simp) (by simp) (sevF s kId o bd at') (by simp) t (by omega) (by omega) (((5, s), 0), st) (by rw [hon_time (e := sevF s kId o bd at') (t := t) (HL.out.2.1 at') HE2.out (by omega), if_neg heq]))
    rw [decide_eq_false heq] at HSE
    have HEQ := hide heq
    clear heq
    go_wp2_with fail
    refine HV.out.mono ?_
    rintro e w8 ⟨rfl, F3, K8, hF3, hP3⟩
    have r8 := (K8.block _ (lt_heap H7.out.2.2.1) H7.out.2.2.2.1).trans H7.out.2.2.1
    obtain ⟨⟨q0, q1⟩, z0, z1⟩ := pair_facts r8
    have b8 := below_fq H7.out.1 K8 H5.out.2.1
    have b9 := Below.setCell2 b8 H7.out.2.2.2.2 (.int .i64 5) (.string ⟨(s : Bs).toArray⟩)
    have r9 := set_pair (p := .int .i64 5) (q := .string ⟨(s : Bs).toArray⟩) r8
    have H9 := hide (And.intro b9 r9)
    clear K8 hF3 hP3 HV r8 b8 b9 r9
    rw [show outV ((((5, s), 0), st) : ((Nat × Bs) × Nat) × Ldg).1.1 = .agg #[.int .i64 5, .string ⟨(s : Bs).toArray⟩] from rfl, show ((((((5, s), 0), st) : ((Nat × Bs) × Nat) × Ldg).1.2 : Nat) : Int) = 0 from rfl]
    go_wp2_with fail
    refine (same_c W hN.n2.ng _ H9.out.1 s k o bd at' ns nk no nb' a0 (by omega)).mono ?_
    rintro e w10 ⟨rfl, K10⟩
    rw [HSE.out]
    clear q0 q1 z0 z1
    obtain ⟨⟨q0, q1⟩, _⟩ := pair_facts ((K10.block _ (lt_heap H9.out.2) (by simp)).trans H9.out.2)
    have HF := hide (below_kp H9.out.1 K10)
    clear K10
    go_wp2_with fail
    go_ret
    exact ⟨rfl, kp_below HF.out⟩
end Go.Proofs.YtocligpfmfmihaaGreatDoor

import Derived.Test.YtocligpfmfmihaaGreatDoorChn6wG
import Derived.Test.YtocligpfmfmihaaGreatDoorVp5G
import Derived.Test.YtocligpfmfmihaaGreatDoorRn3G
namespace Go.Proofs.YtocligpfmfmihaaGreatDoor
open Go Go.RowKit Go.Maps Go.WideMaps
attribute [local go_sem] Oper.semAt_some
theorem oc_results {w : World} {rb : Nat} {a b : Value} (tmps : Array Value) (h2 : tmps[2]?.getD undef = .pointer (some ⟨rb, 0, none⟩)) (hb : w.heap[rb]? = some (.cells #[a, b] 52)) :
  (results Tryz.f58 tmps).run Tryz.prog w = .ok (.agg #[a, b]) w := by
 obtain ⟨⟨c0, c1⟩, _⟩ := pair_facts hb
 simp [results, Tryz.results58, go_sem, h2, c0, c1]
theorem as_none (W : World) (hN : NG2 W) (w w0 : World) (K0 : Kp (fun _ => False) w w0) (hW0 : Below W.heap.size W w0) (ev : Value) (n tb : Nat) (hh : Evr W w ev n) (ht : w0.heap[tb]? = some (.cells #[.pointer none] 188)) :
  Calls Tryz.prog 67 #[ev, .iface 189 (.pointer (some ⟨tb, 0, none⟩))] w0 fun e w' => AsR Lk.srv 188 w0 tb none e w' := by
 have hg := Below.cl hW0 hN.ng.ety
 rcases hh with (⟨_, h⟩ | ⟨_, fb, rfl, k, g, cb, hf, _⟩ | ⟨_, h⟩) | ⟨a, ks, hc, hf, _⟩
 ·obtain ⟨a, c, t, h1, _⟩ := hN.ng.lon
  rw [h1] at h
  injection h with h
  subst h
  exact as_srv w0 a [] _ .nil tb _ hg ht
 ·exact as_srvF w0 fb _ cb (K0.heap hf) tb _ hg ht
 ·obtain ⟨a, c, t, h1, _⟩ := hN.ng.obj
  rw [h1] at h
  injection h with h
  subst h
  exact as_srv w0 a [] _ .nil tb _ hg ht
 ·have := as_srv w0 a ks ev (hc.kp K0) tb _ hg ht
  rw [hf] at this
  exact this
theorem Evr.enr {W w w' : World} {ev : Value} {n : Nat} (h : Evr W w ev n) (K : Kp (fun _ => False) w w') : Enr W w' ev n := by
 rcases h with h | ⟨_, _, _, _, h⟩
 ·exact Or.inl (h.up K)
 ·exact Or.inr (h.up K)
set_option maxRecDepth 20000 in
set_option maxHeartbeats 4000000 in
theorem outcome_ev (W : World) (hN : NG2 W) (w : World) (hW : Below W.heap.size W w) (tt : TypeId) (uu : Value) (n : Nat) (hh : Evr W w (.iface tt uu) n) :
  Calls Tryz.prog 58 #[.iface tt uu] w fun e w' => e = .returned (outV (n, [])) ∧ Kp (fun _ => False) w w' := by
 have K0 : Kp (fun _ => False) w ((w.alloc (.cells #[.int .i64 0, .string ⟨#[]⟩] 52)).alloc (.cells #[.pointer none] 188)) := ((Kp.refl _ _).alloc _).alloc _
 have I0 : ((w.alloc (.cells #[.int .i64 0, .string ⟨#[]⟩] 52)).alloc (.cells #[.pointer none] 188)).heap[w.heap.size]? = some (.cells #[.int .i64 0, .string ⟨#[]⟩] 52) := ((Kp.refl (fun _ => False) _).alloc _).heap (heap_alloc_new w _)
 have I1 : ((w.alloc (.cells #[.int .i64 0, .string ⟨#[]⟩] 52)).alloc (.cells #[.pointer none] 188)).heap[w.heap.size + 1]? = some (.cells #[.pointer none] 188) := by
  have := heap_alloc_new (w.alloc (.cells #[.int .i64 0, .string ⟨#[]⟩] 52)) (.cells #[.pointer none] 188)
  rwa [World.size_alloc] at this
 have HAS := hide (as_none W hN w _ K0 (below_kp hW K0) _ n _ hh I1)
 have HH := hide (And.intro hh (And.intro K0 I0))
 clear hh K0 I0 I1
 go_enter Tryz.func58, Tryz.ntmps58
 go_wp2_with fail
 generalize ((w.alloc (.cells #[.int .i64 0, .string ⟨#[]⟩] 52)).alloc (.cells #[.pointer none] 188)) = w0 at *
 refine HAS.out.mono ?_
 rintro e w1 ⟨K1, he⟩
 replace he : e = .returned (.bool false) := he
 subst he
 have Kw1 : Kp (fun _ => False) w w1 := HH.out.2.1.and K1 (fun q hq e => by omega)
 have Iw1 : w1.heap[w.heap.size]? = some (.cells #[.int .i64 0, .string ⟨#[]⟩] 52) := (K1.block _ (lt_heap HH.out.2.2) (by omega)).trans HH.out.2.2
 have HER := hide (errno_a W hN w1 (below_kp hW Kw1) _ n (HH.out.1.enr Kw1))
 have HK1 := hide (And.intro Kw1 Iw1)
 clear K1 Kw1 Iw1 HAS
 go_wp2_with fail
 refine HER.out.mono ?_
 rintro e w2 ⟨rfl, K2⟩
 have I2 := K2.heap HK1.out.2
 obtain ⟨⟨b0, b1⟩, b2, b3⟩ := pair_facts I2
 have HK2 := hide (And.intro (HK1.out.1.trans K2) I2)
 clear K2 I2 HER
 go_wp2
 refine bodyPost_ret (oc_results _ rfl (set_pair HK2.out.2)) rfl ?_
 exact ⟨rfl, set_kp HK2.out.1 (Nat.le_refl _)⟩
theorem as_nil (t : TypeId) (u : Value) (w : World) : Calls Tryz.prog 67 #[.nilIface, .iface t u] w fun e w' => e = .returned (.bool false) ∧ w' = w := by
 go_enter Tryz.func67, Tryz.ntmps67
 go_wp2
 go_ret
 exact ⟨rfl, rfl⟩
set_option maxRecDepth 20000 in
set_option maxHeartbeats 4000000 in
theorem outcome_nil (w : World) : Calls Tryz.prog 58 #[.nilIface] w fun e w' => e = .returned (outV (0, [])) ∧ Kp (fun _ => False) w w' := by
 have K0 : Kp (fun _ => False) w ((w.alloc (.cells #[.int .i64 0, .string ⟨#[]⟩] 52)).alloc (.cells #[.pointer none] 188)) := ((Kp.refl _ _).alloc _).alloc _
 have I0 : ((w.alloc (.cells #[.int .i64 0, .string ⟨#[]⟩] 52)).alloc (.cells #[.pointer none] 188)).heap[w.heap.size]? = some (.cells #[.int .i64 0, .string ⟨#[]⟩] 52) := ((Kp.refl (fun _ => False) _).alloc _).heap (heap_alloc_new w _)
 have HAS := hide (as_nil 189 (.pointer (some ⟨w.heap.size + 1, 0, none⟩)) ((w.alloc (.cells #[.int .i64 0, .string ⟨#[]⟩] 52)).alloc (.cells #[.pointer none] 188)))
 have HK0 := hide (And.intro K0 I0)
 clear K0 I0
 go_enter Tryz.func58, Tryz.ntmps58
 go_wp2_with fail
 generalize ((w.alloc (.cells #[.int .i64 0, .string ⟨#[]⟩] 52)).alloc (.cells #[.pointer none] 188)) = w0 at *
 refine HAS.out.mono ?_
 rintro e w1 ⟨rfl, rfl⟩
 have HER := hide (errno_nil w1)
 clear HAS
 go_wp2_with fail
 refine HER.out.mono ?_
 rintro e w2 ⟨rfl, K2⟩
 have I2 := K2.heap HK0.out.2
 obtain ⟨⟨b0, b1⟩, b2, b3⟩ := pair_facts I2
 have HK2 := hide (And.intro (HK0.out.1.trans K2) I2)
 clear K2 I2 HER
 go_wp2
 refine bodyPost_ret (oc_results _ rfl (set_pair HK2.out.2)) rfl ?_
 exact ⟨rfl, set_kp HK2.out.1 (Nat.le_refl _)⟩
def OcC (w1 : World) (n : Nat) (o : Nat × Bs) (Y : World) : Prop := ∃ X, Kp (fun _ => False) w1.drew X ∧ Y = (X.setCell ⟨n, 0, none⟩ (.int .i64 (o.1 : Int))).setCell ⟨n, 1, none⟩ (.string ⟨o.2.toArray⟩)
set_option maxRecDepth 20000 in
set_option maxHeartbeats 4000000 in
theorem outcome_srv (W : World) (hN : NG3 W) (w : World) (hW : Below W.heap.size W w) (o : Nat × Bs) (q : Nat) (a : Addr) (hq : w.heap[q]? = some (.cells #[.string ⟨o.2.toArray⟩, errV a] 191)) (hh : (o.1 = 8 ∧ W.cell? ⟨3, 0, none⟩ = some (errV a)) ∨ (o.1 = 5 ∧ Plain W a)) :
  Calls Tryz.prog 58 #[.iface 188 (.pointer (some ⟨q, 0, none⟩))] w fun e w' => e = .returned (outV o) ∧ Kp (fun _ => False) w w' := by
 have K0 : Kp (fun _ => False) w ((w.alloc (.cells #[.int .i64 0, .string ⟨#[]⟩] 52)).alloc (.cells #[.pointer none] 188)) := ((Kp.refl _ _).alloc _).alloc _
 have I0 : ((w.alloc (.cells #[.int .i64 0, .string ⟨#[]⟩] 52)).alloc (.cells #[.pointer none] 188)).heap[w.heap.size]? = some (.cells #[.int .i64 0, .string ⟨#[]⟩] 52) := ((Kp.refl (fun _ => False) _).alloc _).heap (heap_alloc_new w _)
 have I1 : ((w.alloc (.cells #[.int .i64 0, .string ⟨#[]⟩] 52)).alloc (.cells #[.pointer none] 188)).heap[w.heap.size + 1]? = some (.cells #[.pointer none] 188) := by
  have := heap_alloc_new (w.alloc (.cells #[.int .i64 0, .string ⟨#[]⟩] 52)) (.cells #[.pointer none] 188)
  rwa [World.size_alloc] at this
 have hch : ∀ X, Kp (fun _ => False) w X → Chn X a [(.srv, ⟨o.2.toArray⟩)] (.iface 188 (.pointer (some ⟨q, 0, none⟩))) := fun X hX => .cons .srv [] q ⟨o.2.toArray⟩ (errV a) (hX.heap hq) .nil
 have hchd : ∀ X, Kp (fun _ => False) w X → Chd W X (.iface 188 (.pointer (some ⟨q, 0, none⟩))) o.1 := by
  intro X hX
  rcases hh with ⟨h1, hu⟩ | ⟨h1, hp⟩
  ·rw [h1]
   obtain ⟨a', c, t, e1, e2⟩ := hN.n2.lay 3 (by simp [four])
   rw [hu] at e1
   unfold errV at e1
   injection e1 with e1
   injection e1 with _ e1
   injection e1 with e1
   injection e1 with e1
   subst e1
   exact ⟨a, _, hch X hX, ⟨c, t, e2⟩, hN.dis _ (by simp [four]) _ (by simp [four]) (by decide) a hu, hN.dis _ (by simp [four]) _ (by simp [four]) (by decide) a hu, .unk (by simp) (hN.dis _ (by simp [four]) _ (by simp [four]) (by decide) a hu) (by simp) hu⟩
  ·rw [h1]
   exact ⟨a, _, hch X hX, hp.1, hp.2 _ (by simp [four]), hp.2 _ (by simp [four]), .other (by simp) (hp.2 _ (by simp [four])) (by simp) (hp.2 _ (by simp [four]))⟩
 have HAS := hide (as_srv _ a _ _ (hch _ K0) (w.heap.size + 1) _ (Below.cl (below_kp hW K0) hN.n2.ng.ety) I1)
 have HH := hide (And.intro hchd (And.intro K0 I0))
 clear hh K0 I0 I1 hch hchd hq
 go_enter Tryz.func58, Tryz.ntmps58
 go_wp2_with fail
 generalize ((w.alloc (.cells #[.int .i64 0, .string ⟨#[]⟩] 52)).alloc (.cells #[.pointer none] 188)) = w0 at *
 refine HAS.out.mono ?_
 rintro e w1 ⟨K1, h1⟩
 have h1' : e = .returned (.bool true) ∧ ∃ b ev, w1.heap[w.heap.size + 1]? = some (.cells #[.pointer (some ⟨b, 0, none⟩)] 188) ∧ w1.heap[b]? = some (.cells #[.string ⟨o.2.toArray⟩, ev] 191) := h1
 obtain ⟨rfl, b, ev, hb1, hb2⟩ := h1'
 clear h1
 have Kw1 : Kp (fun _ => False) w w1 := HH.out.2.1.and K1 (fun q hq e => by omega)
 have Iw1 : w1.heap[w.heap.size]? = some (.cells #[.int .i64 0, .string ⟨#[]⟩] 52) := (K1.block _ (lt_heap HH.out.2.2) (by omega)).trans HH.out.2.2
 have HER := hide (errno_a W hN.n2 w1.drew (below_kp hW Kw1.drew) _ o.1 (Or.inr (HH.out.1 w1.drew Kw1.drew)))
 obtain ⟨p0, p1⟩ := one_cells hb1
 obtain ⟨⟨s0, s1⟩, _⟩ := pair_facts hb2
 have HK1 := hide (And.intro Kw1 (And.intro Iw1 (And.intro hb1 hb2)))
 clear K1 Kw1 Iw1 HAS hb1 hb2
 go_wp2_with fail
 refine wp_md ?_ (OcC w1 w.heap.size o) ?_ ?_
 rotate_left
 ·go_region_law (refine step_callF rfl 35 _ _ rfl #[.iface 188 (.pointer (some ⟨q, 0, none⟩))] (by go_simp) ?_; refine HER.out.mono ?_; rintro e w2 ⟨rfl, hq⟩; have t0 := hq.cel (show w1.drew.cell? ⟨w.heap.size + 1, 0, none⟩ = _ from p0); have t1 := hq.cel (show w1.drew.cell? ⟨b, 0, none⟩ = _ from s0); obtain ⟨⟨r0, r1⟩, r2, r3⟩ := pair_facts (hq.heap (show w1.drew.heap[w.heap.size]? = _ from HK1.out.2.1)))
  all_goals exact md_normal (C := OcC w1 w.heap.size o) ⟨_, hq, rfl⟩
 rintro _ ⟨X, KX, rfl⟩
 have HKX := hide (And.intro (HK1.out.1.drew.trans KX) (KX.heap (show w1.drew.heap[w.heap.size]? = _ from HK1.out.2.1)))
 clear KX
 go_wp2
 refine bodyPost_ret (oc_results _ rfl (set_pair HKX.out.2)) rfl ?_
 exact ⟨rfl, set_kp HKX.out.1 (Nat.le_refl _)⟩
end Go.Proofs.YtocligpfmfmihaaGreatDoor
namespace Go.Proofs.YtocligpfmfmihaaGreatDoor
open Go Go.RowKit Go.Maps Go.WideMaps
attribute [local go_sem] Oper.semAt_some
set_option maxRecDepth 20000 in
theorem answering_c (w : World) (v : Value) (hv : ∃ a n c, v = .slice a n c) : Calls Tryz.prog 59 #[v] w fun e w' => e = .returned (.func (.func 102) #[] #[.pointer (some ⟨w.heap.size, 0, none⟩)]) ∧ w' = w.alloc (.cells #[v] 91) := by
 obtain ⟨a, n, c, rfl⟩ := hv
 go_enter Tryz.func59, Tryz.ntmps59
 go_wp2
 go_ret
 exact ⟨rfl, rfl⟩
set_option maxRecDepth 20000 in
set_option maxHeartbeats 4000000 in
theorem asked_c (W : World) (hN : NG3 W) (w : World) (hW : Below W.heap.size W w) (rs : List Rpl) (ra : Option Addr) (rc cb : Nat) (hI : RpI w rs ra) (hrl : rs.length ≤ 1100000000) (hcb : w.heap[cb]? = some (.cells #[.slice ra rs.length rc] 91)) (src srv : Bs) :
  Calls Tryz.prog 102 #[.string ⟨src.toArray⟩, .string ⟨srv.toArray⟩, .pointer (some ⟨cb, 0, none⟩)] w fun e w' => Kp (fun _ => False) w w' ∧ ((∃ t, fetF rs src srv = some t ∧ e = .returned (.tuple #[.string ⟨t.toArray⟩, .nilIface])) ∨ (∃ a, fetF rs src srv = none ∧ e = .returned (.tuple #[.string ⟨#[]⟩, errV a]))) := by
 obtain ⟨ef, hef, _⟩ := hN.oth 6 (by simp)
 obtain ⟨cc, _⟩ := one_cells hcb
 have HI := hide hI
 clear hI
 go_enter Tryz.func102, Tryz.ntmps102
 go_wp2_with fail
 go_loopg [11] rs.length (fun gg q wx => ∃ (i : Nat), gg = rs.length - i ∧ i ≤ rs.length ∧ q = .int .i64 (i : Int) ∧ Kp (fun _ => False) w wx ∧ ∀ (j : Nat) (p : Rpl), j < i → rs[j]? = some p → isR src srv p = false)
 case atStart => exact ⟨0, rfl, by omega, rfl, Kp.refl _ _, fun _ _ h => absurd h (by omega)⟩
 case round =>
  obtain ⟨i, hgg, hin, rfl, Kr, hall⟩ := hrel
  have HY := hide (And.intro hgg (And.intro Kr hall))
  have hce := Below.cl (below_kp hW Kr) hef
  unfold errV at hce
  clear hgg hall
  by_cases hlt : i < rs.length
  ·have hlt' : (i : Int) < (rs.length : Int) := by omega
   obtain ⟨p, hp⟩ : ∃ p, rs[i]? = some p := ⟨rs[i], List.getElem?_eq_getElem hlt⟩
   obtain ⟨g, o, rfl, c0, c1, c2, c3⟩ := HI.out.cells hp
   replace c0 := Kr.cel c0
   replace c1 := Kr.cel c1
   replace c2 := Kr.cel c2
   replace c3 := Kr.cel c3
   have Ka : Kp (fun _ => False) wr (wr.alloc (.cells #[.string ⟨p.src.toArray⟩, .string ⟨p.srv.toArray⟩, .string ⟨p.text.toArray⟩, .bool p.fails] 160)) := (Kp.refl _ _).alloc _
   have hcea := Ka.cel hce
   have HKa := hide (And.intro Ka (HY.out.2.1.trans Ka))
   clear Kr Ka
   have next : isR src srv p = false → ∀ (j : Nat) (q : Rpl), j < i + 1 → rs[j]? = some q → isR src srv q = false := by
    intro hno j q hj hq
    rcases Nat.lt_or_ge j i with h | h
    ·exact HY.out.2.2 j q h hq
    ·have : j = i := by omega
     subst this
     rw [hp] at hq
     injection hq with hq
     subst hq
     exact hno
   have HNX := hide (And.intro next hp)
   clear next hp
   by_cases h1 : p.src = src
   ·have h1' : (p.src == src) = true := by simpa using h1
    by_cases h2 : p.srv = srv
    ·have h2' : (p.srv == srv) = true := by simpa using h2
     have hf := fet_hit HNX.out.2 (show isR src srv p = true by simp [isR, h1, h2]) HY.out.2.2
     have HF := hide hf
     clear hf h1 h2
     cases hfa : p.fails with
     | true =>
      rw [hfa] at HF c3 HKa hcea
      clear hfa
      go_wp2
      go_region
      all_goals go_wp2
      all_goals go_ret2
      all_goals exact ⟨HKa.out.2.drew, Or.inr ⟨ef, HF.out, rfl⟩⟩
     | false =>
      rw [hfa] at HF c3 HKa hcea
      clear hfa
      go_wp2
      go_ret2
      exact ⟨HKa.out.2, Or.inl ⟨p.text, HF.out, rfl⟩⟩
    ·have h2' : (p.srv == srv) = false := by simpa using h2
     have HN := hide (HNX.out.1 (by simp [isR, h2]))
     clear h1 h2
     go_wp2
     go_roundg (rs.length - (i + 1))
     case measure => rw [HY.out.1]; omega
     case rel => exact ⟨i + 1, rfl, by omega, int_i64 (by omega), HKa.out.2, HN.out⟩
   ·have h1' : (p.src == src) = false := by simpa using h1
    have HN := hide (HNX.out.1 (by simp [isR, h1]))
    clear h1
    go_wp2
    go_roundg (rs.length - (i + 1))
    case measure => rw [HY.out.1]; omega
    case rel => exact ⟨i + 1, rfl, by omega, int_i64 (by omega), HKa.out.2, HN.out⟩
  ·have hlt' : ¬ (i : Int) < (rs.length : Int) := by omega
   have HF := hide (fet_miss (rs := rs) (a := src) (b := srv) (fun j q hj hq => HY.out.2.2 j q (by omega) hq))
   clear Kr
   go_wp2
   go_region
   all_goals go_wp2
   all_goals go_ret2
   all_goals exact ⟨HY.out.2.1.drew, Or.inr ⟨ef, HF.out, rfl⟩⟩
set_option maxRecDepth 20000 in
set_option maxHeartbeats 4000000 in
theorem sourcesFor_c (w : World) (F Fk : Nat → Prop) (nb kb : Nat) (nm id ky : Bs) (so : Value) (xs : List Bs) (st : Ldg) (c : Nat) (hP : PNs w F Fk nb kb nm id ky so xs st c) (hxl : xs.length ≤ 1100000000) (s : Bs) :
  Calls Tryz.prog 104 #[.pointer (some ⟨nb, 0, none⟩), .string ⟨s.toArray⟩] w fun e w' => ∃ v, e = .returned v ∧ Kp (fun _ => False) w w' ∧ w'.ownsRow w.heap.size 9 1 v (srcsF s xs).length ((srcsF s xs).map fun x => .string ⟨x.toArray⟩) := by
 obtain ⟨i0, hi0, hz0, hz1, hz2⟩ := info_parts infoStr
 obtain ⟨va, vc, rfl, hvm, hva⟩ := own_sl hP.rso
 obtain ⟨n0, n1, n2, n3, n4⟩ := nt_facts hP.nblk
 have r0 := World.ownsRow_lit (base := w.heap.size) (e := 9) (size := 1) w #[.string ⟨s.toArray⟩] 1 (Nat.le_refl _) (by unfold maxLen; omega) rfl
 have HH := hide (And.intro hP.rso (And.intro hva (And.intro r0 hP.nblk)))
 clear hP hva r0
 have Ka : Kp (fun _ => False) w (w.alloc (.cells #[.string ⟨s.toArray⟩] 9)) := (Kp.refl _ _).alloc _
 have n3a := Ka.cel n3
 go_enter Tryz.func104, Tryz.ntmps104
 go_wp2_with fail
 go_loopg [5, 15] xs.length (fun gg a bb wx => ∃ (i : Nat) (ys : List Bs), gg = xs.length - i ∧ i ≤ xs.length ∧ bb = .int .i64 (i : Int) ∧ Kp (fun _ => False) w wx ∧ ys = s :: (xs.take i).filter (fun x => decide (x ≠ s)) ∧ ys.length ≤ i + 1 ∧ wx.ownsRow w.heap.size 9 1 a ys.length (ys.map fun x => .string ⟨x.toArray⟩))
 case atStart => exact ⟨0, [s], rfl, by omega, rfl, Ka, rfl, by simp, HH.out.2.2.1⟩
 case round =>
  obtain ⟨i, ys, hgg, hin, rfl, Kr, hys, hyl, row⟩ := hrel
  have HG1 := hide (And.intro hgg (And.intro Kr hys))
  clear hgg hys
  by_cases hlt : i < xs.length
  ·have hlt' : (i : Int) < (xs.length : Int) := by omega
   obtain ⟨x, hx⟩ : ∃ x, xs[i]? = some x := ⟨xs[i], List.getElem?_eq_getElem hlt⟩
   obtain ⟨g, rfl, hg⟩ := HH.out.2.1 (by omega)
   have cg1 : wr.cell? ⟨g, i, none⟩ = some (.string ⟨x.toArray⟩) := own_cell (ownsRow_kp HH.out.1 Kr (by simp)) i _ (by rw [List.getElem?_map, hx]; rfl)
   have htk : (xs.take (i + 1)).filter (fun x => decide (x ≠ s)) = (xs.take i).filter (fun x => decide (x ≠ s)) ++ [x].filter (fun x => decide (x ≠ s)) := by
    rw [take_succ hx, List.filter_append]
   have HTK := hide htk
   have hsz := Kr.size
   clear hx htk Kr
   by_cases he : x = s
   ·have he' : (x == s) = true := by simpa using he
    have HE := hide he
    clear he
    go_wp2
    go_roundg (xs.length - (i + 1))
    case measure => rw [HG1.out.1]; omega
    case rel => exact ⟨i + 1, ys, rfl, by omega, int_i64 (by omega), HG1.out.2.1, by rw [HTK.out, HE.out, HG1.out.2.2]; simp, by omega, row⟩
   ·have he' : (x == s) = false := by simpa using he
    have HE := hide he
    clear he
    go_wp2_with (at_builtin; (refine wpList_append_own_at _ rfl _ _ 36 rfl w.heap.size 9 i0 (.string ⟨#[]⟩) 1 16 Tryz.underlying36 hi0 hz0 hz1 hz2 rfl (by decide) _ _ _ rfl (by exact World.ownsRow.alloc row _) ⟨wr.heap.size, 0, none⟩ 1 1 [.string ⟨x.toArray⟩] rfl rfl ?_ (by intro u hu; simp at hu; subst hu; rfl) (by unfold maxLen; omega) (by omega) (by simp; omega) ?_))
    ·intro j u hj
     rcases j with _ | j
     all_goals simp at hj
     subst hj
     simp [Addr.add]
    intro v3 w3 y1 y2 _ y3
    obtain ⟨v3a, v3c, rfl⟩ := own_slice y1
    have K3 : Kp (fun _ => False) w w3 := (HG1.out.2.1.alloc _).gr y2 (fun r e => (row.lt r e).1)
    have H3 := hide (And.intro K3 y1)
    clear K3 y1 y2 y3
    go_wp2
    go_roundg (xs.length - (i + 1))
    case measure => rw [HG1.out.1]; omega
    case rel => exact ⟨i + 1, ys ++ [x], rfl, by omega, int_i64 (by omega), H3.out.1, by rw [HTK.out, HG1.out.2.2]; simp [HE.out], by simp; omega, by rw [List.map_append, List.length_append]; exact H3.out.2⟩
  ·have hlt' : ¬ (i : Int) < (xs.length : Int) := by omega
   have hfr : ys = srcsF s xs := by
    rw [HG1.out.2.2, List.take_of_length_le (by omega)]
    rfl
   have HF := hide (And.intro hfr row)
   clear hfr row Kr
   go_wp2
   go_ret
   rw [← HF.out.1]
   exact ⟨_, rfl, HG1.out.2.1, HF.out.2⟩
end Go.Proofs.YtocligpfmfmihaaGreatDoor
namespace Go.Proofs.YtocligpfmfmihaaGreatDoor
open Go Go.RowKit Go.Maps Go.WideMaps
attribute [local go_sem] Oper.semAt_some
def LfR (w : World) (Fk : Nat → Prop) (kb : Nat) (r : Bool × Ldg) (c : Nat) (e : Ending) (w' : World) : Prop := ∃ Fk' : Nat → Prop, Kp Fk w w' ∧ (∀ k, Fk' k → Fk k ∨ w.heap.size ≤ k) ∧ (∀ k, Fk' k → k < w'.heap.size) ∧ KN w' Fk' kb r.2 c ∧ ((r.1 = true ∧ e = .returned .nilIface) ∨ (r.1 = false ∧ ∃ tt uu, e = .returned (.iface tt uu)))
theorem ti_ev {W w' : World} {e : Ending} {n : Nat} (h : (n = 0 ∧ e = .returned .nilIface) ∨ (n = 6 ∧ ∃ ev, e = .returned ev ∧ Chd W w' ev 6 ∧ ∃ t u, ev = .iface t u)) : ∃ ev, e = .returned ev ∧ ((n = 0 ∧ ev = .nilIface) ∨ (n = 6 ∧ ∃ t u, ev = .iface t u)) := by
 rcases h with ⟨h1, h2⟩ | ⟨h1, ev, h2, _, h3⟩
 ·exact ⟨_, h2, Or.inl ⟨h1, rfl⟩⟩
 ·exact ⟨_, h2, Or.inr ⟨h1, h3⟩⟩
set_option maxRecDepth 20000 in
set_option maxHeartbeats 4000000 in
theorem learnFrom_c (W : World) (hN : NG3 W) (w : World) (hW : Below W.heap.size W w) (Fk : Nat → Prop) (nb kb : Nat) (hFk : ∀ k, Fk k → W.heap.size ≤ k ∧ k < w.heap.size) (n4 : w.cell? ⟨nb, 4, none⟩ = some (.pointer (some ⟨kb, 0, none⟩))) (hnF : ¬ Fk nb) (st : Ldg) (T : List Bs) (hT : LOk T st) (hTl : T.length ≤ 700000) (hK : KN w Fk kb st (capT T))
  (rs : List Rpl) (ra : Option Addr) (rc cb : Nat) (hI : RpI w rs ra) (hrl : rs.length ≤ 1100000000) (hrT : ∀ r ∈ rs, r.text ∈ T) (hcb : w.heap[cb]? = some (.cells #[.slice ra rs.length rc] 91)) (src srv : Bs) (now : Int) (hn0 : -9223372036854775808 ≤ now) :
  Calls Tryz.prog 105 #[.pointer (some ⟨nb, 0, none⟩), .string ⟨src.toArray⟩, .string ⟨srv.toArray⟩, .int .i64 now, .func (.func 102) #[] #[.pointer (some ⟨cb, 0, none⟩)]] w fun e w' => LfR w Fk kb (fromS rs now srv st src) (capT T) e w' := by
 have HAK := hide (asked_c W hN w hW rs ra rc cb hI hrl hcb src srv)
 have HH := hide (And.intro hFk (And.intro hnF (And.intro hT (And.intro hK hrT))))
 clear hFk hnF hT hK hrT hI hcb
 go_enter Tryz.func105, Tryz.ntmps105
 go_wp2_with fail
 refine HAK.out.mono ?_
 rintro e w1 ⟨K1, h1⟩
 have HK1 := hide K1
 have n41 := K1.cel n4
 have hW1 := below_kp hW K1
 clear HAK K1
 rcases h1 with ⟨t, hf, rfl⟩ | ⟨a, hf, rfl⟩
 ·have hm : t ∈ T := by
   obtain ⟨r, hr, rfl⟩ := fetF_mem hf
   exact HH.out.2.2.2.2 r hr
  have HD := hide (readDocument_c W hN.n2 ⟨t.toArray⟩ w1 hW1)
  have e9 : (⟨t.toArray⟩ : ByteArray).data.toList = t := by simp
  rw [e9] at HD
  clear e9
  have HF := hide (And.intro hf hm)
  clear hf hm
  go_wp2_with fail
  refine HD.out.mono ?_
  rintro e w2 ⟨K2, h2⟩
  have HK2 := hide (HK1.out.trans K2)
  have n42 := K2.cel n41
  have hW2 := below_kp hW1 K2
  clear HD K2 n41 hW1 HK1
  cases hr : readF t with
  | error n =>
   rw [hr] at h2
   obtain ⟨ev, rfl, he, tt, u, rfl⟩ := h2
   have hls : fromS rs now srv st src = (false, st) := by unfold fromS; rw [HF.out.1]; simp only [hr]
   have HL := hide hls
   clear he hr hls
   go_wp2
   go_ret
   rw [HL.out]
   refine ⟨Fk, (HK2.out.mono (fun _ _ h => h.elim)).alloc _, fun _ h => Or.inl h, fun k h => ?_, HH.out.2.2.2.1.kp (fun k h => (HH.out.1 k h).2) (HK2.out.alloc _), Or.inr ⟨rfl, _, _, rfl⟩⟩
   have := (HH.out.1 k h).2
   have := (HK2.out.alloc (.cells #[.string ⟨#[]⟩, .int .i64 0, .slice none 0 0] 30)).size
   omega
  | ok d =>
   obtain ⟨sn, un, ks⟩ := d
   rw [hr] at h2
   obtain ⟨v, rfl, row⟩ := h2
   obtain ⟨q1, q2, q3, q4, q5⟩ := readF_ok hr
   obtain ⟨va, vc, rfl, _⟩ := own_slice4 row
   have Kd : Kp (fun _ => False) w2 (w2.alloc (.cells #[.string ⟨sn.toArray⟩, .int .i64 un, .slice va ks.length vc] 30)) := (Kp.refl _ _).alloc _
   have Id := heap_alloc_new w2 (.cells #[.string ⟨sn.toArray⟩, .int .i64 un, .slice va ks.length vc] 30)
   by_cases hs : sn = srv
   ·have hs' : (sn == srv) = true := by simpa using hs
    have hcap : capT T + ks.length ≤ 900000000 := by
     have : capT T ≤ 1100 * 700000 := Nat.mul_le_mul_left 1100 hTl
     omega
    have hls : fromS rs now srv st src = (decide ((takeS st sn ks t now).1 = 0), (takeS st sn ks t now).2) := by
     unfold fromS; rw [HF.out.1]; simp only [hr]; rw [if_pos hs]
    have HL := hide (And.intro hls (LOk.take HH.out.2.2.1 HF.out.2 hr now))
    have HTI : Hid (∀ X, Kp (fun _ => False) (w2.alloc (.cells #[.string ⟨sn.toArray⟩, .int .i64 un, .slice va ks.length vc] 30)) X → Calls Tryz.prog 56 #[.pointer (some ⟨kb, 0, none⟩), .agg #[.string ⟨sn.toArray⟩, .int .i64 un, .slice va ks.length vc], .string ⟨t.toArray⟩, .int .i64 now] X fun e w' => TiR W X Fk kb (takeS st sn ks t now) (capT T + ks.length + 1) e w') := fun X hX =>
     takeIn_c W hN X (below_kp hW2 (Kd.trans hX)) Fk (fun k hf => ⟨(HH.out.1 k hf).1, Nat.lt_of_lt_of_le (HH.out.1 k hf).2 (Nat.le_trans HK2.out.size (Kd.trans hX).size)⟩) kb st (capT T) (HH.out.2.2.2.1.kp (fun k h => (HH.out.1 k h).2) (HK2.out.trans (Kd.trans hX))) sn un t now hn0 _ _ ks (ownsRow_kp row (Kd.trans hX) (by simp)) (by omega) (fun k hk => by have := (q2 k hk).1; omega) hcap
    have n43 := Kd.cel n42
    clear hls hr hs row q1 q2 q3 q5
    go_wp2_with fail
    generalize (w2.alloc (.cells #[.string ⟨sn.toArray⟩, .int .i64 un, .slice va ks.length vc] 30)) = wd at *
    obtain ⟨x0, x1, x2, xf0, xf1, xf2, hxb⟩ := dfacts Id
    go_region_law (refine step_callF rfl 56 _ _ rfl #[.pointer (some ⟨kb, 0, none⟩), .agg #[.string ⟨sn.toArray⟩, .int .i64 un, .slice va ks.length vc], .string ⟨t.toArray⟩, .int .i64 now] (by go_simp) ?_; refine (HTI.out _ ((Kp.refl _ wd).drew)).mono ?_; rintro e w3 ⟨Fk', t1, t2, t3, t4, t5, t6⟩; obtain ⟨ev, rfl, hev⟩ : ∃ ev, e = .returned ev ∧ (((takeS st sn ks t now).1 = 0 ∧ ev = .nilIface) ∨ ((takeS st sn ks t now).1 = 6 ∧ ∃ t u, ev = .iface t u)) := ti_ev t6; have HT := hide (And.intro t1 (And.intro t2 (And.intro t3 (And.intro t5 hev)))); clear t1 t2 t3 t4 t5 t6 hev)
    all_goals go_wp2
    all_goals go_ret
    all_goals
     rw [HL.out.1]
     have K0 : Kp (fun _ => False) w wd.drew := (HK2.out.trans Kd).drew
     refine ⟨Fk', (K0.mono (fun _ _ h => h.elim)).trans HT.out.1, fun k h => (HT.out.2.1 k h).imp id (fun h => Nat.le_trans K0.size h), HT.out.2.2.1, HT.out.2.2.2.1.tight HL.out.2, ?_⟩
     rcases HT.out.2.2.2.2 with ⟨z1, rfl⟩ | ⟨z1, tt, uu, rfl⟩
     ·exact Or.inl ⟨by simp [z1], rfl⟩
     ·exact Or.inr ⟨by simp [z1], _, _, rfl⟩
   ·have hs' : (sn == srv) = false := by simpa using hs
    obtain ⟨ef, hef, _⟩ := hN.oth 11 (by simp)
    have hls : fromS rs now srv st src = (false, st) := by
     unfold fromS; rw [HF.out.1]; simp only [hr]; rw [if_neg hs]
    have HL := hide hls
    have hce := Below.cl (below_kp hW2 Kd) hef
    have hcf := Below.cl (below_kp hW2 (Kd.alloc (.cells #[.string ⟨#[]⟩, .nilIface] 252))) hef
    unfold errV at hce hcf
    clear hls hr hs
    go_wp2
    go_ret
    rw [HL.out]
    have K0 : ∀ o1 o2, Kp (fun _ => False) w (((w2.alloc (.cells #[.string ⟨sn.toArray⟩, .int .i64 un, .slice va ks.length vc] 30)).alloc o1).alloc o2) := fun o1 o2 => ((HK2.out.trans Kd).alloc _).alloc _
    refine ⟨Fk, (K0 _ _).mono (fun _ _ h => h.elim), fun _ h => Or.inl h, fun k h => ?_, HH.out.2.2.2.1.kp (fun k h => (HH.out.1 k h).2) (K0 _ _), Or.inr ⟨rfl, _, _, rfl⟩⟩
    exact Nat.lt_of_lt_of_le (HH.out.1 k h).2 (K0 _ _).size
 ·have hls : fromS rs now srv st src = (false, st) := by unfold fromS; rw [hf]
  have HL := hide hls
  clear hls hf
  unfold errV
  go_wp2
  go_ret
  rw [HL.out]
  refine ⟨Fk, HK1.out.mono (fun _ _ h => h.elim), fun _ h => Or.inl h, fun k h => ?_, HH.out.2.2.2.1.kp (fun k h => (HH.out.1 k h).2) HK1.out, Or.inr ⟨rfl, _, _, rfl⟩⟩
  have := (HH.out.1 k h).2
  have := HK1.out.size
  omega
end Go.Proofs.YtocligpfmfmihaaGreatDoor
namespace Go.Proofs.YtocligpfmfmihaaGreatDoor
open Go Go.RowKit Go.Maps Go.WideMaps
attribute [local go_sem] Oper.semAt_some
structure FE (W w : World) (Fk : Nat → Prop) (nb kb : Nat) (nm id ky : Bs) (so : Value) (xs : List Bs) (rs : List Rpl) (ra : Option Addr) (rc cb : Nat) : Prop where
 bl : Below W.heap.size W w
 fl : ∀ k, Fk k → W.heap.size ≤ k ∧ k < w.heap.size
 nblk : w.heap[nb]? = some (ntObj nm id ky so kb)
 nf : ¬ Fk nb
 rso : w.ownsRow 0 9 1 so xs.length (xs.map fun s => .string ⟨s.toArray⟩)
 fso : ∀ k, so.ownBlock = some k → ¬ Fk k ∧ k < w.heap.size
 hcb : w.heap[cb]? = some (.cells #[.slice ra rs.length rc] 91)
 cf : ¬ Fk cb
 hI : RpI w rs ra
 rf : rs ≠ [] → ∀ g o, ra = some ⟨g, o, none⟩ → ¬ Fk g ∧ g < w.heap.size
structure CE (w : World) (Fk : Nat → Prop) (nb pb ib : Nat) (cl : Clm) (sv : Value) : Prop where
 pblk : w.heap[pb]? = some (.cells #[.pointer (some ⟨nb, 0, none⟩)] 47)
 pf : ¬ Fk pb
 iblk : w.heap[ib]? = some (clObj cl sv)
 nf : ¬ Fk ib
 row : w.ownsRow 0 193 2 sv cl.sigs.length (cl.sigs.flatMap sgC)
 sf : ∀ k, sv.ownBlock = some k → ¬ Fk k ∧ k < w.heap.size
theorem RpI.kps {w w' : World} {S : Nat → Prop} {rs : List Rpl} {ra : Option Addr} (h : RpI w rs ra) (K : Kp S w w') (hS : rs ≠ [] → ∀ g o, ra = some ⟨g, o, none⟩ → ¬ S g) : RpI w' rs ra := by
 intro j r hr
 obtain ⟨g, o, e, hm⟩ := h j r hr
 exact ⟨g, o, e, fun m u hu => (K.cell (lt_cell (hm m u hu)) (hS (by rintro rfl; cases hr) g o e)).trans (hm m u hu)⟩
theorem below_fq {W w w' : World} {F : Nat → Prop} (h : Below W.heap.size W w) (K : Kp F w w') (hF : ∀ k, F k → W.heap.size ≤ k) : Below W.heap.size W w' :=
 ⟨K.os.trans h.os, K.tape.trans h.tape, K.output.trans h.output, Nat.le_trans h.size K.size, fun k hk => (K.block k (Nat.lt_of_lt_of_le hk h.size) (fun hf => by have := hF k hf; omega)).trans (h.block k hk)⟩
theorem hp_kp {w w' : World} {S : Nat → Prop} {k : Nat} {o : Obj} (h : w.heap[k]? = some o) (K : Kp S w w') (hS : ¬ S k) : w'.heap[k]? = some o := (K.block k (lt_heap h) hS).trans h
theorem FE.kp {W w w' : World} {Fk Fk' : Nat → Prop} {nb kb : Nat} {nm id ky : Bs} {so : Value} {xs : List Bs} {rs : List Rpl} {ra : Option Addr} {rc cb : Nat} (h : FE W w Fk nb kb nm id ky so xs rs ra rc cb) (K : Kp Fk w w') (h1 : ∀ k, Fk' k → Fk k ∨ w.heap.size ≤ k) (h2 : ∀ k, Fk' k → k < w'.heap.size) : FE W w' Fk' nb kb nm id ky so xs rs ra rc cb := by
 have hn : ∀ k, k < w.heap.size → ¬ Fk k → ¬ Fk' k := fun k hk hf hf' => (h1 k hf').elim hf (fun h => by omega)
 refine ⟨below_fq h.bl K (fun k hf => (h.fl k hf).1), fun k hf => ⟨?_, h2 k hf⟩, hp_kp h.nblk K h.nf, hn _ (lt_heap h.nblk) h.nf, ownsRow_kp h.rso K (fun k e => (h.fso k e).1), fun k e => ⟨hn k (h.fso k e).2 (h.fso k e).1, Nat.lt_of_lt_of_le (h.fso k e).2 K.size⟩, hp_kp h.hcb K h.cf, hn _ (lt_heap h.hcb) h.cf, h.hI.kps K (fun h0 g o e => (h.rf h0 g o e).1), fun h0 g o e => ⟨hn g (h.rf h0 g o e).2 (h.rf h0 g o e).1, Nat.lt_of_lt_of_le (h.rf h0 g o e).2 K.size⟩⟩
 rcases h1 k hf with hf | hf
 ·exact (h.fl k hf).1
 ·exact Nat.le_trans h.bl.size hf
theorem CE.kp {w w' : World} {Fk Fk' : Nat → Prop} {nb pb ib : Nat} {cl : Clm} {sv : Value} (h : CE w Fk nb pb ib cl sv) (K : Kp Fk w w') (h1 : ∀ k, Fk' k → Fk k ∨ w.heap.size ≤ k) : CE w' Fk' nb pb ib cl sv := by
 have hn : ∀ k, k < w.heap.size → ¬ Fk k → ¬ Fk' k := fun k hk hf hf' => (h1 k hf').elim hf (fun h => by omega)
 exact ⟨hp_kp h.pblk K h.pf, hn _ (lt_heap h.pblk) h.pf, hp_kp h.iblk K h.nf, hn _ (lt_heap h.iblk) h.nf, ownsRow_kp h.row K (fun k e => (h.sf k e).1), fun k e => ⟨hn k (h.sf k e).2 (h.sf k e).1, Nat.lt_of_lt_of_le (h.sf k e).2 K.size⟩⟩
set_option maxRecDepth 20000 in
theorem enough_c (w : World) (Fk : Nat → Prop) (nb kb : Nat) (nm id ky : Bs) (so : Value) (st : Ldg) (c : Nat) (hK : KN w Fk kb st c) (hn : w.heap[nb]? = some (ntObj nm id ky so kb)) (pb ib : Nat) (cl : Clm) (hcl : ClK cl) (h0 : 0 < cl.sigs.length) (sv : Value) (hE : CE w Fk nb pb ib cl sv) :
  Calls Tryz.prog 62 #[.pointer (some ⟨pb, 0, none⟩), .pointer (some ⟨ib, 0, none⟩)] w fun e w' => e = .returned (.bool (hasS st cl)) ∧ Kp (fun _ => False) w w' := by
 obtain ⟨n0, n1, n2, n3, n4⟩ := nt_facts hn
 obtain ⟨cp, _⟩ := one_cells hE.pblk
 obtain ⟨sa, sc, rfl, hsm, hsa⟩ := own_sl hE.row
 obtain ⟨i0, i1, i2, i3, _⟩ := cl_facts hE.iblk
 have HW : Hid (∀ X, Kp (fun _ => False) w X → Calls Tryz.prog 60 #[.pointer (some ⟨kb, 0, none⟩), clV cl (.slice sa cl.sigs.length sc)] X fun e w' => e = .returned (.bool (wantS st cl)) ∧ Kp (fun _ => False) X w') := fun X hX => wants_c X Fk kb st c (hK.kp2 hX) cl hcl 0 _ (ownsRow_kp hE.row hX (by simp))
 have hw : (!wantS st cl) = hasS st cl := by unfold wantS; simp [h0]
 have HE := hide hE
 clear hE hK
 go_enter Tryz.func62, Tryz.ntmps62
 go_wp2_with fail
 go_region_law (refine step_callF rfl 60 _ _ rfl #[.pointer (some ⟨kb, 0, none⟩), .agg #[.string ⟨cl.server.toArray⟩, .int .i64 cl.ts, .string ⟨cl.msg.toArray⟩, .slice sa cl.sigs.length sc]] (by go_simp) ?_; refine (HW.out _ ((Kp.refl _ w).drew)).mono ?_; rintro e w3 ⟨rfl, t1⟩; have HT := hide t1; clear t1)
 all_goals go_wp2
 all_goals go_ret
 all_goals exact ⟨rfl, ((Kp.refl _ w).drew).trans HT.out⟩
end Go.Proofs.YtocligpfmfmihaaGreatDoor
namespace Go.Proofs.YtocligpfmfmihaaGreatDoor
open Go Go.RowKit Go.Maps Go.WideMaps
attribute [local go_sem] Oper.semAt_some
theorem FE.pns {W w : World} {Fk : Nat → Prop} {nb kb : Nat} {nm id ky : Bs} {so : Value} {xs : List Bs} {rs : List Rpl} {ra : Option Addr} {rc cb : Nat} {st : Ldg} {c : Nat} (h : FE W w Fk nb kb nm id ky so xs rs ra rc cb) (hk : KN w Fk kb st c) : PNs w (fun k => Fk k ∨ k = nb ∨ so.ownBlock = some k) Fk nb kb nm id ky so xs st c :=
 ⟨h.nblk, hk, h.rso, Or.inr (Or.inl rfl), fun k e => ⟨Or.inr (Or.inr e), (h.fso k e).1⟩, fun k hf => Or.inl hf, h.nf, fun k hf => by
  rcases hf with hf | rfl | hf
  ·exact (h.fl k hf).2
  ·exact lt_heap h.nblk
  ·exact (h.fso k hf).2⟩
structure FI (W w : World) (Fk : Nat → Prop) (nb kb : Nat) (nm id ky : Bs) (so : Value) (xs : List Bs) (rs : List Rpl) (ra : Option Addr) (rc cb pb ib : Nat) (cl : Clm) (sv : Value) (T : List Bs) (st : Ldg) : Prop where
 fe : FE W w Fk nb kb nm id ky so xs rs ra rc cb
 ce : CE w Fk nb pb ib cl sv
 kn : KN w Fk kb st (capT T)
 ok : LOk T st
theorem FI.kp {W w w' : World} {Fk Fk' : Nat → Prop} {nb kb : Nat} {nm id ky : Bs} {so : Value} {xs : List Bs} {rs : List Rpl} {ra : Option Addr} {rc cb pb ib : Nat} {cl : Clm} {sv : Value} {T : List Bs} {st st' : Ldg} (h : FI W w Fk nb kb nm id ky so xs rs ra rc cb pb ib cl sv T st) (K : Kp Fk w w') (h1 : ∀ k, Fk' k → Fk k ∨ w.heap.size ≤ k) (h2 : ∀ k, Fk' k → k < w'.heap.size) (hk : KN w' Fk' kb st' (capT T)) (ho : LOk T st') : FI W w' Fk' nb kb nm id ky so xs rs ra rc cb pb ib cl sv T st' :=
 ⟨h.fe.kp K h1 h2, h.ce.kp K h1, hk, ho⟩
theorem FI.kp0 {W w w' : World} {Fk : Nat → Prop} {nb kb : Nat} {nm id ky : Bs} {so : Value} {xs : List Bs} {rs : List Rpl} {ra : Option Addr} {rc cb pb ib : Nat} {cl : Clm} {sv : Value} {T : List Bs} {st : Ldg} (h : FI W w Fk nb kb nm id ky so xs rs ra rc cb pb ib cl sv T st) (K : Kp (fun _ => False) w w') : FI W w' Fk nb kb nm id ky so xs rs ra rc cb pb ib cl sv T st :=
 h.kp (K.mono (fun _ _ h => h.elim)) (fun _ h => Or.inl h) (fun k hf => Nat.lt_of_lt_of_le (h.fe.fl k hf).2 K.size) (h.kn.kp2 K) h.ok
def FtR (W w : World) (Fk : Nat → Prop) (nb kb : Nat) (nm id ky : Bs) (so : Value) (xs : List Bs) (rs : List Rpl) (ra : Option Addr) (rc cb pb ib : Nat) (cl : Clm) (sv : Value) (T : List Bs) (st : Ldg) (w' : World) : Prop := ∃ Fk' : Nat → Prop, Kp Fk w w' ∧ (∀ k, Fk' k → Fk k ∨ w.heap.size ≤ k) ∧ FI W w' Fk' nb kb nm id ky so xs rs ra rc cb pb ib cl sv T st
def FtE (W w : World) (Fk : Nat → Prop) (nb kb : Nat) (nm id ky : Bs) (so : Value) (xs : List Bs) (rs : List Rpl) (ra : Option Addr) (rc cb pb ib : Nat) (cl : Clm) (sv : Value) (T : List Bs) (r : Nat × Ldg) (e : Ending) (w' : World) : Prop := e = .returned (.int .i64 (r.1 : Int)) ∧ FtR W w Fk nb kb nm id ky so xs rs ra rc cb pb ib cl sv T r.2 w'
theorem ft_step {W w2 w3 w4 : World} {Fk Fs : Nat → Prop} {nb kb : Nat} {nm id ky : Bs} {so : Value} {xs : List Bs} {rs : List Rpl} {ra : Option Addr} {rc cb pb ib : Nat} {cl : Clm} {sv : Value} {T : List Bs} {st : Ldg} (K : Kp Fk w2 w3) (h1 : ∀ k, Fs k → Fk k ∨ w2.heap.size ≤ k) (h : FI W w3 Fs nb kb nm id ky so xs rs ra rc cb pb ib cl sv T st) (K4 : Kp (fun _ => False) w3 w4) : FtR W w2 Fk nb kb nm id ky so xs rs ra rc cb pb ib cl sv T st w4 :=
 ⟨Fs, K.trans (K4.mono (fun _ _ h => h.elim)), h1, h.kp0 K4⟩
theorem ft_end {W w w2 w3 w4 : World} {Fk Fs : Nat → Prop} {nb kb : Nat} {nm id ky : Bs} {so : Value} {xs : List Bs} {rs : List Rpl} {ra : Option Addr} {rc cb pb ib : Nat} {cl : Clm} {sv : Value} {T : List Bs} {st : Ldg} (K0 : Kp (fun _ => False) w w2) (K : Kp Fk w2 w3) (h1 : ∀ k, Fs k → Fk k ∨ w2.heap.size ≤ k) (h : FI W w3 Fs nb kb nm id ky so xs rs ra rc cb pb ib cl sv T st) (K4 : Kp (fun _ => False) w3 w4) : FtR W w Fk nb kb nm id ky so xs rs ra rc cb pb ib cl sv T st w4 :=
 ⟨Fs, (K0.mono (fun _ _ h => h.elim)).trans (K.trans (K4.mono (fun _ _ h => h.elim))), fun k hk => (h1 k hk).imp (fun h => h) (fun h => Nat.le_trans K0.size h), h.kp0 K4⟩
set_option maxRecDepth 20000 in
set_option maxHeartbeats 4000000 in
theorem fetch_c (W : World) (hN : NG3 W) (w : World) (Fk : Nat → Prop) (nb kb : Nat) (nm id ky : Bs) (so : Value) (xs : List Bs) (rs : List Rpl) (ra : Option Addr) (rc cb pb ib : Nat) (cl : Clm) (sv : Value) (T : List Bs) (st : Ldg) (hI : FI W w Fk nb kb nm id ky so xs rs ra rc cb pb ib cl sv T st) (hTl : T.length ≤ 700000) (hxl : xs.length ≤ 1100000000) (hrl : rs.length ≤ 1100000000) (hrT : ∀ r ∈ rs, r.text ∈ T)
  (hcl : ClK cl) (h0 : 0 < cl.sigs.length) {t : Bs} {cs : List Clm} (htT : t ∈ T) (hct : takeF t = .ok cs) (hcm : cl ∈ cs) (now : Int) (hn0 : -9223372036854775808 ≤ now) (hn1 : now ≤ 9223372036854775807) (res : Nat × Ldg) (hres : res = if soonS st cl.server now then (0, st) else fetchS rs now xs st cl) :
  Calls Tryz.prog 61 #[.pointer (some ⟨nb, 0, none⟩), .string ⟨cl.server.toArray⟩, .int .i64 now, .func (.func 102) #[] #[.pointer (some ⟨cb, 0, none⟩)], .func (.func 62) #[] #[.pointer (some ⟨pb, 0, none⟩), .pointer (some ⟨ib, 0, none⟩)]] w fun e w' =>
   FtE W w Fk nb kb nm id ky so xs rs ra rc cb pb ib cl sv T res e w' := by
 have HRS := hide hres
 clear hres
 obtain ⟨n0, n1, n2, n3, n4⟩ := nt_facts hI.fe.nblk
 have HTS := hide (tooSoon_c w Fk kb st (capT T) hI.kn cl.server (by have := hcl.srv; omega) now hn0 hn1 (fun s x h => (hI.ok.asked s x h).1))
 have HH := hide (And.intro hI (And.intro hrT (And.intro htT (And.intro hct hcm))))
 clear hI hrT htT hct hcm
 go_enter Tryz.func61, Tryz.ntmps61
 go_wp2_with fail
 refine HTS.out.mono ?_
 rintro e w1 ⟨rfl, K1⟩
 have HK1 := hide K1
 clear K1 HTS n4 n3 n2 n1 n0
 cases hso : soonS st cl.server now with
 | true =>
  rw [hso, if_pos rfl] at HRS
  go_wp2
  go_ret
  rw [HRS.out]
  exact ⟨rfl, Fk, HK1.out.mono (fun _ _ h => h.elim), fun _ h => Or.inl h, HH.out.1.kp0 HK1.out⟩
 | false =>
  rw [hso, if_neg (by decide)] at HRS
  have hi1 := HH.out.1.kp0 HK1.out
  have HSF := hide (sourcesFor_c w1 _ _ _ _ _ _ _ _ xs _ _ (hi1.fe.pns hi1.kn) hxl cl.server)
  clear hi1
  go_wp2_with fail
  refine HSF.out.mono ?_
  rintro e w2 ⟨v, rfl, K2, row⟩
  obtain ⟨va, vc, rfl, hvm, hva⟩ := own_sl row
  have hnf : ∀ k, (Value.slice va (srcsF cl.server xs).length vc).ownBlock = some k → ¬ Fk k := fun k e hf => by
   have := (row.lt k e).1
   have := (HH.out.1.fe.fl k hf).2
   have := HK1.out.size
   omega
  have HK2 := hide (And.intro (HK1.out.trans K2) (And.intro row hnf))
  have hLn : (srcsF cl.server xs).length ≤ 1100000001 := by
   unfold srcsF
   have := List.length_filter_le (fun s => decide (s ≠ cl.server)) xs
   simp only [List.length_cons]
   omega
  have HFS : Hid (res = if (askL rs now cl st (srcsF cl.server xs) 0).2.1 then ((askL rs now cl st (srcsF cl.server xs) 0).1, (askL rs now cl st (srcsF cl.server xs) 0).2.2) else ((askL rs now cl st (srcsF cl.server xs) 0).1, vainS (askL rs now cl st (srcsF cl.server xs) 0).2.2 cl.server now)) := HRS.out
  clear HSF K2 HK1 row hva hnf
  clear HRS
  generalize srcsF cl.server xs = L at *
  go_wp2_with fail
  go_loopg [11, 26] L.length (fun gg q q2 wx => ∃ (i : Nat) (st' : Ldg), gg = L.length - i ∧ i ≤ L.length ∧ q = .int .i64 (i : Int) ∧ q2 = .int .i64 (i : Int) ∧ askL rs now cl st L 0 = askL rs now cl st' (L.drop i) i ∧ FtR W w2 Fk nb kb nm id ky so xs rs ra rc cb pb ib cl sv T st' wx)
  case atStart => exact ⟨0, st, rfl, by omega, rfl, rfl, by rw [List.drop_zero], Fk, Kp.refl _ _, fun _ h => Or.inl h, HH.out.1.kp0 HK2.out.1⟩
  case round =>
   obtain ⟨i, st', hgg, hin, rfl, rfl, hak, Fr, Kr, hFr, hfi⟩ := hrel
   have HG := hide (And.intro hgg (And.intro hak (And.intro Kr (And.intro hFr hfi))))
   by_cases hlt : i < L.length
   ·have hlt' : (i : Int) < (L.length : Int) := by omega
    obtain ⟨x, hx⟩ : ∃ x, L[i]? = some x := ⟨L[i], List.getElem?_eq_getElem hlt⟩
    have row' := ownsRow_kp HK2.out.2.1 Kr HK2.out.2.2
    obtain ⟨_, _, e1, _, hg⟩ := own_sl row'
    obtain ⟨g, e2, hg⟩ := hg (by omega)
    injection e1 with e1a e1b e1c
    subst e1c
    rw [← e1a] at e2
    subst e2
    have cg1 : wr.cell? ⟨g, i, none⟩ = some (.string ⟨x.toArray⟩) := own_cell row' i _ (by rw [List.getElem?_map, hx]; rfl)
    have hdr : L.drop i = x :: L.drop (i + 1) := by
     rw [List.drop_eq_getElem_cons hlt]
     have := List.getElem?_eq_getElem hlt
     rw [hx] at this
     injection this with this
     rw [this]
    have HAK : Hid (askL rs now cl st L 0 = if (fromS rs now cl.server st' x).1 && hasS (fromS rs now cl.server st' x).2 cl then (i + 1, true, (fromS rs now cl.server st' x).2) else askL rs now cl (fromS rs now cl.server st' x).2 (L.drop (i + 1)) (i + 1)) := by
     show _ = _
     rw [hak, hdr]
     rfl
    have n4r := (nt_facts hfi.fe.nblk).2.2.2.2
    have HLF := hide (learnFrom_c W hN wr hfi.fe.bl Fr nb kb hfi.fe.fl n4r hfi.fe.nf st' T hfi.ok hTl hfi.kn rs ra rc cb hfi.fe.hI hrl HH.out.2.1 hfi.fe.hcb x cl.server now hn0)
    have hlo := hfi.ok.from HH.out.2.1 now cl.server x
    have HLO := hide hlo
    clear hx hdr hak hgg Kr hFr hfi row' hlo e1a e1b
    go_wp2_with fail
    refine HLF.out.mono ?_
    rintro e w3 ⟨Fs, K3, h31, h32, h33, h34⟩
    have hfi := HG.out.2.2.2.2.kp K3 h31 h32 h33 HLO.out
    have HFR : Hid (Kp Fk w2 w3 ∧ (∀ k, Fs k → Fk k ∨ w2.heap.size ≤ k) ∧ FI W w3 Fs nb kb nm id ky so xs rs ra rc cb pb ib cl sv T (fromS rs now cl.server st' x).2) := by
     refine ⟨HG.out.2.2.1.and K3 (fun j hj hf => (HG.out.2.2.2.1 j hf).resolve_right (by omega)), fun k hk => ?_, hfi⟩
     rcases h31 k hk with h | h
     ·exact HG.out.2.2.2.1 k h
     ·exact Or.inr (Nat.le_trans HG.out.2.2.1.size h)
    clear K3 h31 h32 h33 HLF HLO
    rcases h34 with ⟨hf1, rfl⟩ | ⟨hf1, tt, uu, rfl⟩
    ·rw [hf1, Bool.true_and] at HAK
     have HEN := hide (enough_c w3 Fs nb kb nm id ky so _ _ hfi.kn hfi.fe.nblk pb ib cl hcl h0 sv hfi.ce)
     clear hfi hf1
     go_wp2_with fail
     refine HEN.out.mono ?_
     rintro e w4 ⟨rfl, K4⟩
     have HK4 := hide K4
     clear K4 HEN
     cases hha : hasS (fromS rs now cl.server st' x).2 cl with
     | true =>
      rw [hha, if_pos rfl] at HAK
      have hres : res = (i + 1, (fromS rs now cl.server st' x).2) := by rw [HFS.out, HAK.out]; rfl
      have HR := hide hres
      clear hres hha
      go_wp2
      go_ret
      rw [HR.out]
      exact ⟨rfl, ft_end HK2.out.1 HFR.out.1 HFR.out.2.1 HFR.out.2.2 HK4.out⟩
     | false =>
      rw [hha, if_neg (by decide)] at HAK
      clear hha
      go_wp2
      go_roundg (L.length - (i + 1))
      case measure => rw [HG.out.1]; omega
      case rel => exact ⟨i + 1, _, rfl, by omega, int_i64 (by omega), int_i64 (by omega), HAK.out, ft_step HFR.out.1 HFR.out.2.1 HFR.out.2.2 HK4.out⟩
    ·rw [hf1, Bool.false_and, if_neg (by decide)] at HAK
     clear hfi hf1
     go_wp2
     go_roundg (L.length - (i + 1))
     case measure => rw [HG.out.1]; omega
     case rel => exact ⟨i + 1, _, rfl, by omega, int_i64 (by omega), int_i64 (by omega), HAK.out, ⟨Fs, HFR.out.1, HFR.out.2.1, HFR.out.2.2⟩⟩
   ·have hlt' : ¬ (i : Int) < (L.length : Int) := by omega
    have hres : res = (i, vainS st' cl.server now) := by
     have : askL rs now cl st L 0 = (i, false, st') := by
      rw [hak, List.drop_of_length_le (by omega)]
      rfl
     rw [HFS.out, this]
     rfl
    have hcT : capT T ≤ 900000000 := by
     have : capT T ≤ 1100 * 700000 := Nat.mul_le_mul_left 1100 hTl
     omega
    have HR := hide hres
    have n4r := (nt_facts hfi.fe.nblk).2.2.2.2
    have HIV := hide (inVain_c wr Fr kb st' (capT T) hfi.kn cl.server (by have := hcl.srv; omega) now hcT)
    clear hres hak hgg Kr hFr hfi
    go_wp2_with fail
    refine HIV.out.mono ?_
    rintro e w3 ⟨rfl, K3, hk3⟩
    have H3 := hide (And.intro K3 hk3)
    clear K3 hk3 HIV
    go_wp2
    go_ret
    rw [HR.out]
    have hlo : LOk T (vainS st' cl.server now) := HG.out.2.2.2.2.ok.vain HH.out.2.2.1 HH.out.2.2.2.1 HH.out.2.2.2.2 hn0 hn1
    have hfi := HG.out.2.2.2.2.kp H3.out.1 (fun _ h => Or.inl h) (fun k hf => Nat.lt_of_lt_of_le (HG.out.2.2.2.2.fe.fl k hf).2 H3.out.1.size) (H3.out.2.tight hlo) hlo
    exact ⟨rfl, ft_end HK2.out.1 (HG.out.2.2.1.and H3.out.1 (fun j hj hf => (HG.out.2.2.2.1 j hf).resolve_right (by omega))) HG.out.2.2.2.1 hfi (Kp.refl _ _)⟩
end Go.Proofs.YtocligpfmfmihaaGreatDoor

import Derived.Test.YtocligpfmfmihaaGreatDoorMidG
import Derived.Test.YtocligpfmfmihaaGreatDoorPr9G
import Derived.Test.YtocligpfmfmihaaGreatDoorVr3G
import Derived.Lib.SliceRun
import Derived.Test.YtocligpfmfmihaaGreatDoorPn4G
namespace Go.Proofs.YtocligpfmfmihaaGreatDoor
open Go Go.RowKit Go.Maps Go.WideMaps
attribute [local go_sem] Oper.semAt_some
def SoR (W w : World) (o : Option (List Bs)) (e : Ending) (w' : World) : Prop := Kp (fun _ => False) w w' ∧ match o with
 | some ss => ∃ v, e = .returned (.tuple #[v, .nilIface]) ∧ w'.ownsRow w.heap.size 9 1 v ss.length (ss.map fun s => .string ⟨s.toArray⟩)
 | none => ∃ ev, e = .returned (.tuple #[.slice none 0 0, ev]) ∧ Ech W w' ev
theorem set_snd {w : World} {g : Nat} {x y q : Value} {T : TypeId} (h : w.heap[g]? = some (.cells #[x, y] T)) : (w.setCell ⟨g, 1, none⟩ q).heap[g]? = some (.cells #[x, q] T) := by
 simp [World.setCell, Array.getElem?_modify, h]
theorem zStr (w : World) : (zeroValue 9).run Tryz.prog w = .ok (.string ⟨#[]⟩) w := by kernel_rfl
theorem clr1 {w : World} {g : Nat} {a b : Value} (h : w.heap[g]? = some (.cells #[a, b] 9)) (ty : TypeId) : (Builtin.clear_ #[36] ty #[.slice (some ⟨g, 1, none⟩) 1 1]).run Tryz.prog w = .ok (.tuple #[]) (w.setCell ⟨g, 1, none⟩ (.string ⟨#[]⟩)) := by
 obtain ⟨⟨c0, c1⟩, f0, f1⟩ := pair_facts h
 have hc : ∀ j, j < 1 → (w.cell? ⟨g, 1 + j, none⟩).isSome = true := by
  intro j hj
  have : j = 0 := by omega
  subst this
  rw [show 1 + 0 = 1 from rfl, c1]
  rfl
 have hf : ∀ j, j < 1 → w.frozen? ⟨g, 1 + j, none⟩ = false := by
  intro j hj
  have : j = 0 := by omega
  subst this
  exact f1
 exact Lib.run_clear_slice w 36 9 ty (.string ⟨#[]⟩) Tryz.underlying36 zStr rfl rfl g 1 1 1 (by omega) hc hf
set_option maxRecDepth 20000 in
set_option maxHeartbeats 4000000 in
theorem compact2_c (w : World) (g : Nat) (a b : Bs) (h : w.heap[g]? = some (.cells #[.string ⟨a.toArray⟩, .string ⟨b.toArray⟩] 9)) :
  Calls Tryz.prog 201 #[.slice (some ⟨g, 0, none⟩) 2 2] w fun e w' => (a ≠ b ∧ e = .returned (.slice (some ⟨g, 0, none⟩) 2 2) ∧ Kp (fun _ => False) w w') ∨ (a = b ∧ e = .returned (.slice (some ⟨g, 0, none⟩) 1 2) ∧ Kp (fun k => k = g) w w' ∧ w'.heap[g]? = some (.cells #[.string ⟨a.toArray⟩, .string ⟨#[]⟩] 9)) := by
 obtain ⟨⟨c0, c1⟩, f0, f1⟩ := pair_facts h
 go_enter Tryz.func201, Tryz.ntmps201
 go_wp2_with fail
 go_loopg [3] 1 (fun gg q wx => Kp (fun _ => False) w wx ∧ ((gg = 1 ∧ q = .int .i64 1) ∨ (gg = 0 ∧ q = .int .i64 2 ∧ a ≠ b)))
 case atStart => exact ⟨Kp.refl _ _, Or.inl ⟨rfl, rfl⟩⟩
 case round =>
  obtain ⟨Kr, hq⟩ := hrel
  have hr := Kr.heap h
  clear c0 c1 f0 f1
  obtain ⟨⟨c0, c1⟩, f0, f1⟩ := pair_facts hr
  have HK := hide (And.intro Kr hr)
  clear Kr hr
  rcases hq with ⟨hg, rfl⟩ | ⟨hg, rfl, hne⟩
  ·by_cases he : a = b
   ·have he' : (b == a) = true := by simpa using he.symm
    have HE := hide (And.intro he hg)
    clear he hg
    go_wp2
    go_quiet (fail)
    go_wp2_with fail
    go_loopg [3, 5] 0 (fun gg p q wx => wx = wr.drewN nq ∧ gg = 0 ∧ p = .int .i64 1 ∧ q = .int .i64 1)
    case atStart => exact ⟨rfl, rfl, rfl, rfl⟩
    case round =>
     obtain ⟨rfl, _, rfl, rfl⟩ := hrel
     have Kd : Kp (fun _ => False) w (wr.drewN nq) := HK.out.1.drewN nq
     have hd := ((Kp.refl (fun _ => False) wr).drewN nq).heap HK.out.2
     have hcl := clr1 hd 0
     have hend : ((wr.drewN nq).setCell ⟨g, 1, none⟩ (.string ⟨#[]⟩)).heap[g]? = some (.cells #[.string ⟨a.toArray⟩, .string ⟨#[]⟩] 9) := set_snd hd
     have HX := hide (And.intro Kd hend)
     clear Kd hd hend
     go_wp2
     go_ret
     exact Or.inr ⟨HE.out.1, rfl, Kp.setCell (S := fun k => k = g) (p := ⟨g, 1, none⟩) (HX.out.1.mono (fun _ _ h => h.elim)) (fun _ => rfl) _, HX.out.2⟩
   ·have he' : (b == a) = false := by simpa using Ne.symm he
    have HE := hide (And.intro he hg)
    clear he hg
    go_wp2
    go_quiet (fail)
    go_wp2
    go_roundg 0
    all_goals first
     | (rw [HE.out.2]; omega)
     | exact ⟨HK.out.1.drewN _, Or.inr ⟨rfl, rfl, HE.out.1⟩⟩
  ·have HE := hide hne
   clear hne hg
   go_wp2
   go_ret
   exact Or.inl ⟨HE.out, rfl, HK.out.1⟩
theorem own_pair {w : World} {B g n : Nat} {x y : Value} {ss : List Value} (h : w.heap[g]? = some (.cells #[x, y] 9)) (hB : B ≤ g) (hn : n ≤ 2) (hs : ss = [x, y].take n) : w.ownsRow B 9 1 (.slice (some ⟨g, 0, none⟩) n 2) n ss := by
 subst hs
 refine ⟨by rw [List.length_take]; simp; omega, Or.inr ⟨g, 2, #[x, y], rfl, hB, h, hn, by unfold maxLen; omega, rfl, by simp⟩⟩
set_option maxRecDepth 20000 in
set_option maxHeartbeats 4000000 in
theorem signersOf_c (W : World) (hN : NG2 W) (w : World) (hW : Below W.heap.size W w) (l : List (Bs × J)) (b : Nat) (ho : Oz w l b) :
  Calls Tryz.prog 156 #[.map (some b)] w fun e w' => SoR W w (srvF l) e w' := by
 have HN1 := hide (nameUnder_c W hN w hW l b kOri (by decide) ho)
 have HO := hide ho
 clear ho
 go_enter Tryz.func156, Tryz.ntmps156
 go_wp2_with fail
 refine HN1.out.mono ?_
 rintro e w1 ⟨K1, h1⟩
 have HK1 := hide K1
 clear K1 HN1
 cases hno : nameF (lookK kOri l) with
 | none =>
  rw [hno] at h1
  obtain ⟨ev, rfl, he⟩ := h1
  obtain ⟨tt, uu, rfl⟩ := he.iface
  have HC : Hid (srvF l = none) := by show _ = _; unfold srvF; rw [hno]; rfl
  have HE := hide he
  clear he hno
  go_wp2
  go_ret2
  rw [HC.out]
  exact ⟨HK1.out, _, rfl, HE.out⟩
 | some o =>
  rw [hno] at h1
  replace h1 : e = .returned (.tuple #[.string ⟨o.toArray⟩, .nilIface]) := h1
  subst h1
  obtain ⟨v, hlk⟩ := ud_ok w1 l b kSen (by decide) (HO.out.up HK1.out)
  cases hls : lookK kSen l with
  | none =>
   rw [hls] at hlk
   replace hlk : (Instr.lookup 71 (.map (some b)) (.string ⟨#[115, 101, 110, 100, 101, 114]⟩) true).run Tryz.prog w1 = .ok (.tuple #[v, .bool false]) w1 := hlk
   have HC : Hid (srvF l = some [o]) := by show _ = _; unfold srvF; rw [hno, hls]; rfl
   clear hno hls
   go_wp2
   go_ret2
   rw [HC.out]
   have := HK1.out.size
   refine ⟨HK1.out.alloc _, _, rfl, ?_⟩
   exact World.ownsRow_lit (base := w.heap.size) (e := 9) (size := 1) w1 #[.string ⟨o.toArray⟩] 1 (by omega) (by unfold maxLen; omega) rfl
  | some j =>
   rw [hls] at hlk
   replace hlk : (Instr.lookup 71 (.map (some b)) (.string ⟨#[115, 101, 110, 100, 101, 114]⟩) true).run Tryz.prog w1 = .ok (.tuple #[v, .bool true]) w1 := hlk
   have HN2 := hide (nameUnder_c W hN w1 (below_kp hW HK1.out) l b kSen (by decide) (HO.out.up HK1.out))
   go_wp2_with fail
   refine HN2.out.mono ?_
   rintro e w2 ⟨K2, h2⟩
   have HK2 := hide (HK1.out.trans K2)
   clear K2 HN2 hlk
   rw [hls] at h2
   cases hns : nameF (some j) with
   | none =>
    rw [hns] at h2
    obtain ⟨ev, rfl, he⟩ := h2
    obtain ⟨tt, uu, rfl⟩ := he.iface
    have HC : Hid (srvF l = none) := by show _ = _; unfold srvF; rw [hno, hls]; simp only [Option.bind_some]; rw [hns]; rfl
    have HE := hide he
    clear he hno hls hns
    go_wp2
    go_ret2
    rw [HC.out]
    exact ⟨HK2.out, _, rfl, HE.out⟩
   | some s =>
    rw [hns] at h2
    replace h2 : e = .returned (.tuple #[.string ⟨s.toArray⟩, .nilIface]) := h2
    subst h2
    have HC : Hid (srvF l = some (if s = o then [o] else [o, s])) := by show _ = _; unfold srvF; rw [hno, hls]; simp only [Option.bind_some]; rw [hns]; rfl
    have Ia := heap_alloc_new w2 (.cells #[.string ⟨o.toArray⟩, .string ⟨s.toArray⟩] 9)
    have HCM := hide (compact2_c _ w2.heap.size o s Ia)
    have hs2 := HK2.out.size
    clear hno hls hns
    go_wp2_with fail
    refine HCM.out.mono ?_
    rintro e w3 (⟨hne, rfl, K3⟩ | ⟨rfl, rfl, K3, h3⟩)
    ·have HK3 := hide (And.intro ((HK2.out.alloc _).trans K3) (K3.heap Ia))
     have HE := hide hne
     clear K3 hne Ia HCM
     go_wp2
     go_ret2
     rw [HC.out, if_neg (Ne.symm HE.out)]
     exact ⟨HK3.out.1, _, rfl, own_pair HK3.out.2 (by omega) (by omega) rfl⟩
    ·have HK3 := hide (And.intro ((HK2.out.alloc _).and K3 (fun q hq e => by omega)) h3)
     clear K3 h3 Ia HCM
     go_wp2
     go_ret2
     rw [HC.out, if_pos trivial]
     exact ⟨HK3.out.1, _, rfl, own_pair HK3.out.2 (by omega) (by omega) rfl⟩
end Go.Proofs.YtocligpfmfmihaaGreatDoor
namespace Go.Proofs.YtocligpfmfmihaaGreatDoor
open Go Go.RowKit Go.Maps Go.WideMaps
attribute [local go_sem] Oper.semAt_some
theorem infoCl : (Tryz.prog.info? 111).map (fun i => (i.zero, i.size, i.bytes)) = some (some (.agg #[.string ⟨#[]⟩, .int .i64 0, .string ⟨#[]⟩, .slice none 0 0]), 4, 64) := by kernel_rfl
def clC (p : Clm × Value) : List Value := [.string ⟨p.1.server.toArray⟩, .int .i64 p.1.ts, .string ⟨p.1.msg.toArray⟩, p.2]
def ClR (w : World) (lo : Nat) (v : Value) (ps : List (Clm × Value)) : Prop := w.ownsRow lo 111 4 v ps.length (ps.flatMap clC) ∧ ∀ p ∈ ps, w.ownsRow lo 193 2 p.2 p.1.sigs.length (p.1.sigs.flatMap sgC)
def CoV (W w : World) (o : Option (List Clm)) (e : Ending) (w' : World) : Prop := Kp (fun _ => False) w w' ∧ match o with
 | some cs => ∃ v ps, e = .returned (.tuple #[v, .nilIface]) ∧ ps.map (·.1) = cs ∧ ClR w' w.heap.size v ps
 | none => ∃ ev, e = .returned (.tuple #[.slice none 0 0, ev]) ∧ Ech W w' ev
theorem nameF_len {o : Option J} {s : Bs} (h : nameF o = some s) : s.length ≤ 20 := by
 unfold nameF at h
 simp only [Option.bind_eq_some_iff] at h
 obtain ⟨t, _, h⟩ := h
 split at h
 ·rename_i hn
  injection h with h
  subst h
  unfold isNm at hn
  simp at hn
  exact hn.2
 ·cases h
theorem srvF_ok {l : List (Bs × J)} {ss : List Bs} (h : srvF l = some ss) : ss.length ≤ 2 ∧ ∀ s ∈ ss, s.length ≤ 1000 := by
 unfold srvF at h
 simp only [Option.bind_eq_some_iff] at h
 obtain ⟨o, ho, h⟩ := h
 have h1 := nameF_len ho
 split at h
 ·injection h with h
  subst h
  refine ⟨by simp, ?_⟩
  intro s hs
  simp at hs
  subst hs
  omega
 ·simp only [Option.map_eq_some_iff] at h
  obtain ⟨q, hq, rfl⟩ := h
  have h2 := nameF_len hq
  split
  ·refine ⟨by simp, ?_⟩
   intro s hs
   simp at hs
   subst hs
   omega
  ·refine ⟨by simp, ?_⟩
   intro s hs
   simp at hs
   rcases hs with rfl | rfl <;> omega
set_option maxRecDepth 20000 in
set_option maxHeartbeats 4000000 in
theorem claimsOf_c (W : World) (hN : NG2 W) (w : World) (hW : Below W.heap.size W w) (l : List (Bs × J)) (b : Nat) (ho : Oz w l b) (hwf : WF 6 (.obj l)) (hcl : (cJ (.obj l)).length ≤ 600) :
  Calls Tryz.prog 101 #[.map (some b)] w fun e w' => CoV W w (clmF l) e w' := by
 obtain ⟨f1, f2, f3, f4⟩ := bare_fits hwf hcl
 have HSO := hide (signersOf_c W hN w hW l b ho)
 have HO := hide (And.intro ho (And.intro hwf hcl))
 clear ho hwf hcl
 go_enter Tryz.func101, Tryz.ntmps101
 go_wp2_with fail
 refine HSO.out.mono ?_
 rintro e w1 ⟨K1, h1⟩
 have HK1 := hide K1
 clear K1 HSO
 cases hno : srvF l with
 | none =>
  rw [hno] at h1
  obtain ⟨ev, rfl, he⟩ := h1
  obtain ⟨tt, uu, rfl⟩ := he.iface
  have HC : Hid (clmF l = none) := by show _ = _; unfold clmF; rw [hno]; rfl
  have HE := hide he
  clear he hno
  go_wp2
  go_ret2
  rw [HC.out]
  exact ⟨HK1.out, _, rfl, HE.out⟩
 | some ss =>
  rw [hno] at h1
  obtain ⟨sv, rfl, rs⟩ := h1
  obtain ⟨sa, sc, rfl, hsm, hsa⟩ := own_sl rs
  have HMU := hide (momentUnder_c W hN w1 (below_kp hW HK1.out) l b kTs (by decide) (HO.out.1.up HK1.out))
  have HR := hide (And.intro rs hsa)
  clear rs hsa
  go_wp2_with fail
  refine HMU.out.mono ?_
  rintro e w2 ⟨K2, h2⟩
  have HK2 := hide (And.intro K2 (HK1.out.trans K2))
  clear K2 HMU
  cases hmo : momF (lookK kTs l) with
  | none =>
   rw [hmo] at h2
   obtain ⟨ev, rfl, he⟩ := h2
   obtain ⟨tt, uu, rfl⟩ := he.iface
   have HC : Hid (clmF l = none) := by show _ = _; unfold clmF; rw [hno, hmo]; rfl
   have HE := hide he
   clear he hno hmo
   go_wp2
   go_ret2
   rw [HC.out]
   exact ⟨HK2.out.2, _, rfl, HE.out⟩
  | some t =>
   rw [hmo] at h2
   replace h2 : e = .returned (.tuple #[.int .i64 t, .nilIface]) := h2
   subst h2
   have HC : Hid (clmF l = some (ss.map fun s => ⟨s, t, bareF l, sigF l s⟩)) := by show _ = _; unfold clmF; rw [hno, hmo]; rfl
   have hss := srvF_ok hno
   have HMS := hide (messageOf_c W hN.ng w2 (below_kp hW HK2.out.2) _ l b (HO.out.1.up HK2.out.2) (fun _ h => h) f1 f2 f3)
   have HSS := hide hss.2
   have hsl := hss.1
   clear hno hmo hss f1 f2 f3
   go_wp2_with fail
   refine HMS.out.mono ?_
   rintro e w3 ⟨rfl, K3⟩
   have HK3 := hide (And.intro (HK2.out.1.trans K3) (HK2.out.2.trans K3))
   clear K3 HMS
   obtain ⟨i0, hi, hz0, hz1, hz2⟩ := info_parts infoCl
   go_wp2_with fail
   go_loopg [8, 31] ss.length (fun gg a q wx => ∃ (i : Nat) (ps : List (Clm × Value)), gg = ss.length - i ∧ i ≤ ss.length ∧ q = .int .i64 (i : Int) ∧ Kp (fun _ => False) w3 wx ∧ ps.length = i ∧ ps.map (·.1) = (ss.take i).map (fun s => ⟨s, t, bareF l, sigF l s⟩) ∧ ClR wx w3.heap.size a ps)
   case atStart => exact ⟨0, [], rfl, by omega, rfl, Kp.refl _ _, rfl, rfl, World.ownsRow_nil _ _ _ _, fun p h => (by cases h)⟩
   case round =>
    obtain ⟨i, ps, hgg, hin, rfl, Kr, hpl, hpm, hC⟩ := hrel
    have Kw := HK3.out.2.trans Kr
    have hsz := Kw.size
    have hs3 := Kr.size
    have HG := hide (And.intro hgg (And.intro Kr (And.intro hpm (And.intro hC Kw))))
    clear hgg hpm
    by_cases hlt : i < ss.length
    ·have hlt' : (i : Int) < (ss.length : Int) := by omega
     obtain ⟨s, hs⟩ : ∃ s, ss[i]? = some s := ⟨ss[i], List.getElem?_eq_getElem hlt⟩
     obtain ⟨g, rfl, hg⟩ := HR.out.2 (by omega)
     have cx : wr.cell? ⟨g, i, none⟩ = some (.string ⟨s.toArray⟩) := own_cell (ownsRow_kp HR.out.1 (HK3.out.1.trans Kr) (by simp)) i _ (by rw [List.getElem?_map, hs]; rfl)
     have HSG := hide (signaturesOf_c wr l b (HO.out.1.up Kw) HO.out.2.1 HO.out.2.2 s (HSS.out s (List.mem_of_getElem? hs)))
     have htk : (ss.take (i + 1)).map (fun s => (⟨s, t, bareF l, sigF l s⟩ : Clm)) = (ss.take i).map (fun s => ⟨s, t, bareF l, sigF l s⟩) ++ [⟨s, t, bareF l, sigF l s⟩] := by
      rw [take_succ hs, List.map_append]
      rfl
     have HTK := hide htk
     clear htk hs Kr Kw hC
     go_wp2_with fail
     refine HSG.out.mono ?_
     rintro e w5 ⟨K5, v, rfl, rv⟩
     obtain ⟨va, vc, rfl, _, _⟩ := own_sl rv
     have row5 := ownsRow_kp HG.out.2.2.2.1.1 K5 (by simp)
     have hs5 := K5.size
     have HV := hide (And.intro K5 rv)
     clear K5 rv HSG
     go_wp2_with (at_builtin; (refine wpList_append_own_at _ rfl _ _ 102 rfl w3.heap.size 111 i0 (.agg #[.string ⟨#[]⟩, .int .i64 0, .string ⟨#[]⟩, .slice none 0 0]) 4 64 Tryz.underlying102 hi hz0 hz1 hz2 rfl (by decide) _ _ _ rfl (by exact World.ownsRow.alloc row5 _) ⟨w5.heap.size, 0, none⟩ 1 1 (clC (⟨s, t, bareF l, sigF l s⟩, .slice va (sigF l s).length vc)) rfl rfl ?_ (by intro u hu; simp [clC] at hu; rcases hu with rfl | rfl | rfl | rfl <;> rfl) (by unfold maxLen; omega) (by omega) (by simp; omega) ?_))
     ·intro j u hj
      rcases j with _ | _ | _ | _ | j
      all_goals simp [clC] at hj
      all_goals subst hj
      all_goals simp [Addr.add]
     intro v6 w6 y1 y2 _ y3
     obtain ⟨ca, cc, rfl, _, _⟩ := own_sl y1
     have K6 : Kp (fun _ => False) w3 w6 := ((HG.out.2.1.trans HV.out.1).alloc _).gr y2 (fun r e => (row5.lt r e).1)
     have keep : ∀ {v : Value} {n : Nat} {xs : List Value}, w5.ownsRow w3.heap.size 193 2 v n xs → w6.ownsRow w3.heap.size 193 2 v n xs := by
      intro v n xs hr
      refine ownsRow_heap hr (fun k e => ?_)
      have h1 := (hr.lt k e).2
      rw [y2.block k (by simp; omega) (fun e2 => row_apart row5 hr (by decide) e2.symm e)]
      exact Below.heap_alloc _ _ _ h1
     have hnew := keep (own_base (show w3.heap.size ≤ wr.heap.size by omega) HV.out.2)
     have hold : ∀ p ∈ ps, w6.ownsRow w3.heap.size 193 2 p.2 p.1.sigs.length (p.1.sigs.flatMap sgC) := fun p hp => keep (ownsRow_kp (HG.out.2.2.2.1.2 p hp) HV.out.1 (by simp))
     have H6 := hide (And.intro K6 (And.intro y1 (And.intro hnew hold)))
     clear K6 y1 y2 y3 hnew hold keep row5
     go_wp2
     go_roundg (ss.length - (i + 1))
     case measure => rw [HG.out.1]; omega
     case rel =>
      refine ⟨i + 1, ps ++ [(⟨s, t, bareF l, sigF l s⟩, .slice va (sigF l s).length vc)], rfl, by omega, int_i64 (by omega), H6.out.1, by simp [hpl], ?_, ?_, ?_⟩
      ·rw [List.map_append, HTK.out, HG.out.2.2.1]
       rfl
      ·rw [List.flatMap_append, List.length_append, hpl]
       have e9 : List.flatMap clC [((⟨s, t, bareF l, sigF l s⟩ : Clm), Value.slice va (sigF l s).length vc)] = clC (⟨s, t, bareF l, sigF l s⟩, .slice va (sigF l s).length vc) := by simp
       rw [e9]
       exact H6.out.2.1
      ·intro p hp
       rcases List.mem_append.1 hp with h | h
       ·exact H6.out.2.2.2 p h
       ·obtain rfl := List.mem_singleton.1 h
        exact H6.out.2.2.1
    ·have hlt' : ¬ (i : Int) < (ss.length : Int) := by omega
     have hw3 := HK3.out.2.size
     have hpm : ps.map (·.1) = ss.map (fun s => ⟨s, t, bareF l, sigF l s⟩) := by
      rw [HG.out.2.2.1, List.take_of_length_le (by omega)]
     have HPM := hide hpm
     clear hpm Kr Kw hC
     go_wp2
     go_ret2
     rw [HC.out]
     exact ⟨HG.out.2.2.2.2, _, ps, rfl, HPM.out, own_base hw3 HG.out.2.2.2.1.1, fun p hp => own_base hw3 (HG.out.2.2.2.1.2 p hp)⟩
end Go.Proofs.YtocligpfmfmihaaGreatDoor
namespace Go.Proofs.YtocligpfmfmihaaGreatDoor
open Go Go.RowKit Go.Maps Go.WideMaps Go.MuLone
attribute [local go_sem] Oper.semAt_some
def CkR (W w : World) (o : Nat × Bs) (e : Ending) (w' : World) : Prop := Kp (fun _ => False) w w' ∧
 ((o.1 = 0 ∧ e = .returned .nilIface) ∨ (∃ q a, e = .returned (.iface 188 (.pointer (some ⟨q, 0, none⟩))) ∧ w'.heap[q]? = some (.cells #[.string ⟨o.2.toArray⟩, errV a] 191) ∧
   ((o.1 = 8 ∧ W.cell? ⟨3, 0, none⟩ = some (errV a)) ∨ (o.1 = 5 ∧ Plain W a))))
set_option maxRecDepth 20000 in
set_option maxHeartbeats 4000000 in
theorem kcheck_c (W : World) (hN : NG3 W) (w : World) (hW : Below W.heap.size W w) (F : Nat → Prop) (kb : Nat) (st : Ldg) (c : Nat) (h : KN w F kb st c) (hkl : ∀ s i p, st.keys s i = some p → p.1.length ≤ 600) (cl : Clm) (hcl : ClK cl) (B : Nat) (sv : Value) (row : w.ownsRow B 193 2 sv cl.sigs.length (cl.sigs.flatMap sgC)) :
  Calls Tryz.prog 63 #[.pointer (some ⟨kb, 0, none⟩), clV cl sv] w fun e w' => CkR W w (signS st cl) e w' := by
 obtain ⟨eu, hun⟩ : ∃ ea, W.cell? ⟨3, 0, none⟩ = some (errV ea) := by
  obtain ⟨a, _, _, h, _⟩ := hN.n2.lay 3 (by simp [four])
  exact ⟨a, h⟩
 obtain ⟨es, hes, hpl⟩ := hN.n2.sml 7 (by simp)
 obtain ⟨sa, sc, rfl, hsm, hsa⟩ := own_sl row
 have K0 : Kp (fun _ => False) w (w.alloc (clObj cl (.slice sa cl.sigs.length sc))) := (Kp.refl _ _).alloc _
 have I0 := heap_alloc_new w (clObj cl (.slice sa cl.sigs.length sc))
 have HWT := hide (wants_c (w.alloc (clObj cl (.slice sa cl.sigs.length sc))) F kb st c (h.kp2 K0) cl hcl B _ (ownsRow_kp row K0 (by simp)))
 obtain ⟨e0, e1, e2, e3, heb⟩ := cl_facts I0
 have HR := hide (And.intro row (And.intro hsa (And.intro h (And.intro hcl hkl))))
 have HK0 := hide (And.intro K0 I0)
 clear row hsa h hcl K0 I0 hkl
 unfold clV at *
 unfold clObj at *
 go_enter Tryz.func63, Tryz.ntmps63
 go_wp2_with fail
 generalize (w.alloc (.cells #[.string ⟨cl.server.toArray⟩, .int .i64 cl.ts, .string ⟨cl.msg.toArray⟩, .slice sa cl.sigs.length sc] 111)) = w0 at *
 refine HWT.out.mono ?_
 rintro e w1 ⟨rfl, K1⟩
 clear e0 e1 e2 e3 heb
 have I1 := K1.heap HK0.out.2
 have Kw1 := HK0.out.1.trans K1
 have HK1 := hide (And.intro Kw1 I1)
 obtain ⟨e0, e1, e2, e3, heb⟩ := cl_facts (c := cl) (sv := .slice sa cl.sigs.length sc) I1
 have hcu := Below.cl (below_kp hW Kw1) hun
 unfold errV at hcu
 have HSN : Hid (signS st cl = if rightS st cl then (0, []) else if wantS st cl then (8, cl.server) else (5, cl.server)) := rfl
 clear K1 I1 Kw1 HWT HK0
 cases hw : wantS st cl with
 | true =>
  have hr : rightS st cl = false := by
   unfold wantS at hw
   simp only [Bool.and_eq_true, Bool.not_eq_true'] at hw
   have h2 := hw.2
   unfold hasS at h2
   rw [List.any_eq_false] at h2
   unfold rightS
   rw [List.any_eq_false]
   intro p hp
   have := h2 p hp
   cases hm : mayS st cl.server p.1 cl.ts with
   | none => rw [okS_none hm]; simp
   | some k => rw [hm] at this; simp at this
  have HC : Hid (signS st cl = (8, cl.server)) := by show _ = _; rw [HSN.out, hr, hw]; rfl
  clear hr hw
  go_wp2
  go_ret
  rw [HC.out]
  exact ⟨HK1.out.1.alloc _, Or.inr ⟨_, eu, rfl, heap_alloc_new w1 _, Or.inl ⟨rfl, hun⟩⟩⟩
 | false =>
  have HWF := hide hw
  clear hw hcu
  go_wp2_with fail
  go_loopg [21] cl.sigs.length (fun gg a wx => ∃ (i : Nat), gg = cl.sigs.length - i ∧ i ≤ cl.sigs.length ∧ a = .int .i64 (i : Int) ∧ Kp (fun _ => False) w1 wx ∧ ∀ (j : Nat) (p : Bs × Bs), j < i → cl.sigs[j]? = some p → okS st cl p = false)
  case atStart => exact ⟨0, rfl, by omega, rfl, Kp.refl _ _, fun _ _ h => absurd h (by omega)⟩
  case round =>
   obtain ⟨i, hgg, hin, rfl, Kr, hall⟩ := hrel
   have Kw := HK1.out.1.trans Kr
   have HG := hide (And.intro hgg (And.intro hall (And.intro Kr Kw)))
   clear e0 e1 e2 e3 heb
   obtain ⟨e0, e1, e2, e3, heb⟩ := cl_facts (c := cl) (sv := .slice sa cl.sigs.length sc) (Kr.heap HK1.out.2)
   clear hgg hall
   by_cases hlt : i < cl.sigs.length
   ·have hlt' : (i : Int) < (cl.sigs.length : Int) := by omega
    obtain ⟨p, hp⟩ : ∃ p, cl.sigs[i]? = some p := ⟨cl.sigs[i], List.getElem?_eq_getElem hlt⟩
    obtain ⟨g, rfl, hg⟩ := HR.out.2.1 (by omega)
    obtain ⟨s0, s1⟩ := sg_cells (ownsRow_kp HR.out.1 Kw (by simp)) i p hp
    have Ka : Kp (fun _ => False) wr (wr.alloc (.cells #[.string ⟨p.1.toArray⟩, .string ⟨p.2.toArray⟩] 193)) := (Kp.refl _ _).alloc _
    have Ia := heap_alloc_new wr (.cells #[.string ⟨p.1.toArray⟩, .string ⟨p.2.toArray⟩] 193)
    have HF := hide HR.out.2.2.1
    have HM := hide (keyAt_c (wr.alloc (.cells #[.string ⟨p.1.toArray⟩, .string ⟨p.2.toArray⟩] 193)) F kb st c (HF.out.kp2 (Kw.trans Ka)) cl.server p.1 (by have := HR.out.2.2.2.1.srv; omega) (by have := HR.out.2.2.2.1.ids p (List.mem_of_getElem? hp); omega) cl.ts)
    have next : okS st cl p = false → ∀ (j : Nat) (q : Bs × Bs), j < i + 1 → cl.sigs[j]? = some q → okS st cl q = false := by
     intro hno j q hj hq
     rcases Nat.lt_or_ge j i with h | h
     ·exact HG.out.2.1 j q h hq
     ·have : j = i := by omega
      subst this
      rw [hp] at hq
      injection hq with hq
      subst hq
      exact hno
    have good : okS st cl p = true → signS st cl = (0, []) := by
     intro hyes
     have : rightS st cl = true := by
      unfold rightS
      rw [List.any_eq_true]
      exact ⟨p, List.mem_of_getElem? hp, hyes⟩
     rw [HSN.out, this]
     rfl
    have hkk : ∀ k, mayS st cl.server p.1 cl.ts = some k → k.length ≤ 600 := by
     intro k hk
     unfold mayS at hk
     cases hq : st.keys cl.server p.1 with
     | none => rw [hq] at hk; cases hk
     | some q =>
      have := HR.out.2.2.2.2 _ _ q hq
      rw [hq] at hk
      simp only [Option.bind_some] at hk
      split at hk
      ·cases hk
      ·injection hk with hk
       subst hk
       exact this
    have hml := HR.out.2.2.2.1.msg
    have HN := hide (And.intro next (And.intro good hkk))
    have HKa := hide (And.intro Ka Ia)
    clear next good hkk hp Kr Kw
    go_wp2_with fail
    generalize (wr.alloc (.cells #[.string ⟨p.1.toArray⟩, .string ⟨p.2.toArray⟩] 193)) = wa at *
    clear Ka Ia
    refine HM.out.mono ?_
    rintro e X ⟨rfl, KX⟩
    have HX := hide (And.intro (HKa.out.1.trans KX) (And.intro (KX.heap HKa.out.2) KX))
    clear KX HM
    cases hm : mayS st cl.server p.1 cl.ts with
    | none =>
     simp only [Option.isSome_none]
     have HN1 := hide (HN.out.1 (okS_none hm))
     clear HN hm
     go_wp2
     go_quiet (fail)
     go_wp2
     go_roundg (cl.sigs.length - (i + 1))
     all_goals first
      | (rw [HG.out.1]; omega)
      | exact ⟨i + 1, rfl, by omega, int_i64 (by omega), (HG.out.2.2.1.trans HX.out.1).drewN _, HN1.out⟩
    | some k =>
     have hkl := HN.out.2.2 k hm
     obtain ⟨tl, htl⟩ : ∃ tl : Bs, sealF ⟨k.toArray⟩ ⟨cl.msg.toArray⟩ = ⟨tl.toArray⟩ := ⟨_, rfl⟩
     have hok := okS_some hm htl
     simp only [Option.getD_some, Option.isSome_some]
     have hseal := seal_any ⟨k.toArray⟩ ⟨cl.msg.toArray⟩ X.drew (by rw [mk_size2]; omega) (by rw [mk_size2]; omega)
     rw [htl] at hseal
     have HSL := hide hseal
     have HOK := hide hok
     clear hm hseal htl hok
     clear e0 e1 e2 e3 heb
     obtain ⟨e0, e1, e2, e3, heb⟩ := cl_facts (c := cl) (sv := .slice (some ⟨g, 0, none⟩) cl.sigs.length sc) ((HG.out.2.2.1.trans HX.out.1).heap HK1.out.2)
     have x1 : X.cell? ⟨wr.heap.size, 1, none⟩ = some (.string ⟨p.2.toArray⟩) := by simp [World.cell?, HX.out.2.1]
     go_wp2_with fail
     refine wp_md ?_ (fun Y => Kp (fun _ => False) X.drew Y) ?_ ?_
     rotate_left
     ·go_region_law (refine step_callG (by rfl) 52 _ _ rfl #[.string ⟨k.toArray⟩, .string ⟨cl.msg.toArray⟩] (by go_simp) ?_; refine HSL.out.mono ?_; rintro e w2 ⟨rfl, hq⟩; have y1 := (Kp.of_below hq).cel (show X.drew.cell? ⟨wr.heap.size, 1, none⟩ = some (.string ⟨p.2.toArray⟩) from x1))
      all_goals exact md_normal (Kp.of_below hq)
     intro Y KY
     have HY := hide (And.intro (HG.out.2.2.1.trans (HX.out.1.drew.trans KY)) (HG.out.2.2.2.trans (HX.out.1.drew.trans KY)))
     clear KY
     by_cases ht : p.2 = tl
     ·have ht' : (p.2 == tl) = true := by simpa using ht
      have HN1 := hide (HN.out.2.1 (by rw [HOK.out]; simpa using ht))
      clear HN ht
      simp only [ht']
      go_wp2
      go_ret
      rw [HN1.out]
      exact ⟨HY.out.2, Or.inl ⟨rfl, rfl⟩⟩
     ·have ht' : (p.2 == tl) = false := by simpa using ht
      have HN1 := hide (HN.out.1 (by rw [HOK.out]; simpa using ht))
      clear HN ht
      simp only [ht']
      go_wp2
      go_roundg (cl.sigs.length - (i + 1))
      case measure => rw [HG.out.1]; omega
      case rel => exact ⟨i + 1, rfl, by omega, int_i64 (by omega), HY.out.1, HN1.out⟩
   ·have hlt' : ¬ (i : Int) < (cl.sigs.length : Int) := by omega
    have HC : Hid (signS st cl = (5, cl.server)) := by
     show _ = _
     have : rightS st cl = false := by
      unfold rightS
      rw [List.any_eq_false]
      intro p hp
      obtain ⟨j, hj, he⟩ := List.mem_iff_getElem.1 hp
      have := HG.out.2.1 j p (by omega) (by rw [List.getElem?_eq_getElem hj, he])
      rw [this]
      simp
     rw [HSN.out, this, HWF.out]
     rfl
    have hcs := Below.cl (below_kp hW Kw) hes
    unfold errV at hcs
    clear Kr Kw
    go_wp2
    go_ret
    rw [HC.out]
    exact ⟨HG.out.2.2.2.alloc _, Or.inr ⟨_, es, rfl, heap_alloc_new wr _, Or.inr ⟨rfl, hpl⟩⟩⟩
end Go.Proofs.YtocligpfmfmihaaGreatDoor
namespace Go.Proofs.YtocligpfmfmihaaGreatDoor
open Go Go.RowKit Go.Maps Go.WideMaps
attribute [local go_sem] Oper.semAt_some
theorem Ech.evnt {W w : World} {b : Nat} {ev : Value} (h : Ech W w ev) (hb : w.heap[b]? = some (.cells #[ev] 187)) : Chd W w (.iface 118 (.pointer (some ⟨b, 0, none⟩))) 7 := by
 obtain ⟨a, ks, h1, h2, h3⟩ := h.chain
 exact ⟨a, (.evt, ⟨#[]⟩) :: ks, .cons .evt ks b ⟨#[]⟩ ev hb h1, h2.1, h2.2 _ (by simp [four]), h2.2 _ (by simp [four]), .evt (.evt, ⟨#[]⟩) (by
   rw [List.find?_cons]
   simp only [show ((Lk.evt, (⟨#[]⟩ : ByteArray)).1 == Lk.doc) = false from rfl]
   exact find_mem h3 _ (by decide)) (h2.2 _ (by simp [four])) (by simp)⟩
def Evr (W w : World) (ev : Value) (n : Nat) : Prop := EV W w ev n ∨ ∃ a ks, Chn w a ks ev ∧ ks.find? (fun p => p.1 == Lk.srv) = none ∧ Chd W w ev n
def ReR (W w : World) (o : Except Nat (List Clm)) (e : Ending) (w' : World) : Prop := Kp (fun _ => False) w w' ∧ match o with
 | .ok cs => ∃ v ps, e = .returned (.tuple #[v, .nilIface]) ∧ ps.map (·.1) = cs ∧ ClR w' w.heap.size v ps
 | .error n => ∃ tt uu, e = .returned (.tuple #[.slice none 0 0, .iface tt uu]) ∧ Evr W w' (.iface tt uu) n
set_option maxRecDepth 20000 in
set_option maxHeartbeats 4000000 in
theorem readEvent_c (W : World) (hN : NG2 W) (text : Bs) (w : World) (hW : Below W.heap.size W w) :
  Calls Tryz.prog 57 #[.string ⟨text.toArray⟩] w fun e w' => ReR W w (takeF text) e w' := by
 have HX := hide (readObject_c W hN.ng ⟨text.toArray⟩ w hW)
 have e9 : (⟨text.toArray⟩ : ByteArray).data.toList = text := by simp
 rw [e9] at HX
 clear e9
 go_enter Tryz.func57, Tryz.ntmps57
 go_wp2_with fail
 refine HX.out.mono ?_
 rintro e w1 ⟨K1, ⟨l, b, hof, rfl, hr⟩ | ⟨n, ev, hof, rfl, he, tt, u, rfl⟩⟩
 ·have oz : Oz w1 l b := Rep.mono (fun j hj => hj.2) _ hr
  obtain ⟨hp, hl⟩ := object_ok hof
  obtain ⟨hwf, hle⟩ := parse_ok hp
  have hcl : (cJ (.obj l)).length ≤ 600 := Nat.le_trans hle hl
  have HCO := hide (claimsOf_c W hN w1 (below_kp hW K1) l b oz hwf hcl)
  have HF := hide hof
  have HK1 := hide K1
  clear HX hof hr oz hp hl hwf hle hcl K1
  go_wp2_with fail
  refine HCO.out.mono ?_
  rintro e w2 ⟨K2, h2⟩
  have HK2 := hide (HK1.out.trans K2)
  have hs1 := HK1.out.size
  clear K2 HCO
  cases hcm : clmF l with
  | none =>
   rw [hcm] at h2
   obtain ⟨ev, rfl, he⟩ := h2
   obtain ⟨tt, uu, rfl⟩ := he.iface
   have HT : Hid (takeF text = .error 7) := by show _ = _; unfold takeF; rw [HF.out]; simp only [hcm]
   have Ka : Kp (fun _ => False) w2 (w2.alloc (.cells #[.iface tt uu] 187)) := (Kp.refl _ _).alloc _
   have hch := (he.up Ka).evnt (heap_alloc_new w2 (.cells #[.iface tt uu] 187))
   obtain ⟨a, ks, c1, c2, c3⟩ := (he.up Ka).chain
   have hcn : Chn (w2.alloc (.cells #[.iface tt uu] 187)) a ((.evt, ⟨#[]⟩) :: ks) (.iface 118 (.pointer (some ⟨w2.heap.size, 0, none⟩))) := .cons .evt ks _ ⟨#[]⟩ _ (heap_alloc_new w2 (.cells #[.iface tt uu] 187)) c1
   have hfs : ((Lk.evt, (⟨#[]⟩ : ByteArray)) :: ks).find? (fun p => p.1 == Lk.srv) = none := by
    rw [List.find?_cons]
    simp only [show ((Lk.evt, (⟨#[]⟩ : ByteArray)).1 == Lk.srv) = false from rfl]
    exact find_mem c3 _ (by decide)
   have HE := hide (And.intro (HK2.out.trans Ka) (And.intro hch (And.intro hcn hfs)))
   clear he hcm hch hcn hfs c1 c2 c3 Ka
   go_wp2
   go_ret2
   rw [HT.out]
   exact ⟨HE.out.1, _, _, rfl, Or.inr ⟨_, _, HE.out.2.2.1, HE.out.2.2.2, HE.out.2.1⟩⟩
  | some cs =>
   rw [hcm] at h2
   obtain ⟨v, ps, rfl, hpm, hC⟩ := h2
   obtain ⟨va, vc, rfl, _, _⟩ := own_sl hC.1
   have HT : Hid (takeF text = .ok cs) := by show _ = _; unfold takeF; rw [HF.out]; simp only [hcm]
   have HC := hide (And.intro hpm hC)
   clear hcm hpm hC
   go_wp2
   go_ret2
   rw [HT.out]
   exact ⟨HK2.out, _, ps, rfl, HC.out.1, own_base hs1 HC.out.2.1, fun p hp => own_base hs1 (HC.out.2.2 p hp)⟩
 ·have HT : Hid (takeF text = .error n) := by show _ = _; unfold takeF; rw [hof]
  have HE := hide (And.intro K1 he)
  clear hof he K1 HX
  go_wp2
  go_ret2
  rw [HT.out]
  exact ⟨HE.out.1, _, _, rfl, Or.inl HE.out.2⟩
end Go.Proofs.YtocligpfmfmihaaGreatDoor

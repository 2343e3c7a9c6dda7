import Derived.Test.YtocligpfmfmihaaGreatDoorPr3G
import Derived.Test.YtocligpfmfmihaaGreatDoorRea10G
import Derived.Laws.OwnMore
import Derived.Test.YtocligpfmfmihaaGreatDoorRows
import Derived.Test.YtocligpfmfmihaaGreatDoorCanG
import Derived.LaidSub
import Derived.LaidLaws
import Derived.Lib.LaidU8T
namespace Go.Proofs.YtocligpfmfmihaaGreatDoor
open Go Go.RowKit Go.Maps Go.WideMaps Go.Sort Go.Shelf
attribute [local go_sem] Oper.semAt_some

theorem Chn.three {w : World} {a : Addr} {ks : List (Lk × ByteArray)} {ev x y z p q r : Value} {k : Nat} (h : Chn w a ks ev) (hk : w.heap[k]? = some (.cells #[x, y, z] 30)) : Chn (((w.setCell ⟨k, 0, none⟩ p).setCell ⟨k, 1, none⟩ q).setCell ⟨k, 2, none⟩ r) a ks ev := by
  refine h.up ?_
  intro j c t hj ht
  have : j ≠ k := by
    rintro rfl
    rw [hk] at hj
    injection hj with hj
    injection hj with _ h2 _
    subst h2
    revert ht
    decide
  rw [heap_set_other (by exact this), heap_set_other (by exact this), heap_set_other (by exact this)]
  exact hj
theorem Enr.three {W w : World} {ev x y z p q r : Value} {n k : Nat} (h : Enr W w ev n) (hk : w.heap[k]? = some (.cells #[x, y, z] 30)) : Enr W (((w.setCell ⟨k, 0, none⟩ p).setCell ⟨k, 1, none⟩ q).setCell ⟨k, 2, none⟩ r) ev n := by
  rcases h with h | ⟨a, ks, h1, h2⟩
  · refine Or.inl ?_
    rcases h with h | ⟨h1, fb, h2, k', g, cb, h3, h4⟩ | h
    · exact Or.inl h
    · refine Or.inr (Or.inl ⟨h1, fb, h2, k', g, cb, ?_, h4⟩)
      have : fb ≠ k := by
        rintro rfl
        rw [hk] at h3
        injection h3 with h3
        injection h3 with _ h2 _
        revert h2
        decide
      rw [heap_set_other (by exact this), heap_set_other (by exact this), heap_set_other (by exact this)]
      exact h3
    · exact Or.inr (Or.inr h)
  · exact Or.inr ⟨a, ks, h1.three hk, h2⟩
theorem EV.up {W w w' : World} {ev : Value} {n : Nat} (h : EV W w ev n) (hk : Kp (fun _ => False) w w') : EV W w' ev n := by
  rcases h with h | ⟨h1, fb, h2, k', g, cb, h3, h4⟩ | h
  · exact Or.inl h
  · exact Or.inr (Or.inl ⟨h1, fb, h2, k', g, cb, hk.heap h3, h4⟩)
  · exact Or.inr (Or.inr h)
theorem Enr.up {W w w' : World} {ev : Value} {n : Nat} (h : Enr W w ev n) (hk : Kp (fun _ => False) w w') : Enr W w' ev n := by
  rcases h with h | h
  · exact Or.inl (h.up hk)
  · exact Or.inr (h.up hk)
/-- What readDocument comes to. -/
def RdD (W w : World) (o : Except Nat (Bs × Int × List Ky)) (e : Ending) (w' : World) : Prop := Kp (fun _ => False) w w' ∧ match o with
  | .error n => ∃ ev, e = .returned (.tuple #[.agg #[.string ⟨#[]⟩, .int .i64 0, .slice none 0 0], ev]) ∧ Enr W w' ev n ∧ ∃ t u, ev = .iface t u
  | .ok (s, u, ks) => ∃ v, e = .returned (.tuple #[.agg #[.string ⟨s.toArray⟩, .int .i64 u, v], .nilIface]) ∧ w'.ownsRow w.heap.size 35 4 v ks.length (ks.flatMap kyC)
theorem rdd_results {w : World} {rb : Nat} {a b c d : Value} (tmps : Array Value) (h2 : tmps[2]?.getD undef = .pointer (some ⟨rb, 0, none⟩)) (h3 : tmps[3]?.getD undef = d) (hb : w.heap[rb]? = some (.cells #[a, b, c] 30)) :
    (results Tryz.f47 tmps).run Tryz.prog w = .ok (.tuple #[.agg #[a, b, c], d]) w := by
  obtain ⟨c0, c1, c2, _⟩ := dfacts hb
  simp [results, Tryz.results47, go_sem, h2, h3, c0, c1, c2]
theorem rdd_no {W w w6 : World} {o : Except Nat (Bs × Int × List Ky)} {n : Nat} {x y z : Value} {t : TypeId} {u : Value} (h : Kp (fun _ => False) w w6) (hq : w6.heap[w.heap.size]? = some (.cells #[x, y, z] 30)) (he : Enr W w6 (.iface t u) n) (ho : o = .error n) :
    RdD W w o (.returned (.tuple #[.agg #[.string ⟨#[]⟩, .int .i64 0, .slice none 0 0], .iface t u])) (((w6.setCell ⟨w.heap.size, 0, none⟩ (.string ⟨#[]⟩)).setCell ⟨w.heap.size, 1, none⟩ (.int .i64 0)).setCell ⟨w.heap.size, 2, none⟩ (.slice none 0 0)) := by
  subst ho
  exact ⟨kp3 h, _, rfl, he.three hq, _, _, rfl⟩
theorem rdd_yes {W w w6 : World} {B : Nat} {o : Except Nat (Bs × Int × List Ky)} {s : Bs} {u : Int} {ks : List Ky} {v : Value} (h : Kp (fun _ => False) w w6) (hB : w.heap.size < B) (row : w6.ownsRow B 35 4 v ks.length (ks.flatMap kyC)) (ho : o = .ok (s, u, ks)) :
    RdD W w o (.returned (.tuple #[.agg #[.string ⟨s.toArray⟩, .int .i64 u, v], .nilIface])) (((w6.setCell ⟨w.heap.size, 0, none⟩ (.string ⟨s.toArray⟩)).setCell ⟨w.heap.size, 1, none⟩ (.int .i64 u)).setCell ⟨w.heap.size, 2, none⟩ v) := by
  subst ho
  refine ⟨kp3 h, _, rfl, own_base (Nat.le_of_lt hB) (ownsRow_heap row ?_)⟩
  intro k hk
  have := (own_cells row hk).1
  have hne : k ≠ w.heap.size := by omega
  rw [heap_set_other (by exact hne), heap_set_other (by exact hne), heap_set_other (by exact hne)]
theorem rdd_doc {W w w6 : World} {o : Except Nat (Bs × Int × List Ky)} {x y z : Value} {D : Obj} {t : TypeId} {u : Value} (h : Kp (fun _ => False) w w6) (hq : w6.heap[w.heap.size]? = some (.cells #[x, y, z] 30)) (he : Ech W w6 (.iface t u)) (ho : o = .error 4) :
    RdD W w o (.returned (.tuple #[.agg #[.string ⟨#[]⟩, .int .i64 0, .slice none 0 0], .iface 117 (.pointer (some ⟨w6.heap.size + 1, 0, none⟩))])) (((((w6.setCell ⟨w.heap.size, 0, none⟩ (.string ⟨#[]⟩)).setCell ⟨w.heap.size, 1, none⟩ (.int .i64 0)).setCell ⟨w.heap.size, 2, none⟩ (.slice none 0 0)).alloc D).alloc (.cells #[.iface t u] 146)) := by
  subst ho
  have e3 := ech3 (a := .string ⟨#[]⟩) (b := .int .i64 0) (c := .slice none 0 0) he hq (by decide)
  have hsz : (((w6.setCell ⟨w.heap.size, 0, none⟩ (.string ⟨#[]⟩)).setCell ⟨w.heap.size, 1, none⟩ (.int .i64 0)).setCell ⟨w.heap.size, 2, none⟩ (.slice none 0 0)).heap.size = w6.heap.size := by simp
  refine ⟨((kp3 h).alloc _).alloc _, _, rfl, Or.inr (Ech.docu (e3.up (((Kp.refl _ _).alloc _).alloc _)) ?_), _, _, rfl⟩
  have := heap_alloc_new ((((w6.setCell ⟨w.heap.size, 0, none⟩ (.string ⟨#[]⟩)).setCell ⟨w.heap.size, 1, none⟩ (.int .i64 0)).setCell ⟨w.heap.size, 2, none⟩ (.slice none 0 0)).alloc D) (.cells #[.iface t u] 146)
  rw [World.size_alloc, hsz] at this
  exact this
theorem doc_kids {k : Bs} {l : List (Bs × J)} (hwf : WF 6 (.obj l)) (hcl : (cJ (.obj l)).length ≤ 600) : ∀ m, objF (lookK k l) = some m → Srt m ∧ m.length ≤ 1000 ∧ ∀ p ∈ m, p.1.length ≤ 1000 := by
  intro m hm
  have hlk : lookK k l = some (.obj m) := by
    cases h : lookK k l with
    | none => rw [h] at hm; cases hm
    | some j =>
      rw [h] at hm
      cases j with
      | obj m' => injection hm with hm; subst hm; rfl
      | _ => cases hm
  have hl := child_len hlk
  have hw : WF 5 (.obj m) := by
    have h2 := hwf
    simp only [WF, WFm_iff] at h2
    exact (h2.2 _ (lookK_mem hlk)).2
  have hs : Srt m := by
    simp only [WF] at hw
    exact hw.1
  have hc := cnt_le (.obj m)
  have hg := (cntm_ge m).1
  simp only [cnt] at hc
  refine ⟨hs, by omega, ?_⟩
  intro p hp
  have h1 := mem_len hp
  have h2 := cStr_geq p.1
  unfold cMem at h1
  rw [List.length_append] at h1
  omega
theorem docF_ids {l : List (Bs × J)} {s : Bs} {u : Int} {ks : List Ky} (h : docF l = some (s, u, ks)) : s.length ≤ 20 ∧ (∀ k ∈ ks, k.id.length ≤ 20) ∧ (ks.map (·.id)).Nodup := by
  rw [docF_eq] at h
  simp only [Option.bind_eq_some_iff, Option.map_eq_some_iff, Prod.mk.injEq] at h
  obtain ⟨s', hs, u', hu, a, ha, b, hb, q, hq, rfl, rfl, rfl⟩ := h
  refine ⟨?_, ?_⟩
  · unfold nameF at hs
    simp only [Option.bind_eq_some_iff] at hs
    obtain ⟨t, _, hs⟩ := hs
    split at hs
    · rename_i hn
      injection hs with hs
      subst hs
      simp [isNm] at hn
      exact hn.2
    · cases hs
  · have hida : ∀ k ∈ a, isNm k.id = true := by
      unfold inF at ha
      simp only [Option.bind_eq_some_iff] at ha
      obtain ⟨m, _, ha⟩ := ha
      split at ha
      · exact fun k hk => ((keysF_ids ha).2 k hk).2
      · cases ha
    have hidb : ∀ k ∈ b, isNm k.id = true := by
      rw [oldF_eq] at hb
      split at hb
      · injection hb with hb
        subst hb
        intro k hk
        cases hk
      · simp only [Option.bind_eq_some_iff] at hb
        obtain ⟨m, _, hb⟩ := hb
        exact fun k hk => ((keysF_ids hb).2 k hk).2
    unfold joinF at hq
    split at hq
    · rename_i hn
      injection hq with hq
      subst hq
      refine ⟨?_, ?_⟩
      · intro k hk
        obtain ⟨p, hp, rfl⟩ := List.mem_map.1 hk
        obtain ⟨k2, hk2, rfl⟩ := List.mem_map.1 (mem_ofL hp)
        have : isNm k2.id = true := by
          rcases List.mem_append.1 hk2 with h | h
          · exact hida k2 h
          · exact hidb k2 h
        simp [isNm] at this
        exact this.2
      · have hsr := srt_ofL ((a ++ b).map fun k => (k.id, k))
        have hkk : ∀ p ∈ ofL ((a ++ b).map fun k => (k.id, k)), p.2.id = p.1 := by
          intro p hp
          obtain ⟨k2, _, rfl⟩ := List.mem_map.1 (mem_ofL hp)
          rfl
        rw [List.map_map]
        have he : (ofL ((a ++ b).map fun k => (k.id, k))).map ((fun k => k.id) ∘ fun p => p.2) = (ofL ((a ++ b).map fun k => (k.id, k))).map (·.1) := List.map_congr_left (fun p hp => hkk p hp)
        rw [he]
        unfold List.Nodup
        rw [List.pairwise_map]
        exact hsr.imp fun {x y} h e => by rw [e] at h; exact lt_irr _ h
    · cases hq
set_option maxRecDepth 20000 in
set_option maxHeartbeats 4000000 in
theorem readDocument_c (W : World) (hN : NG2 W) (s : ByteArray) (w : World) (hW : Below W.heap.size W w) :
    Calls Tryz.prog 47 #[.string s] w fun e w' => RdD W w (readF s.data.toList) e w' := by
  have K0 : Kp (fun _ => False) w (w.alloc (.cells #[.string ⟨#[]⟩, .int .i64 0, .slice none 0 0] 30)) := (Kp.refl _ _).alloc _
  have I0 := heap_alloc_new w (.cells #[.string ⟨#[]⟩, .int .i64 0, .slice none 0 0] 30)
  have HX := hide (readObject_c W hN.ng s _ (below_kp hW K0))
  have hs0 : (w.alloc (.cells #[.string ⟨#[]⟩, .int .i64 0, .slice none 0 0] 30)).heap.size = w.heap.size + 1 := by simp
  go_enter Tryz.func47, Tryz.ntmps47
  go_wp2_with fail
  generalize (w.alloc (.cells #[.string ⟨#[]⟩, .int .i64 0, .slice none 0 0] 30)) = w0 at *
  refine HX.out.mono ?_
  rintro e w1 ⟨K1, ⟨l, b, hof, rfl, hr⟩ | ⟨n, ev, hof, rfl, he, tt, u, rfl⟩⟩
  · have HK1 := hide (K0.trans K1)
    have I1 := K1.heap I0
    have hs1 := K1.size
    have oz : Oz w1 l b := Rep.mono (fun j hj => hj.2) _ hr
    obtain ⟨hp, hl⟩ := object_ok hof
    obtain ⟨hwf, hle⟩ := parse_ok hp
    have hcl : (cJ (.obj l)).length ≤ 600 := Nat.le_trans hle hl
    have hrf : readF s.data.toList = readO l := by unfold readF; rw [hof]
    have HX2 := hide (documentOf_c W hN w1 (below_kp hW HK1.out) l b oz (doc_kids hwf hcl) (doc_kids hwf hcl))
    have HF := hide (And.intro hrf (And.intro oz (And.intro hwf hcl)))
    clear HX hof hr oz hp hl hwf hle hcl hrf K1 I0
    go_wp2_with fail
    refine HX2.out.mono ?_
    rintro e w2 ⟨K2, h2⟩
    have HK2 := hide (HK1.out.trans K2)
    have I2 := K2.heap I1
    have hs2 := K2.size
    have oz2 := HF.out.2.1.up K2
    clear HX2 K2 I1
    obtain ⟨r0, r1, r2, rf0, rf1, rf2, hrb⟩ := dfacts I2
    cases hdf : docF l with
    | none =>
      rw [hdf] at h2
      obtain ⟨ev, rfl, he⟩ := h2
      obtain ⟨tt, u, rfl⟩ := he.iface
      have HE := hide (show readF s.data.toList = .error 4 by rw [HF.out.1]; unfold readO; rw [hdf])
      have HEE := hide he
      clear he hdf
      go_wp2
      exact bodyPost_ret (rdd_results _ rfl rfl (by rw [Below.heap_alloc _ _ _ (by simp only [World.size_alloc, World.size_setCell]; omega), Below.heap_alloc _ _ _ (by simp only [World.size_setCell]; omega)]; exact set3 I2)) rfl (rdd_doc HK2.out I2 HEE.out HE.out)
    | some d =>
      obtain ⟨sn, un, ks⟩ := d
      rw [hdf] at h2
      obtain ⟨v, rfl, row⟩ := h2
      obtain ⟨hsn, hid, hnd⟩ := docF_ids hdf
      have hkl := docF_len hdf
      have hlen := HF.out.2.2.2
      obtain ⟨va, vc, rfl, _⟩ := own_slice4 row
      have Kd : Kp (fun _ => False) w2 (w2.alloc (.cells #[.string ⟨sn.toArray⟩, .int .i64 un, .slice va ks.length vc] 30)) := (Kp.refl _ _).alloc _
      have HCS := hide (checkSignatures_c W hN _ (below_kp hW (HK2.out.trans Kd)) l b (oz2.up Kd) HF.out.2.2.1 HF.out.2.2.2 sn un (by omega) _ _ ks (row.alloc _) (fun k hk => ⟨by have := hid k hk; omega, by have := hkl k hk; omega⟩))
      have HR := hide row
      have hrf := HF.out.1
      unfold readO at hrf
      rw [hdf] at hrf
      have HRF := hide hrf
      clear row hdf hsn hid hnd hkl hrf
      go_wp2_with fail
      have Id := heap_alloc_new w2 (.cells #[.string ⟨sn.toArray⟩, .int .i64 un, .slice va ks.length vc] 30)
      generalize (w2.alloc (.cells #[.string ⟨sn.toArray⟩, .int .i64 un, .slice va ks.length vc] 30)) = wd at *
      refine HCS.out.mono ?_
      rintro e w3 ⟨K3, h3⟩
      have HK3 := hide (HK2.out.trans (Kd.trans K3))
      have I3 := (Kd.trans K3).heap I2
      have Id3 := K3.heap Id
      have HR3 := hide (ownsRow_kp HR.out (Kd.trans K3) (by simp))
      clear HCS K3 Kd Id r0 r1 r2 rf0 rf1 rf2 hrb I2
      obtain ⟨r0, r1, r2, rf0, rf1, rf2, hrb⟩ := dfacts I3
      obtain ⟨q0, q1, q2, qf0, qf1, qf2, hqb⟩ := dfacts Id3
      rcases h3 with ⟨hb, rfl⟩ | ⟨hb, ev, rfl, he⟩
      · have HE := hide (show readF s.data.toList = .ok (sn, un, ks) by rw [HRF.out, if_pos hb])
        clear hb
        go_wp2
        exact bodyPost_ret (rdd_results _ rfl rfl (set3 I3)) rfl (rdd_yes HK3.out (by omega) HR3.out HE.out)
      · obtain ⟨tt, u, rfl⟩ := he.iface
        have HE := hide (show readF s.data.toList = .error 5 by rw [HRF.out, if_neg (by rw [hb]; decide)])
        have HEE := hide he
        clear hb he
        go_wp2
        exact bodyPost_ret (rdd_results _ rfl rfl (set3 I3)) rfl (rdd_no HK3.out I3 (Or.inr HEE.out.sig) HE.out)
  · have HK1 := hide (K0.trans K1)
    have I1 := K1.heap I0
    obtain ⟨r0, r1, r2, rf0, rf1, rf2, hrb⟩ := dfacts I1
    have HE := hide (show readF s.data.toList = .error n by unfold readF; rw [hof])
    have HEE := hide he
    clear he hof HX K1 I0
    go_wp2
    exact bodyPost_ret (rdd_results _ rfl rfl (set3 I1)) rfl (rdd_no HK1.out I1 (Or.inl HEE.out) HE.out)
end Go.Proofs.YtocligpfmfmihaaGreatDoor
namespace Go.Proofs.YtocligpfmfmihaaGreatDoor
open Go Go.RowKit Go.Maps Go.WideMaps Go.Sort Go.Shelf
attribute [local go_sem] Oper.semAt_some

theorem pread_results {w : World} {rb : Nat} {a b c d : Value} (tmps : Array Value) (h2 : tmps[2]?.getD undef = .pointer (some ⟨rb, 0, none⟩)) (h3 : tmps[3]?.getD undef = d) (hb : w.heap[rb]? = some (.cells #[a, b, c] 30)) :
    (results Tryz.f20 tmps).run Tryz.prog w = .ok (.tuple #[.agg #[a, b, c], d]) w := by
  obtain ⟨c0, c1, c2, _⟩ := dfacts hb
  simp [results, Tryz.results20, go_sem, h2, h3, c0, c1, c2]
theorem rd_oka {w w6 : World} {B : Nat} {s : Bs} {u : Int} {ks : List Ky} {v : Value} {D : Obj} (h : Kp (fun _ => False) w w6) (hB : w.heap.size < B) (row : w6.ownsRow B 35 4 v ks.length (ks.flatMap kyC)) :
    RdR w (.ok (s, u, ks)) (.returned (.tuple #[.agg #[.string ⟨s.toArray⟩, .int .i64 u, v], .int .i64 0])) ((((w6.setCell ⟨w.heap.size, 0, none⟩ (.string ⟨s.toArray⟩)).setCell ⟨w.heap.size, 1, none⟩ (.int .i64 u)).setCell ⟨w.heap.size, 2, none⟩ v).alloc D) := by
  obtain ⟨h1, v', h2, h3⟩ := rd_ok (u := u) h hB row (s := s) rfl
  injection h2 with h2
  injection h2 with h2
  have h2 : v = v' := by
    have := congrArg (fun a => a[0]?) h2
    simp at this
    exact this
  subst h2
  exact ⟨h1.alloc _, _, rfl, h3.alloc _⟩
set_option maxRecDepth 20000 in
set_option maxHeartbeats 4000000 in
theorem read_c (W : World) (hN : NG2 W) (s : ByteArray) (w : World) (hW : Below W.heap.size W w) :
    Calls Tryz.prog 20 #[.string s] w fun e w' => RdR w (readF s.data.toList) e w' := by
  have K0 : Kp (fun _ => False) w (w.alloc (.cells #[.string ⟨#[]⟩, .int .i64 0, .slice none 0 0] 30)) := (Kp.refl _ _).alloc _
  have I0 := heap_alloc_new w (.cells #[.string ⟨#[]⟩, .int .i64 0, .slice none 0 0] 30)
  have HX := hide (readDocument_c W hN s _ (below_kp hW K0))
  have hs0 : (w.alloc (.cells #[.string ⟨#[]⟩, .int .i64 0, .slice none 0 0] 30)).heap.size = w.heap.size + 1 := by simp
  go_enter Tryz.func20, Tryz.ntmps20
  go_wp2_with fail
  generalize (w.alloc (.cells #[.string ⟨#[]⟩, .int .i64 0, .slice none 0 0] 30)) = w0 at *
  refine HX.out.mono ?_
  rintro e w1 ⟨K1, h1⟩
  have HK1 := hide (K0.trans K1)
  have I1 := K1.heap I0
  obtain ⟨r0, r1, r2, rf0, rf1, rf2, hrb⟩ := dfacts I1
  have hrf : Hid (readF s.data.toList = readF s.data.toList) := rfl
  clear HX K1 I0
  cases hr : readF s.data.toList with
  | error n =>
    rw [hr] at h1
    obtain ⟨ev, rfl, he, tt, u, rfl⟩ := h1
    have Kd : Kp (fun _ => False) w1 (w1.alloc (.cells #[.string ⟨#[]⟩, .int .i64 0, .slice none 0 0] 30)) := (Kp.refl _ _).alloc _
    have HE := hide (errno_a W hN _ (below_kp hW (HK1.out.trans Kd)) _ n (he.up Kd))
    have HRF := hide hr
    clear he hr
    go_wp2_with fail
    generalize (w1.alloc (.cells #[.string ⟨#[]⟩, .int .i64 0, .slice none 0 0] 30)) = wd at *
    refine HE.out.mono ?_
    rintro e w2 ⟨rfl, K2⟩
    have HK2 := hide (HK1.out.trans (Kd.trans K2))
    have I2 := (Kd.trans K2).heap I1
    clear K2 Kd r0 r1 r2 rf0 rf1 rf2 hrb
    obtain ⟨r0, r1, r2, rf0, rf1, rf2, hrb⟩ := dfacts I2
    go_wp2
    exact bodyPost_ret (pread_results _ rfl rfl (set3 I2)) rfl (rd_err HK2.out HRF.out)
  | ok d =>
    obtain ⟨sn, un, ks⟩ := d
    rw [hr] at h1
    obtain ⟨v, rfl, row⟩ := h1
    obtain ⟨va, vc, rfl, _⟩ := own_slice4 row
    have HR := hide row
    have HRF := hide hr
    clear hr row
    go_wp2
    exact bodyPost_ret (pread_results _ rfl rfl (set3a I1)) rfl (by rw [HRF.out]; exact rd_oka HK1.out (by omega) HR.out)
set_option maxRecDepth 20000 in
set_option maxHeartbeats 4000000 in
theorem sameKeys_c (w : World) (B1 B2 : Nat) (v1 v2 : Value) (ks : List Ky) (row1 : w.ownsRow B1 35 4 v1 ks.length (ks.flatMap kyC)) (row2 : w.ownsRow B2 35 4 v2 ks.length (ks.flatMap kyC)) :
    Calls Tryz.prog 22 #[v1, v2] w fun e w' => e = .returned (.bool true) ∧ Kp (fun _ => False) w w' := by
  obtain ⟨a1, c1, rfl, h1⟩ := own_slice4 row1
  obtain ⟨a2, c2, rfl, h2⟩ := own_slice4 row2
  have hkm := own_max4 row1
  have HR := hide (And.intro (And.intro h1 h2) (And.intro row1 row2))
  clear h1 h2 row1 row2
  go_enter Tryz.func22, Tryz.ntmps22
  go_wp2_with fail
  go_loopg [5] ks.length (fun gg a wr => ∃ (i : Nat), gg = ks.length - i ∧ i ≤ ks.length ∧ a = .int .i64 (i : Int) ∧ Kp (fun _ => False) w wr)
  case atStart => exact ⟨0, rfl, by omega, rfl, Kp.refl _ _⟩
  case round =>
    obtain ⟨i, hgg, hin, rfl, Kr⟩ := hrel
    by_cases hlt : i < ks.length
    · have hlt' : (i : Int) < (ks.length : Int) := by omega
      obtain ⟨k, hk⟩ : ∃ k, ks[i]? = some k := ⟨ks[i], List.getElem?_eq_getElem hlt⟩
      obtain ⟨g1, rfl, _⟩ := HR.out.1.1 (by omega)
      obtain ⟨g2, rfl, _⟩ := HR.out.1.2 (by omega)
      obtain ⟨x0, x1, x2, x3⟩ := ky_cells (ownsRow_kp HR.out.2.1 Kr (by simp)) i k hk
      obtain ⟨y0, y1, y2, y3⟩ := ky_cells (ownsRow_kp HR.out.2.2 Kr (by simp)) i k hk
      have HG := hide (And.intro hgg Kr)
      clear hgg hk Kr
      go_wp2
      go_quiet (fail)
      go_wp2
      go_roundg (ks.length - (i + 1))
      case measure => rw [HG.out.1]; omega
      case rel => exact ⟨i + 1, rfl, by omega, int_i64 (by omega), HG.out.2.drewN _⟩
    · have hlt' : ¬ (i : Int) < (ks.length : Int) := by omega
      clear hgg
      go_wp2
      go_ret
      exact ⟨rfl, Kr⟩
end Go.Proofs.YtocligpfmfmihaaGreatDoor
namespace Go.Proofs.YtocligpfmfmihaaGreatDoor
open Go Go.RowKit Go.Maps Go.WideMaps Go.Sort Go.Shelf
attribute [local go_sem] Oper.semAt_some

def sOf (o : Except Nat (Bs × Int × List Ky)) : Bs := match o with | .ok d => d.1 | .error _ => []
def uOf (o : Except Nat (Bs × Int × List Ky)) : Int := match o with | .ok d => d.2.1 | .error _ => 0
def kOf (o : Except Nat (Bs × Int × List Ky)) : List Ky := match o with | .ok d => d.2.2 | .error _ => []
def cOf (o : Except Nat (Bs × Int × List Ky)) : Nat := match o with | .ok _ => 0 | .error n => n
/-- Read's answer, in one form. -/
theorem rdr_uni {w w' : World} {o : Except Nat (Bs × Int × List Ky)} {e : Ending} (h : RdR w o e w') : Kp (fun _ => False) w w' ∧ ∃ va vc, e = .returned (.tuple #[.agg #[.string ⟨(sOf o).toArray⟩, .int .i64 (uOf o), .slice va (kOf o).length vc], .int .i64 (cOf o : Int)]) ∧ w'.ownsRow w.heap.size 35 4 (.slice va (kOf o).length vc) (kOf o).length ((kOf o).flatMap kyC) := by
  obtain ⟨h1, h2⟩ := h
  cases o with
  | error n => exact ⟨h1, none, 0, h2, World.ownsRow_nil _ _ _ _⟩
  | ok d =>
    obtain ⟨s, u, ks⟩ := d
    obtain ⟨v, rfl, row⟩ := h2
    obtain ⟨va, vc, rfl, _⟩ := own_slice4 row
    exact ⟨h1, va, vc, rfl, row⟩
set_option maxRecDepth 20000 in
set_option maxHeartbeats 4000000 in
theorem reads_c (W : World) (hN : NG2 W) (s : ByteArray) (w : World) (hW : Below W.heap.size W w) :
    Calls Tryz.prog 6 #[.string s] w fun e w' => e = .returned (.bool true) ∧ Kp (fun _ => False) w w' := by
  have HB := hide hW
  clear hW
  go_enter Tryz.func6, Tryz.ntmps6
  go_wp2_with fail
  refine (read_c W hN s w HB.out).mono ?_
  intro e w1 h1
  have HRR : Hid (∀ wx, Below W.heap.size W wx → Calls Tryz.prog 20 #[.string s] wx fun e w' => RdR wx (readF s.data.toList) e w') := fun wx hx => read_c W hN s wx hx
  have HQ : Hid (∀ wx, Below W.heap.size W wx → Calls Tryz.prog 21 #[.string s] wx fun e w' => RdR wx (readF s.data.toList) e w') := fun wx hx => rread_c W hN.ng.gl s wx hx
  generalize readF s.data.toList = o at *
  obtain ⟨K1, va, vc, rfl, row⟩ := rdr_uni h1
  clear h1
  have Ka : Kp (fun _ => False) w1 (w1.alloc (.cells #[.string ⟨(sOf o).toArray⟩, .int .i64 (uOf o), .slice va (kOf o).length vc] 30)) := (Kp.refl _ _).alloc _
  have Ia := heap_alloc_new w1 (.cells #[.string ⟨(sOf o).toArray⟩, .int .i64 (uOf o), .slice va (kOf o).length vc] 30)
  have rowa := row.alloc (.cells #[.string ⟨(sOf o).toArray⟩, .int .i64 (uOf o), .slice va (kOf o).length vc] 30)
  have hs1 := K1.size
  have hlow : ∀ k, (Value.slice va (kOf o).length vc).ownBlock = some k → w.heap.size ≤ k ∧ k < w1.heap.size := fun k hk => row.lt k hk
  have HLow := hide hlow
  have hva := (own_slice4 row)
  obtain ⟨va', vc', hve, hvg⟩ := hva
  injection hve with hv1 _ hv2
  subst hv1 hv2
  have HVG := hide hvg
  clear hlow hvg
  have hsa : (w1.alloc (.cells #[.string ⟨(sOf o).toArray⟩, .int .i64 (uOf o), .slice va (kOf o).length vc] 30)).heap.size = w1.heap.size + 1 := by simp
  clear row
  go_wp2_with fail
  generalize (w1.alloc (.cells #[.string ⟨(sOf o).toArray⟩, .int .i64 (uOf o), .slice va (kOf o).length vc] 30)) = wa at *
  refine (HQ.out wa (below_kp HB.out (K1.trans Ka))).mono ?_
  intro e w2 h2
  obtain ⟨K2, xa, xc, rfl, row2⟩ := rdr_uni h2
  clear h2 HQ
  have Kb : Kp (fun _ => False) w2 (w2.alloc (.cells #[.string ⟨(sOf o).toArray⟩, .int .i64 (uOf o), .slice xa (kOf o).length xc] 30)) := (Kp.refl _ _).alloc _
  have Ib := heap_alloc_new w2 (.cells #[.string ⟨(sOf o).toArray⟩, .int .i64 (uOf o), .slice xa (kOf o).length xc] 30)
  have Iab := (K2.trans Kb).heap Ia
  have rowab := ownsRow_kp rowa (K2.trans Kb) (by simp)
  have rowb := row2.alloc (.cells #[.string ⟨(sOf o).toArray⟩, .int .i64 (uOf o), .slice xa (kOf o).length xc] 30)
  have Kwb := (K1.trans Ka).trans (K2.trans Kb)
  have hs2 := K2.size
  have hsb : (w2.alloc (.cells #[.string ⟨(sOf o).toArray⟩, .int .i64 (uOf o), .slice xa (kOf o).length xc] 30)).heap.size = w2.heap.size + 1 := by simp
  obtain ⟨a0, a1, a2, af0, af1, af2, hab⟩ := dfacts Iab
  obtain ⟨b0, b1, b2, bf0, bf1, bf2, hbb⟩ := dfacts Ib
  have HSK := hide (sameKeys_c _ _ _ _ _ (kOf o) rowab rowb)
  clear row2 rowa Ia K2 Kb Ka K1
  go_wp2_with fail
  generalize (w2.alloc (.cells #[.string ⟨(sOf o).toArray⟩, .int .i64 (uOf o), .slice xa (kOf o).length xc] 30)) = wb at *
  refine HSK.out.mono ?_
  rintro e w3 ⟨rfl, K3⟩
  have Ia3 := K3.heap Iab
  have Ib3 := K3.heap Ib
  have HRO := hide (And.intro (ownsRow_kp rowab K3 (by simp)) (And.intro (ownsRow_kp rowb K3 (by simp)) (Kwb.trans K3)))
  have hkm := own_max4 rowab
  have hs3 := K3.size
  clear HSK rowab rowb K3 Kwb Iab Ib a0 a1 a2 af0 af1 af2 hab b0 b1 b2 bf0 bf1 bf2 hbb
  obtain ⟨a0, a1, a2, af0, af1, af2, hab⟩ := dfacts Ia3
  obtain ⟨b0, b1, b2, bf0, bf1, bf2, hbb⟩ := dfacts Ib3
  go_wp2_with fail
  have HI := hide (And.intro Ia3 Ib3)
  have hoff : Hid (∀ k, (Value.slice va (kOf o).length vc).ownBlock = some k → k ≠ w1.heap.size ∧ k ≠ w2.heap.size) := by
    intro k hk
    have := HLow.out k hk
    exact ⟨by omega, by omega⟩
  clear Ia3 Ib3 a0 a1 a2 af0 af1 af2 hab b0 b1 b2 bf0 bf1 bf2 hbb
  go_loopg [8] (kOf o).length (fun gg a wr => ∃ (i : Nat), gg = (kOf o).length - i ∧ i ≤ (kOf o).length ∧ a = .int .i64 (i : Int) ∧ Kp (fun k => (Value.slice va (kOf o).length vc).ownBlock = some k) w3 wr ∧ ∃ xs, wr.ownsRow w.heap.size 35 4 (.slice va (kOf o).length vc) (kOf o).length xs)
  case atStart => exact ⟨0, rfl, by omega, rfl, Kp.refl _ _, _, HRO.out.1⟩
  case round =>
    obtain ⟨i, hgg, hin, rfl, Kr, xs, hrow⟩ := hrel
    have Iar := (Kr.block _ (lt_heap HI.out.1) (fun e => (hoff.out _ e).1 rfl)).trans HI.out.1
    have Ibr := (Kr.block _ (lt_heap HI.out.2) (fun e => (hoff.out _ e).2 rfl)).trans HI.out.2
    obtain ⟨a0, a1, a2, af0, af1, af2, hab⟩ := dfacts Iar
    obtain ⟨b0, b1, b2, bf0, bf1, bf2, hbb⟩ := dfacts Ibr
    have HG := hide (And.intro hgg Kr)
    clear hgg Kr
    by_cases hlt : i < (kOf o).length
    · have hlt' : (i : Int) < ((kOf o).length : Int) := by omega
      obtain ⟨g, rfl, _⟩ := HVG.out (by omega)
      have hxl := hrow.1
      have hcx : ∀ f, f < 4 → ∃ u, wr.cell? ⟨g, i * 4 + f, none⟩ = some u := by
        intro f hf
        have h1 := hrow.cellAt (i * 4 + f) (by omega)
        exact ⟨xs[i * 4 + f], by rw [h1]; exact List.getElem?_eq_getElem (by omega)⟩
      obtain ⟨u0, x0⟩ := hcx 0 (by omega)
      obtain ⟨u1, x1⟩ := hcx 1 (by omega)
      obtain ⟨u2, x2⟩ := hcx 2 (by omega)
      obtain ⟨u3, x3⟩ := hcx 3 (by omega)
      have z0 := hrow.frozenAt (i * 4)
      have z1 := hrow.frozenAt (i * 4 + 1)
      have z2 := hrow.frozenAt (i * 4 + 2)
      have z3 := hrow.frozenAt (i * 4 + 3)
      simp only [Nat.add_zero] at x0
      have HRW := hide hrow
      clear hrow hcx hxl
      go_wp2
      go_roundg ((kOf o).length - (i + 1))
      case measure => rw [HG.out.1]; omega
      case rel =>
        have s1 := HRW.out.stored (i * 4) (.string ⟨#[109, 105, 110, 101]⟩)
        have s2 := s1.1.stored (i * 4 + 1) (.string ⟨#[]⟩)
        have s3 := s2.1.stored (i * 4 + 2) (.bool false)
        have s4 := s3.1.stored (i * 4 + 3) (.int .i64 0)
        exact ⟨i + 1, rfl, by omega, int_i64 (by omega), Kp.setCell (p := ⟨g, i * 4 + 3, none⟩) (Kp.setCell (p := ⟨g, i * 4 + 2, none⟩) (Kp.setCell (p := ⟨g, i * 4 + 1, none⟩) (Kp.setCell (p := ⟨g, i * 4, none⟩) HG.out.2 (fun _ => rfl) _) (fun _ => rfl) _) (fun _ => rfl) _) (fun _ => rfl) _, _, s4.1⟩
    · have hlt' : ¬ (i : Int) < ((kOf o).length : Int) := by omega
      have Kwr : Kp (fun _ => False) w wr := HRO.out.2.2.and HG.out.2 (by intro j hj e; have := (HLow.out j e).1; omega)
      have HRX := hide (HRR.out wr (below_kp HB.out Kwr))
      have HK := hide Kwr
      have rowr := ownsRow_kp HRO.out.2.1 HG.out.2 (by
        intro k hk e
        have h1 := (HLow.out k e).2
        have h2 := (HRO.out.2.1.lt k hk).1
        omega)
      have HRB := hide rowr
      have HII := hide (And.intro Iar Ibr)
      clear Kwr rowr hrow HRR Iar Ibr
      go_wp2_with fail
      refine HRX.out.mono ?_
      intro e w4 h4
      obtain ⟨K4, ya, yc, rfl, row4⟩ := rdr_uni h4
      have Ia4 := K4.heap HII.out.1
      have Ib4 := K4.heap HII.out.2
      clear h4 HRX a0 a1 a2 af0 af1 af2 hab b0 b1 b2 bf0 bf1 bf2 hbb
      obtain ⟨a0, a1, a2, af0, af1, af2, hab⟩ := dfacts Ia4
      obtain ⟨b0, b1, b2, bf0, bf1, bf2, hbb⟩ := dfacts Ib4
      have HR4 := hide (And.intro row4 (And.intro (ownsRow_kp HRB.out K4 (by simp)) (HK.out.trans K4)))
      clear row4 K4
      have hbig : w1.heap.size < wr.heap.size := by
        have h1 := HG.out.2.size
        have h2 := lt_heap HII.out.1
        omega
      have HX : Hid (∀ a b c, (((w4.setCell ⟨w1.heap.size, 0, none⟩ a).setCell ⟨w1.heap.size, 1, none⟩ b).setCell ⟨w1.heap.size, 2, none⟩ c).ownsRow wr.heap.size 35 4 (.slice ya (kOf o).length yc) (kOf o).length ((kOf o).flatMap kyC) ∧
          (((w4.setCell ⟨w1.heap.size, 0, none⟩ a).setCell ⟨w1.heap.size, 1, none⟩ b).setCell ⟨w1.heap.size, 2, none⟩ c).ownsRow wa.heap.size 35 4 (.slice xa (kOf o).length xc) (kOf o).length ((kOf o).flatMap kyC) ∧
          Kp (fun _ => False) w (((w4.setCell ⟨w1.heap.size, 0, none⟩ a).setCell ⟨w1.heap.size, 1, none⟩ b).setCell ⟨w1.heap.size, 2, none⟩ c)) := by
        intro a b c
        refine ⟨ownsRow_heap HR4.out.1 ?_, ownsRow_heap HR4.out.2.1 ?_, ?_⟩
        · intro k hk
          have h1 := (HR4.out.1.lt k hk).1
          have hne : k ≠ w1.heap.size := by omega
          rw [heap_set_other (by exact hne), heap_set_other (by exact hne), heap_set_other (by exact hne)]
        · intro k hk
          have h1 := (HR4.out.2.1.lt k hk).1
          have hne : k ≠ w1.heap.size := by omega
          rw [heap_set_other (by exact hne), heap_set_other (by exact hne), heap_set_other (by exact hne)]
        · exact Kp.setCell (p := ⟨w1.heap.size, 2, none⟩) (Kp.setCell (p := ⟨w1.heap.size, 1, none⟩) (Kp.setCell (p := ⟨w1.heap.size, 0, none⟩) HR4.out.2.2 (fun q => by exact absurd q (Nat.not_lt.2 hs1)) _) (fun q => by exact absurd q (Nat.not_lt.2 hs1)) _) (fun q => by exact absurd q (Nat.not_lt.2 hs1)) _
      go_wp2_with fail
      refine (sameKeys_c _ _ _ _ _ (kOf o) (HX.out _ _ _).1 (HX.out _ _ _).2.1).mono ?_
      rintro e w5 ⟨rfl, K5⟩
      have HK5 := hide ((HX.out _ _ _).2.2.trans K5)
      clear K5
      go_wp2
      go_ret
      exact ⟨rfl, HK5.out⟩
end Go.Proofs.YtocligpfmfmihaaGreatDoor
namespace Go.Proofs.YtocligpfmfmihaaGreatDoor
open Go Go.RowKit Go.ChangeShapes

theorem lv_at {P : Program} {w : World} : ∀ {l : List (String × DataW Unit)} {ps : List MemPlace}, DataW.LaidVars P w l ps → ∀ n d, (n, d) ∈ l →
    ∃ g t cs fuel p, P.globalNamed n = some g ∧ (P.globals[g]?).map (·.type) = some t ∧ w.var? P n = some cs ∧ DataW.trod (fun _ => ()) P w 0 (fun _ => true) false fuel t cs.toList = some (d, p) ∧ ∀ x ∈ MemPlace.row ⟨g, 0, none⟩ cs.size ++ p, x ∈ ps
  | [], _, _, _, _, hm => by cases hm
  | (n', d') :: r, ps, h, n, d, hm => by
    obtain ⟨g, t, cs, fuel, p, q, h1, h2, h3, h4, h5, rfl⟩ := h
    rcases List.mem_cons.1 hm with e | e
    · cases e
      exact ⟨g, t, cs, fuel, p, h1, h2, h3, h4, fun x hx => List.mem_append_left _ hx⟩
    · obtain ⟨g', t', cs', fuel', p', k1, k2, k3, k4, k5⟩ := lv_at h5 n d e
      exact ⟨g', t', cs', fuel', p', k1, k2, k3, k4, fun x hx => List.mem_append_right _ (k5 x hx)⟩

/-- The variable g holds an error of errors.New's with this text. -/
def Sen (W : World) (g : Nat) (text : List UInt8) : Prop := ∃ (a : Addr) (s : ByteArray) (c : Array Value) (t : TypeId), W.cell? ⟨g, 0, none⟩ = some (errV a) ∧ W.cell? a = some (.string s) ∧ s.data.toList = text ∧ W.heap[a.block]? = some (.cells c t)
def txt : DataW Unit → List UInt8
  | .iface _ (.ptr (.agg [.lit (.string t)])) => t
  | _ => []
theorem star : "*" ++ "errors.errorString" = "*errors.errorString" := by decide
theorem rowE (u : TypeId) (h : Tryz.prog.typeName? 3 u = some "*errors.errorString") : u = 415 :=
  typeName_ptr_named (nm := "errors.errorString") (by rw [star]; kernel_rfl) (by kernel_rfl) (by decide) u (by rw [star]; exact h)
theorem cellsE : Tryz.prog.cellsOf 435 = 1 := by kernel_rfl
theorem cellsS : Tryz.prog.cellsOf 9 = 1 := by kernel_rfl

set_option maxRecDepth 20000 in
theorem sen_of {L : List (String × DataW Unit)} {W : World} {n : String} {d : DataW Unit} {g : Nat} (h : laidMet Tryz.prog L W) (hm : (n, d) ∈ L) (hd : d = .iface "*errors.errorString" (.ptr (.agg [.lit (.string (txt d))])))
    (hg : Tryz.prog.globalNamed n = some g) (ht : (Tryz.prog.globals[g]?).map (·.type) = some 61) : Sen W g (txt d) := by
  obtain ⟨ps, hv, hnd, hrows⟩ := h
  obtain ⟨g', t', cs, fuel, p, k1, k2, k3, k4, k5⟩ := lv_at hv n d hm
  obtain rfl := Option.some.inj (hg.symm.trans k1)
  obtain rfl := Option.some.inj (ht.symm.trans k2)
  obtain ⟨l0⟩ := cs
  have ok0 : ∀ u v, l0 = [.iface u v] → Value.okWide Tryz.prog W .any 0 u v := fun u v e => by
    subst e
    exact (hrows g 0 (k5 _ (by simp [MemPlace.row]))).2 u v ((World.var?_cell hg k3 0).trans rfl)
  rw [hd] at k4
  obtain ⟨a0, s0, rfl, hc0, hs0, hz0, rfl⟩ := errorString_of_trod Tryz.underlying61 rowE Tryz.underlying415 Tryz.underlying435 rfl rfl Tryz.underlying9 cellsE cellsS k4 ok0
  obtain ⟨c0, t0, hb0⟩ := (hrows a0.block a0.off (k5 _ (by simp [MemPlace.row]))).1
  exact ⟨a0, s0, c0, t0, (World.var?_cell hg k3 0).trans rfl, hc0, hs0, hb0⟩
theorem Sen.ne {W : World} {g g' : Nat} {x y : List UInt8} (h1 : Sen W g x) (h2 : Sen W g' y) (hxy : x ≠ y) (a : Addr) (h : W.cell? ⟨g, 0, none⟩ = some (errV a)) : W.cell? ⟨g', 0, none⟩ ≠ some (errV a) := by
  intro h'
  obtain ⟨a1, s1, _, _, e1, e2, e3, _⟩ := h1
  obtain ⟨a2, s2, _, _, f1, f2, f3, _⟩ := h2
  rw [h] at e1
  rw [h'] at f1
  simp only [errV, Option.some.injEq, Value.iface.injEq, Value.pointer.injEq, true_and] at e1 f1
  subst e1
  subst f1
  rw [e2] at f2
  injection f2 with f2
  injection f2 with f2
  subst f2
  exact hxy (e3.symm.trans f3)
theorem Sen.errs {W : World} {g : Nat} {x a b c d : List UInt8} (h : Sen W g x) (h1 : Sen W 0 a) (h2 : Sen W 1 b) (h3 : Sen W 2 c) (h4 : Sen W 3 d)
    (n1 : x ≠ a) (n2 : x ≠ b) (n3 : x ≠ c) (n4 : x ≠ d) : ∃ cb, Errs W g cb := by
  have h' := h
  obtain ⟨ad, s, cc, t, e1, e2, e3, e4⟩ := h
  refine ⟨ad, e1, lt_heap e4, ?_⟩
  intro k hk
  refine ⟨?_, cc, t, e4⟩
  simp only [List.mem_cons, List.not_mem_nil, or_false] at hk
  rcases hk with rfl | rfl | rfl | rfl
  · exact h'.ne h1 n1 ad e1
  · exact h'.ne h2 n2 ad e1
  · exact h'.ne h3 n3 ad e1
  · exact h'.ne h4 n4 ad e1
theorem Sen.three {W : World} {g : Nat} {x : List UInt8} (h : Sen W g x) : ∃ a c t, W.cell? ⟨g, 0, none⟩ = some (errV a) ∧ W.heap[a.block]? = some (.cells c t) := by
  obtain ⟨ad, s, cc, t, e1, e2, e3, e4⟩ := h
  exact ⟨ad, cc, t, e1, e4⟩
end Go.Proofs.YtocligpfmfmihaaGreatDoor

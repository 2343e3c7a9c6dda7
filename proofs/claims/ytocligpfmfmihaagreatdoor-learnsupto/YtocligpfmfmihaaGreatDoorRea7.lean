import Derived.Test.YtocligpfmfmihaaGreatDoorRea4G
namespace Go.Proofs.YtocligpfmfmihaaGreatDoor
open Go Go.RowKit Go.Maps
theorem dfacts {w : World} {q : Nat} {a b c : Value} {T : TypeId} (h : w.heap[q]? = some (.cells #[a, b, c] T)) : w.cell? ⟨q, 0, none⟩ = some a ∧ w.cell? ⟨q, 1, none⟩ = some b ∧ w.cell? ⟨q, 2, none⟩ = some c ∧
  w.frozen? ⟨q, 0, none⟩ = false ∧ w.frozen? ⟨q, 1, none⟩ = false ∧ w.frozen? ⟨q, 2, none⟩ = false ∧ q < w.heap.size := by
 refine ⟨?_, ?_, ?_, ?_, ?_, ?_, lt_heap h⟩ <;> simp [World.cell?, World.frozen?, h]
theorem set3 {w : World} {q : Nat} {x y z a b c : Value} {T : TypeId} (h : w.heap[q]? = some (.cells #[x, y, z] T)) : (((w.setCell ⟨q, 0, none⟩ a).setCell ⟨q, 1, none⟩ b).setCell ⟨q, 2, none⟩ c).heap[q]? = some (.cells #[a, b, c] T) := by
 simp [World.setCell, Array.getElem?_modify, h]
theorem kp3 {w w6 : World} {a b c : Value} (h : Kp (fun _ => False) w w6) : Kp (fun _ => False) w (((w6.setCell ⟨w.heap.size, 0, none⟩ a).setCell ⟨w.heap.size, 1, none⟩ b).setCell ⟨w.heap.size, 2, none⟩ c) :=
 Kp.setCell (p := ⟨w.heap.size, 2, none⟩) (Kp.setCell (p := ⟨w.heap.size, 1, none⟩) (Kp.setCell (p := ⟨w.heap.size, 0, none⟩) h (fun q => absurd q (Nat.lt_irrefl _)) _) (fun q => absurd q (Nat.lt_irrefl _)) _) (fun q => absurd q (Nat.lt_irrefl _)) _
theorem dc_no {w w6 : World} {o : Option (Bs × Int × List Ky)} {s : ByteArray} {u : Int} (h : Kp (fun _ => False) w w6) (ho : o = none) : DcR w o (.returned (.tuple #[.agg #[.string s, .int .i64 u, .slice none 0 0], .bool false])) (((w6.setCell ⟨w.heap.size, 0, none⟩ (.string s)).setCell ⟨w.heap.size, 1, none⟩ (.int .i64 u)).setCell ⟨w.heap.size, 2, none⟩ (.slice none 0 0)) := by
 subst ho
 exact ⟨kp3 h, _, _, rfl⟩
theorem dc_nod {w w6 : World} {o : Option (Bs × Int × List Ky)} {s : ByteArray} {u : Int} (h : Kp (fun _ => False) w w6) (ho : o = none) : DcR w o (.returned (.tuple #[.agg #[.string s, .int .i64 u, .slice none 0 0], .bool false])) (((w6.setCell ⟨w.heap.size, 0, none⟩ (.string s)).setCell ⟨w.heap.size, 1, none⟩ (.int .i64 u)).setCell ⟨w.heap.size, 2, none⟩ (.slice none 0 0)).drew := by
 subst ho
 exact ⟨(kp3 h).drew, _, _, rfl⟩
theorem dc_yes {w w6 : World} {B : Nat} {o : Option (Bs × Int × List Ky)} {s : Bs} {u : Int} {ks : List Ky} {v : Value} (h : Kp (fun _ => False) w w6) (hB : w.heap.size < B) (row : w6.ownsRow B 35 4 v ks.length (ks.flatMap kyC)) (ho : o = some (s, u, ks)) :
  DcR w o (.returned (.tuple #[.agg #[.string ⟨s.toArray⟩, .int .i64 u, v], .bool true])) (((w6.setCell ⟨w.heap.size, 0, none⟩ (.string ⟨s.toArray⟩)).setCell ⟨w.heap.size, 1, none⟩ (.int .i64 u)).setCell ⟨w.heap.size, 2, none⟩ v).drew := by
 subst ho
 refine ⟨(kp3 h).drew, v, rfl, ?_⟩
 refine own_base (Nat.le_of_lt hB) (ownsRow_heap row fun k hk => ?_)
 have hk2 := (row.lt k hk).1
 show (((w6.setCell ⟨w.heap.size, 0, none⟩ (.string ⟨s.toArray⟩)).setCell ⟨w.heap.size, 1, none⟩ (.int .i64 u)).setCell ⟨w.heap.size, 2, none⟩ v).heap[k]? = _
 rw [heap_set_other (by show k ≠ w.heap.size; omega), heap_set_other (by show k ≠ w.heap.size; omega), heap_set_other (by show k ≠ w.heap.size; omega)]
theorem str_of_name {o : Option J} {s : Bs} (h : nameF o = some s) : o = some (.str s) := by
 unfold nameF at h
 simp only [Option.bind_eq_some_iff] at h
 obtain ⟨t, h1, h2⟩ := h
 split at h2
 ·injection h2 with h2
  subst h2
  unfold strF at h1
  split at h1
  ·injection h1 with h1
   subst h1
   rfl
  ·cases h1
 ·cases h2
theorem num_of_mom {o : Option J} {n : Int} (h : momF o = some n) : o = some (.num n) := by
 unfold momF at h
 split at h
 ·split at h
  ·injection h with h
   subst h
   rfl
  ·cases h
 ·cases h
set_option maxRecDepth 20000 in
set_option maxHeartbeats 4000000 in
theorem rdoc_c (w : World) (b : Nat) (l : List (Bs × J)) (h : PoJ w (some ⟨b, 0, none⟩) (some (.obj l))) :
  Calls Tryz.prog 48 #[.pointer (some ⟨b, 0, none⟩)] w fun e w' => DcR w (docF l) e w' := by
 have K0 : Kp (fun _ => False) w ((w.alloc (.cells #[.string ⟨#[]⟩, .int .i64 0, .slice none 0 0] 30)).alloc (.cells #[.string ⟨#[]⟩, .int .i64 0, .slice none 0 0] 30)) := ((Kp.refl _ _).alloc _).alloc _
 obtain ⟨I2, I4⟩ := two_new w (.cells #[.string ⟨#[]⟩, .int .i64 0, .slice none 0 0] 30) (.cells #[.string ⟨#[]⟩, .int .i64 0, .slice none 0 0] 30)
 have P0 := h.kp K0
 clear h
 go_enter Tryz.func48, Tryz.ntmps48
 go_wp2_with fail
 generalize ((w.alloc (.cells #[.string ⟨#[]⟩, .int .i64 0, .slice none 0 0] 30)).alloc (.cells #[.string ⟨#[]⟩, .int .i64 0, .slice none 0 0] 30)) = w0 at *
 refine (getJ w0 _ _ P0 kSrv).mono ?_
 rintro e w1 ⟨ps, rfl, rfl, PS⟩
 go_wp2_with fail
 refine (getJ w1 _ _ P0 kUnt).mono ?_
 rintro e w2 ⟨pu, rfl, rfl, PU⟩
 go_wp2_with fail
 refine (getJ w2 _ _ P0 kVer).mono ?_
 rintro e w3 ⟨pv, rfl, rfl, PV⟩
 go_wp2_with fail
 refine (getJ w3 _ _ P0 kOld).mono ?_
 rintro e w4 ⟨pq, rfl, rfl, PQ⟩
 simp only [memF] at PS PU PV PQ
 have HD : Hid (docF l = (nameF (lookK kSrv l)).bind fun s => (momF (lookK kUnt l)).bind fun u => match lookK kVer l with | some (.obj m) => if 1 ≤ m.length ∧ m.length ≤ 4 then (keysF false u m).bind fun a => (oldF l).bind fun b => (joinF a b).map fun ks => (s, u, ks) else none | _ => none) := hide rfl
 go_wp2_with fail
 refine (rname_c w4 _ _ PS).mono ?_
 rintro e w5 ⟨rfl, rfl⟩
 go_wp2_with fail
 refine (rcount_c w5 _ _ PU).mono ?_
 rintro e w6 ⟨rfl, rfl⟩
 obtain ⟨r0, r1, r2, rf0, rf1, rf2, hrb⟩ := dfacts I2
 obtain ⟨n0, n1, n2, nf0, nf1, nf2, hnb⟩ := dfacts I4
 cases hs : nameF (lookK kSrv l) with
 | none =>
  have HN : Hid (docF l = none) := by show _ = _; rw [HD.out, hs]; rfl
  simp only [Option.isSome_none]
  go_wp2
  exact bodyPost_ret (doc_results _ rfl rfl (set3 I2)) rfl (dc_no K0 HN.out)
 | some sn =>
  simp only [Option.isSome_some]
  cases hu : momF (lookK kUnt l) with
  | none =>
   have HN : Hid (docF l = none) := by show _ = _; rw [HD.out, hs, hu]; rfl
   simp only [Option.isSome_none]
   go_wp2
   exact bodyPost_ret (doc_results _ rfl rfl (set3 I2)) rfl (dc_no K0 HN.out)
  | some u =>
   simp only [Option.isSome_some]
   rw [hs, hu] at HD
   simp only [Option.bind_some] at HD
   rw [str_of_name hs] at PS
   rw [num_of_mom hu] at PU
   rcases PS with ⟨_, e⟩ | ⟨sb, js, rfl, e, _, hrs⟩
   ·cases e
   cases e
   rcases PU with ⟨_, e⟩ | ⟨ub, ju, rfl, e, _, hru⟩
   ·cases e
   cases e
   clear hs hu
   rcases PV with ⟨rfl, hv⟩ | ⟨vb, jv, rfl, hv, hvl, hrv⟩
   ·have HN : Hid (docF l = none) := by show _ = _; rw [HD.out, hv]
    go_wp2
    exact bodyPost_ret (doc_results _ rfl rfl (set3 I2)) rfl (dc_no K0 HN.out)
   ·by_cases hkv : rkind jv = 123
    ·obtain ⟨m, rfl⟩ : ∃ m, jv = .obj m := by
      cases jv with
      | obj m => exact ⟨m, rfl⟩
      | bool b => cases b <;> simp [rkind] at hkv
      | _ => simp [rkind] at hkv
     obtain ⟨x, KK, LL, hb, hKr, hLr, hNd, hxx, rfl⟩ := hrv.parts
     have hxl := obj_cnt hNd hvl
     have hol := ofL_len _ hNd
     rw [List.length_map] at hol
     rw [hv] at HD
     simp only [hol] at HD
     obtain ⟨la, lc, rfl⟩ := own_slice hLr
     obtain ⟨b0, b1, b2, b3, b4, bf0, bf1, bf2, bf3, bf4, hbb⟩ := vfacts hb
     by_cases h1 : x.length < 1
     ·have h1' : (x.length : Int) < 1 := by omega
      have HN : Hid (docF l = none) := by show _ = _; rw [HD.out, if_neg (by omega)]
      go_wp2
      exact bodyPost_ret (doc_results _ rfl rfl (set3 I2)) rfl (dc_no K0 HN.out)
     ·have h1' : ¬ (x.length : Int) < 1 := by omega
      by_cases h4 : 4 < x.length
      ·have h4' : (4 : Int) < (x.length : Int) := by omega
       have HN : Hid (docF l = none) := by show _ = _; rw [HD.out, if_neg (by omega)]
       go_wp2
       exact bodyPost_ret (doc_results _ rfl rfl (set3 I2)) rfl (dc_no K0 HN.out)
      ·have h4' : ¬ (4 : Int) < (x.length : Int) := by omega
       rw [if_pos (by omega)] at HD
       have hperm := keysF_perm (old := false) (till := u) (ofL_perm_self _ hNd)
       have hml : ∀ a j c, (a, j, c) ∈ x → (cJ j).length ≤ 600 ∧ RR w6 (fun c => c < w6.heap.size) j c := by
        intro a j c hm
        refine ⟨?_, hxx a j c hm⟩
        have hm2 : (a, j) ∈ ofL (x.map fun p => (p.1, p.2.1)) := (ofL_perm_self _ hNd).mem_iff.2 (List.mem_map.2 ⟨_, hm, rfl⟩)
        have := (joinC_le ((ofL (x.map fun p => (p.1, p.2.1))).map cMem) 0).2 (cMem (a, j)) (List.mem_map.2 ⟨_, hm2, rfl⟩)
        rw [cJ_obj] at hvl
        simp only [cMem, List.length_append, List.length_cons, List.length_nil] at this hvl
        omega
       have hkc := rkeys_c w6 vb x KK _ hb hKr hLr hml (by omega) false u
       have HK := hide (And.intro hkc hperm)
       clear hkc hperm hml hrv hxx hKr hLr hb hvl hv
       cases hrs with
       | str sn hFs hsb =>
        cases hru with
        | num u hun hFu hub =>
         obtain ⟨s0, s1, s2, s3, s4, sf0, sf1, sf2, sf3, sf4, hsbl⟩ := vfacts hsb
         obtain ⟨u0, u1, u2, u3, u4, uf0, uf1, uf2, uf3, uf4, hubl⟩ := vfacts hub
         go_wp2_with fail
         refine HK.out.1.mono ?_
         rintro e w7 ⟨K7, hks⟩
         have K07 := K0.trans K7
         have I27 := (K7.block _ (lt_heap I2) (by simp)).trans I2
         have I47 := (K7.block _ (lt_heap I4) (by simp)).trans I4
         have hsb7 := vkp hsb K7
         have hub7 := vkp hub K7
         have PQ7 := PQ.kp K7
         clear s0 s1 s2 s3 s4 sf0 sf1 sf2 sf3 sf4 hsbl u0 u1 u2 u3 u4 uf0 uf1 uf2 uf3 uf4 hubl b0 b1 b2 b3 b4 bf0 bf1 bf2 bf3 bf4 hbb r0 r1 r2 rf0 rf1 rf2 hrb n0 n1 n2 nf0 nf1 nf2 hnb PQ
         obtain ⟨r0, r1, r2, rf0, rf1, rf2, hrb⟩ := dfacts I27
         obtain ⟨n0, n1, n2, nf0, nf1, nf2, hnb⟩ := dfacts I47
         cases hkf : keysF false u (x.map fun p => (p.1, p.2.1)) with
         | none =>
          rw [hkf] at hks
          have hks' : e = .returned (.tuple #[.slice none 0 0, .bool false]) := hks
          subst hks'
          have HN : Hid (docF l = none) := by
           show _ = _
           rw [HD.out]
           rcases HK.out.2 with ⟨h1, _⟩ | ⟨a, b, _, h2, _⟩
           ·rw [h1]; rfl
           ·rw [hkf] at h2; cases h2
          clear hks hkf
          go_wp2
          exact bodyPost_ret (doc_results _ rfl rfl (set3 I27)) rfl (dc_no K07 HN.out)
         | some ks1 =>
          rw [hkf] at hks
          obtain ⟨v1, rfl, row1⟩ := hks
          obtain ⟨a1, c1, rfl, _⟩ := own_slice4 row1
          have hk1 : ks1.length ≤ 4 := by
           have := congrArg List.length (keysF_ids hkf).1
           simp only [List.length_map] at this
           omega
          rcases PQ7 with ⟨rfl, hq⟩ | ⟨qb, jq, rfl, hq, hql, hrq⟩
          ·have hold : oldF l = some [] := by unfold oldF; rw [hq]
           have HS := hide (rsorted_c w7 _ _ ks1 row1 (by omega))
           have HF : Hid (docF l = (joinF ks1 []).map fun ks => (sn, u, ks)) := by
            show _ = _
            rw [HD.out, hold]
            rcases HK.out.2 with ⟨_, h2⟩ | ⟨a, b, h1, h2, h3⟩
            ·rw [hkf] at h2; cases h2
            ·rw [h1]
             rw [hkf] at h2
             cases h2
             simp only [Option.bind_some]
             rw [joinF_perm h3 (List.Perm.refl [])]
           clear hq hold hkf
           go_wp2_with fail
           refine HS.out.mono ?_
           rintro e w8 ⟨K8, hr⟩
           have K08 := K07.trans K8
           have I28 := (K8.block _ (lt_heap I27) (by simp)).trans I27
           have hsb8 := vkp hsb7 K8
           have hub8 := vkp hub7 K8
           obtain ⟨s0, s1, s2, s3, s4, sf0, sf1, sf2, sf3, sf4, hsbl⟩ := vfacts hsb8
           obtain ⟨u0, u1, u2, u3, u4, uf0, uf1, uf2, uf3, uf4, hubl⟩ := vfacts hub8
           clear r0 r1 r2 rf0 rf1 rf2 hrb n0 n1 n2 nf0 nf1 nf2 hnb
           obtain ⟨r0, r1, r2, rf0, rf1, rf2, hrb⟩ := dfacts I28
           cases hjf : joinF ks1 [] with
           | none =>
            rw [hjf] at hr
            have hr' : e = .returned (.tuple #[.slice none 0 0, .bool false]) := hr
            subst hr'
            have HN : Hid (docF l = none) := by show _ = _; rw [HF.out, hjf]; rfl
            clear hr hjf
            go_wp2_with fail
            go_region
            go_wp2
            exact bodyPost_ret (doc_results _ rfl rfl (by exact set3 I28)) rfl (dc_nod K08 HN.out)
           | some O =>
            rw [hjf] at hr
            obtain ⟨v2, rfl, row2⟩ := hr
            obtain ⟨a2, c2, rfl, _⟩ := own_slice4 row2
            have HN : Hid (docF l = some (sn, u, O)) := by show _ = _; rw [HF.out, hjf]; rfl
            have hw7 : w.heap.size < w7.heap.size := lt_heap I27
            clear hjf
            go_wp2_with fail
            go_region
            go_wp2
            exact bodyPost_ret (doc_results _ rfl rfl (by exact set3 I28)) rfl (dc_yes K08 hw7 row2 HN.out)
          ·by_cases hkq : rkind jq = 123
           ·obtain ⟨mq, rfl⟩ : ∃ m, jq = .obj m := by
             cases jq with
             | obj m => exact ⟨m, rfl⟩
             | bool b => cases b <;> simp [rkind] at hkq
             | _ => simp [rkind] at hkq
            clear hkq
            obtain ⟨y, KK, LL, hb, hKr, hLr, hNq, hyy, rfl⟩ := hrq.parts
            have hyl := obj_cnt hNq hql
            obtain ⟨b0, b1, b2, b3, b4, bf0, bf1, bf2, bf3, bf4, hbb⟩ := vfacts hb
            have hml : ∀ a j c, (a, j, c) ∈ y → (cJ j).length ≤ 600 ∧ RR w7 (fun c => c < w7.heap.size) j c := by
             intro a j c hm
             refine ⟨?_, hyy a j c hm⟩
             have hm2 : (a, j) ∈ ofL (y.map fun p => (p.1, p.2.1)) := (ofL_perm_self _ hNq).mem_iff.2 (List.mem_map.2 ⟨_, hm, rfl⟩)
             have := (joinC_le ((ofL (y.map fun p => (p.1, p.2.1))).map cMem) 0).2 (cMem (a, j)) (List.mem_map.2 ⟨_, hm2, rfl⟩)
             rw [cJ_obj] at hql
             simp only [cMem, List.length_append, List.length_cons, List.length_nil] at this hql
             omega
            have HQ := hide (And.intro (rkeys_c w7 qb y KK LL hb hKr hLr hml (by omega) true 0) (keysF_perm (old := true) (till := 0) (ofL_perm_self _ hNq)))
            have hold : oldF l = keysF true 0 (ofL (y.map fun p => (p.1, p.2.1))) := by unfold oldF; rw [hq]
            have HOLD := hide (And.intro hold hkf)
            clear hold hq hql hrq hyy hKr hLr hb hml hkf
            go_wp2_with fail
            refine HQ.out.1.mono ?_
            rintro e w8 ⟨K8, hks2⟩
            have K08 := K07.trans K8
            have I28 := (K8.block _ (lt_heap I27) (by simp)).trans I27
            have I48 := (K8.block _ (lt_heap I47) (by simp)).trans I47
            have hsb8 := vkp hsb7 K8
            have hub8 := vkp hub7 K8
            have row1' := ownsRow_kp row1 K8 (by simp)
            clear r0 r1 r2 rf0 rf1 rf2 hrb n0 n1 n2 nf0 nf1 nf2 hnb b0 b1 b2 b3 b4 bf0 bf1 bf2 bf3 bf4 hbb
            obtain ⟨r0, r1, r2, rf0, rf1, rf2, hrb⟩ := dfacts I28
            obtain ⟨n0, n1, n2, nf0, nf1, nf2, hnb⟩ := dfacts I48
            cases hkf2 : keysF true 0 (y.map fun p => (p.1, p.2.1)) with
            | none =>
             rw [hkf2] at hks2
             have hks2' : e = .returned (.tuple #[.slice none 0 0, .bool false]) := hks2
             subst hks2'
             have HN : Hid (docF l = none) := by
              show _ = _
              rw [HD.out, HOLD.out.1]
              rcases HQ.out.2 with ⟨h1, _⟩ | ⟨a, b, _, h2, _⟩
              ·rw [h1]
               cases keysF false u (ofL (x.map fun p => (p.1, p.2.1))) <;> rfl
              ·rw [hkf2] at h2; cases h2
             clear hks2 hkf2
             go_wp2
             exact bodyPost_ret (doc_results _ rfl rfl (set3 I28)) rfl (dc_no K08 HN.out)
            | some ks2 =>
             rw [hkf2] at hks2
             obtain ⟨v2, rfl, row2⟩ := hks2
             have hk2 : ks2.length ≤ 600 := by
              have := congrArg List.length (keysF_ids hkf2).1
              simp only [List.length_map] at this
              omega
             have HF : Hid (docF l = (joinF (ks1 ++ ks2) []).map fun ks => (sn, u, ks)) := by
              show _ = _
              rw [HD.out, HOLD.out.1, joinF_eq]
              rcases HK.out.2 with ⟨_, h2⟩ | ⟨a, b, h1, h2, h3⟩
              ·rw [HOLD.out.2] at h2; cases h2
              ·rw [h1]
               rw [HOLD.out.2] at h2
               cases h2
               rcases HQ.out.2 with ⟨_, h5⟩ | ⟨c, d, h4, h5, h6⟩
               ·rw [hkf2] at h5; cases h5
               ·rw [h4]
                rw [hkf2] at h5
                cases h5
                simp only [Option.bind_some]
                rw [joinF_perm h3 h6]
             obtain ⟨a2, c2, rfl, _⟩ := own_slice4 row2
             have hnone : a2 = none → ks2.length = 0 ∧ c2 = 0 := by
              rintro rfl
              rcases row2.2 with ⟨e1, e2⟩ | ⟨g, cap, cur, e1, _⟩
              ·injection e1 with _ _ e3
               exact ⟨e2, e3⟩
              ·injection e1 with e1; cases e1
             have hnews : ∀ ad, a2 = some ad → ∀ j q, (ks2.flatMap kyC)[j]? = some q → w8.cell? (ad.add j) = some q := by
              rintro ad rfl j q hq
              rcases id row2.2 with ⟨e1, e2⟩ | ⟨g, cap, cur, e1, _⟩
              ·injection e1 with e1; cases e1
              ·injection e1 with e1 _ _
               injection e1 with e1
               subst e1
               exact row2.cells (g := g) rfl j q hq
             have hone : ∀ q ∈ ks2.flatMap kyC, q.oneCell' = true := by
              intro q hq
              obtain ⟨k, _, hk⟩ := List.mem_flatMap.1 hq
              simp [kyC] at hk
              rcases hk with rfl | rfl | rfl | rfl <;> rfl
             have hs7 := K7.size
             have hs8 := K8.size
             have hs0 := K0.size
             obtain ⟨i0, hi, hz0, hz1, hz2⟩ := info_parts infoKey
             have HW := hide (And.intro hnone (And.intro hnews hone))
             clear hkf2 hnone hnews hone
             go_wp2_with (at_builtin; (refine wpList_append_any _ rfl _ _ 28 rfl w6.heap.size 35 i0 (.agg #[.string ⟨#[]⟩, .string ⟨#[]⟩, .bool false, .int .i64 0]) 4 48 Tryz.underlying28 hi hz0 hz1 hz2 rfl (by decide) _ _ _ rfl row1' a2 ks2.length c2 (ks2.flatMap kyC) rfl (kyC_len ks2) HW.out.1 HW.out.2.1 HW.out.2.2 (by unfold maxLen; omega) (by omega) (by omega) ?_))
             intro v3 w9 y1 y2 y3
             have hown : ∀ k, (Value.slice a1 ks1.length c1).ownBlock = some k → w6.heap.size ≤ k := fun k hk => (row1'.lt k hk).1
             have K09 : Kp (fun _ => False) w w9 := K08.grown y2 (fun k hk hlt => by have := hown k hk; omega)
             have hb9 : ∀ k, k < w6.heap.size → w9.heap[k]? = w8.heap[k]? := fun k hk => y2.block k (by omega) (fun e => by have := hown k e.symm; omega)
             have I29 := (hb9 _ (lt_heap I2)).trans I28
             have hsb9 := (hb9 _ (lt_heap hsb)).trans hsb8
             have hub9 := (hb9 _ (lt_heap hub)).trans hub8
             have y1' : w9.ownsRow w6.heap.size 35 4 v3 (ks1 ++ ks2).length ((ks1 ++ ks2).flatMap kyC) := by
              rw [List.length_append, List.flatMap_append]
              exact y1
             obtain ⟨a3, c3, rfl, _⟩ := own_slice4 y1'
             have HS := hide (rsorted_c w9 _ _ (ks1 ++ ks2) y1' (by rw [List.length_append]; omega))
             clear y1 y2 y3 y1' r0 r1 r2 rf0 rf1 rf2 hrb n0 n1 n2 nf0 nf1 nf2 hnb hown hb9 row1' row2 HW
             have hln : (ks1 ++ ks2).length = ks1.length + ks2.length := List.length_append
             rw [hln] at HS
             clear hln
             go_wp2_with fail
             refine HS.out.mono ?_
             rintro e wA ⟨KA, hr⟩
             have K0A := K09.trans KA
             have I2A := (KA.block _ (lt_heap I29) (by simp)).trans I29
             have hsbA := vkp hsb9 KA
             have hubA := vkp hub9 KA
             obtain ⟨s0, s1, s2, s3, s4, sf0, sf1, sf2, sf3, sf4, hsbl⟩ := vfacts hsbA
             obtain ⟨u0, u1, u2, u3, u4, uf0, uf1, uf2, uf3, uf4, hubl⟩ := vfacts hubA
             obtain ⟨r0, r1, r2, rf0, rf1, rf2, hrb⟩ := dfacts I2A
             cases hjf : joinF (ks1 ++ ks2) [] with
             | none =>
              rw [hjf] at hr
              have hr' : e = .returned (.tuple #[.slice none 0 0, .bool false]) := hr
              subst hr'
              have HN : Hid (docF l = none) := by show _ = _; rw [HF.out, hjf]; rfl
              clear hr hjf
              go_wp2_with fail
              go_region
              go_wp2
              exact bodyPost_ret (doc_results _ rfl rfl (by exact set3 I2A)) rfl (dc_nod K0A HN.out)
             | some O =>
              rw [hjf] at hr
              obtain ⟨v4, rfl, row4⟩ := hr
              obtain ⟨a4, c4, rfl, _⟩ := own_slice4 row4
              have HN : Hid (docF l = some (sn, u, O)) := by show _ = _; rw [HF.out, hjf]; rfl
              have hw9 : w.heap.size < w9.heap.size := lt_heap I29
              clear hjf
              go_wp2_with fail
              go_region
              go_wp2
              exact bodyPost_ret (doc_results _ rfl rfl (by exact set3 I2A)) rfl (dc_yes K0A hw9 row4 HN.out)
           ·obtain ⟨nn, tt, K2, L2, hb2⟩ := hrq.kind
            obtain ⟨b0, b1, b2, b3, b4, bf0, bf1, bf2, bf3, bf4, hbb⟩ := vfacts hb2
            have hkn : (((rkind jq : Nat) : Int) != 123) = true := by simp; omega
            have hold : oldF l = none := by
             unfold oldF
             rw [hq]
             cases jq with
             | obj m => exact absurd rfl hkq
             | _ => rfl
            have HN : Hid (docF l = none) := by
             show _ = _
             rw [HD.out, hold]
             cases keysF false u (ofL (x.map fun p => (p.1, p.2.1))) <;> rfl
            clear hrq hb2 hkq hq hold hkf
            generalize rkind jq = kd at *
            go_wp2
            exact bodyPost_ret (doc_results _ rfl rfl (set3 I27)) rfl (dc_no K07 HN.out)
    ·obtain ⟨nn, tt, K2, L2, hb2⟩ := hrv.kind
     obtain ⟨b0, b1, b2, b3, b4, bf0, bf1, bf2, bf3, bf4, hbb⟩ := vfacts hb2
     have hkn : (((rkind jv : Nat) : Int) != 123) = true := by simp; omega
     have HN : Hid (docF l = none) := by
      show _ = _
      rw [HD.out, hv]
      cases jv with
      | obj m => exact absurd rfl hkv
      | _ => rfl
     clear hrv hb2 hkv hv
     generalize rkind jv = kd at *
     go_wp2
     exact bodyPost_ret (doc_results _ rfl rfl (set3 I2)) rfl (dc_no K0 HN.out)
end Go.Proofs.YtocligpfmfmihaaGreatDoor

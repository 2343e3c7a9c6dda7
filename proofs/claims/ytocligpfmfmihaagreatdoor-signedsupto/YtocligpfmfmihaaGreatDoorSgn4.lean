import Derived.Test.YtocligpfmfmihaaGreatDoorSgnG
namespace Go.Proofs.YtocligpfmfmihaaGreatDoor
open Go Go.RowKit Go.Maps Go.WideMaps

/-- How great the signed object may be. -/
theorem sign_size {l : List (Bs × J)} {s : Bs} (hp : parse s = some (.obj l)) (hl : s.length ≤ 600) (sv id sig : Bs) (h1 : sv.length ≤ 2000000) (h2 : id.length ≤ 2000000) (h3 : sig.length ≤ 2000000) :
    cnt (.obj (signL l sv id sig)) ≤ 2000 ∧ (cJ (.obj (signL l sv id sig))).length ≤ 90000000 := by
  have hok := parse_ok hp
  have hcl := cnt_le (.obj l)
  simp only [cnt] at hcl ⊢
  have c1 := cntm_child kSig l
  have c2 := cntm_child sv (childF kSig l)
  have i1 := cntm_ins id (.str sig) (childF sv (childF kSig l))
  have i2 := cntm_ins sv (.obj (insK id (.str sig) (childF sv (childF kSig l)))) (childF kSig l)
  have i3 := cntm_ins kSig (.obj (insK sv (.obj (insK id (.str sig) (childF sv (childF kSig l)))) (childF kSig l))) l
  simp only [cnt] at i1 i2 i3
  have t0 := (cJ_tot l).2
  have t1 := tot_child kSig l
  have t2 := tot_child sv (childF kSig l)
  have u1 := tot_ins id (.str sig) (childF sv (childF kSig l))
  have u2 := tot_ins sv (.obj (insK id (.str sig) (childF sv (childF kSig l)))) (childF kSig l)
  have u3 := tot_ins kSig (.obj (insK sv (.obj (insK id (.str sig) (childF sv (childF kSig l)))) (childF kSig l))) l
  have e1 := (cJ_tot (insK id (.str sig) (childF sv (childF kSig l)))).1
  have e2 := (cJ_tot (insK sv (.obj (insK id (.str sig) (childF sv (childF kSig l)))) (childF kSig l))).1
  have e3 := (cJ_tot (signL l sv id sig)).1
  have s1 := cStr_le id
  have s2 := cStr_le sig
  have s3 := cStr_le sv
  have s4 := cStr_le kSig
  have s5 : kSig.length = 10 := rfl
  simp only [cMem, List.length_append, List.length_cons] at u1 u2 u3
  have z : (cJ (.str sig)).length = (cStr sig).length := by rw [cJ]
  rw [z] at u1
  unfold signL at e3 ⊢
  constructor
  · omega
  · omega

set_option maxRecDepth 20000 in
theorem signed_c (W : World) (hN : NG W) (s sv id sig : ByteArray) (h1 : sv.size ≤ 2000000) (h2 : id.size ≤ 2000000) (h3 : sig.size ≤ 2000000) (w : World) (hW : Below W.heap.size W w) :
    Calls Tryz.prog 18 #[.string s, .string sv, .string id, .string sig] w fun e w' => AnsR w (signedF s.data.toList sv.data.toList id.data.toList sig.data.toList) e w' := by
  go_enter Tryz.func18, Tryz.ntmps18
  go_wp2_with fail
  refine (readObject_c W hN s w hW).mono ?_
  rintro e w' ⟨hk, ⟨l, b, hv, rfl, hr⟩ | ⟨n, ev, hv, rfl, he, tt, u, rfl⟩⟩
  · have hb := below_kp hW hk
    obtain ⟨hp, hl⟩ := object_ok hv
    have hok := parse_ok hp
    have hcl := cnt_le (.obj l)
    simp only [cnt] at hcl
    have hcm : cntm l ≤ 1000000 := by omega
    have ho : Oz w' l b := Rep.mono (fun j hj => hj.2) _ hr
    have hz := sign_size hp hl sv.data.toList id.data.toList sig.data.toList (by rw [dlen]; exact h1) (by rw [dlen]; exact h2) (by rw [dlen]; exact h3)
    have H := hide (And.intro ho (And.intro hok.1 (And.intro hk (And.intro hv hz))))
    clear hr hok hp hv hk hcl hz ho
    go_wp2_with fail
    refine (withSig_c W hN w' hb l b H.out.1 H.out.2.1 hcm sv id sig (by omega) (by omega) (by omega)).mono ?_
    rintro e w2 ⟨k2, ⟨hvd, b2, rfl, o2⟩ | ⟨hvd, ev, rfl, he, tt, u, rfl⟩⟩
    · have hb2 := below_kp hb k2
      have H2 := hide (And.intro o2 (And.intro (H.out.2.2.1.trans k2) hvd))
      clear k2 o2 hvd
      have hm : (cnt (.obj (signL l sv.data.toList id.data.toList sig.data.toList)) + 1) * ((cJ (.obj (signL l sv.data.toList id.data.toList sig.data.toList))).length + 2) ≤ 2001 * 90000002 := Nat.mul_le_mul (by have := H.out.2.2.2.2.1; omega) (by have := H.out.2.2.2.2.2; omega)
      have HM := hide (show (cnt (.obj (signL l sv.data.toList id.data.toList sig.data.toList)) + 1) * ((cJ (.obj (signL l sv.data.toList id.data.toList sig.data.toList))).length + 2) ≤ 139000000000000 by omega)
      clear hm
      have hwf : Hid (WF 6 (.obj (signL l sv.data.toList id.data.toList sig.data.toList))) := by
        have hh := H2.out.2.2
        simp only [Bool.and_eq_true] at hh
        exact WF_signL l _ _ _ H.out.2.1 hh.1.1 hh.1.2 hh.2
      go_wp2_with fail
      refine (vcanon_c W hN.gl 6 (.obj (signL l sv.data.toList id.data.toList sig.data.toList)) hwf.out (by have := H.out.2.2.2.2.1; omega) HM.out _ _ w2 hb2 H2.out.1).mono ?_
      rintro e w3 ⟨rfl, hw⟩
      have HK := hide (H2.out.2.1.trans (kp_wr hw))
      clear hw
      go_wp2
      go_ret2
      refine ⟨?_, HK.out⟩
      unfold signedF signedE
      rw [H.out.2.2.2.1]
      simp only [H2.out.2.2]
      rfl
    · have hb2 := below_kp hb k2
      have H2 := hide (And.intro he (And.intro (H.out.2.2.1.trans k2) hvd))
      clear k2 he hvd
      go_wp2_with fail
      refine (errno_c W hN w2 hb2 _ 2 H2.out.1).mono ?_
      rintro e w3 ⟨rfl, hw⟩
      have HK := hide (H2.out.2.1.trans hw)
      clear hw
      go_wp2
      go_ret2
      refine ⟨?_, HK.out⟩
      unfold signedF signedE
      rw [H.out.2.2.2.1]
      simp only [H2.out.2.2]
      rfl
  · have hb := below_kp hW hk
    have H := hide (And.intro he (And.intro hk hv))
    clear he hk hv
    go_wp2_with fail
    refine (errno_c W hN w' hb _ n H.out.1).mono ?_
    rintro e w2 ⟨rfl, hw⟩
    have HK := hide (H.out.2.1.trans hw)
    clear hw
    go_wp2
    go_ret2
    refine ⟨?_, HK.out⟩
    unfold signedF signedE
    rw [H.out.2.2]
    rfl
end Go.Proofs.YtocligpfmfmihaaGreatDoor

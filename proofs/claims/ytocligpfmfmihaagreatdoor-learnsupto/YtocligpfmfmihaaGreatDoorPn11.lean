import Derived.Test.YtocligpfmfmihaaGreatDoorSgn4G
namespace Go.Proofs.YtocligpfmfmihaaGreatDoor
open Go Go.RowKit Go.Maps Go.WideMaps Go.MuLone
attribute [local go_sem] Oper.semAt_some
set_option maxRecDepth 20000 in
set_option maxHeartbeats 4000000 in
theorem answer_c (W : World) (hN : NG3 W) (w : World) (hW : Below W.heap.size W w) (F : Nat → Prop) (hFl : ∀ k, F k → W.heap.size ≤ k) (nb : Nat) (nm id ky : Bs) (srcs : List Bs) (st : Ldg) (c : Nat) (hP : PN w F nb nm id ky srcs st c) (s : Bs) (hs : s.length ≤ 2000000) (h1 : nm.length ≤ 2000000) (h2 : id.length ≤ 2000000) (h3 : ky.length ≤ 2000000) :
  Calls Tryz.prog 86 #[.pointer (some ⟨nb, 0, none⟩), .string ⟨s.toArray⟩] w fun e w' => AnsR w (answerS st nm id ky s) e w' := by
 obtain ⟨Fk, kb, so, hp⟩ := hP
 have hkb : W.heap.size ≤ kb := by
  obtain ⟨mb, ib, sm, im, Bf, Qf, qm, hk⟩ := hp.kn
  exact hFl kb (hp.fk kb hk.fk)
 have HL := hide (lastDoc_c W hN w hW Fk kb hkb st c hp.kn s hs)
 obtain ⟨n0, n1, n2, n3, n4⟩ := nt_facts hp.nblk
 have HP := hide hp
 clear hp
 go_enter Tryz.func86, Tryz.ntmps86
 go_wp2_with fail
 refine HL.out.mono ?_
 rintro e w1 ⟨K1, h4⟩
 have HK1 := hide K1
 clear K1 HL n0 n1 n2 n3 n4
 cases hd : st.docs s with
 | none =>
  rw [hd] at h4
  obtain ⟨tt, uu, rfl, he⟩ := h4
  have HE := hide (errno_a W hN.n2 w1 (below_kp hW HK1.out) _ 8 (Or.inr he))
  have HA := hide (show answerS st nm id ky s = ([], 8) by unfold answerS; rw [hd])
  clear he hd
  go_wp2_with fail
  refine HE.out.mono ?_
  rintro e w2 ⟨rfl, K2⟩
  have HK2 := hide (HK1.out.trans K2)
  clear K2
  go_wp2
  go_ret2
  rw [HA.out]
  exact ⟨rfl, HK2.out⟩
 | some t =>
  rw [hd] at h4
  replace h4 : e = .returned (.tuple #[.string ⟨t.toArray⟩, .nilIface]) := h4
  subst h4
  have HC := hide (countersign_c W hN.n2.ng w1 (below_kp hW HK1.out) nb kb nm id ky so (HK1.out.heap HP.out.nblk) t h1 h2 h3)
  have hA : answerS st nm id ky s = signedF t nm id (sealF ⟨ky.toArray⟩ ⟨(messageF t).1.toArray⟩).data.toList := by unfold answerS; rw [hd]
  have HA := hide hA
  clear hA hd
  go_wp2_with fail
  refine HC.out.mono ?_
  rintro e w2 ⟨K2, h5⟩
  have HK2 := hide (HK1.out.trans K2)
  clear K2 HC
  rcases h5 with ⟨n, tt, uu, hof, rfl, he⟩ | ⟨l, hof, _, hsg⟩
  ·have HE := hide (errno_c W hN.n2.ng w2 (below_kp hW HK2.out) _ n he)
   have HS := hide (show signedF t nm id (sealF ⟨ky.toArray⟩ ⟨(messageF t).1.toArray⟩).data.toList = ([], n) by unfold signedF signedE; rw [hof]; rfl)
   clear he hof
   go_wp2_with fail
   refine HE.out.mono ?_
   rintro e w3 ⟨rfl, K3⟩
   have HK3 := hide (HK2.out.trans K3)
   clear K3
   go_wp2
   go_ret2
   rw [HA.out, HS.out]
   exact ⟨rfl, HK3.out⟩
  ·have hms : (messageF t).1 = bareF l := by unfold messageF; rw [hof]; rfl
   rw [hms] at HA
   obtain ⟨tl, htl⟩ : ∃ tl : Bs, (sealF ⟨ky.toArray⟩ ⟨(bareF l).toArray⟩).data.toList = tl := ⟨_, rfl⟩
   have hsl : tl.length = 8 := by
    have := sealF_len ⟨ky.toArray⟩ ⟨(bareF l).toArray⟩
    rw [← htl, dlen]
    exact this
   rw [htl] at HA hsg
   clear hms htl
   rcases hsg with ⟨hvd, b2, rfl, o2⟩ | ⟨hvd, ev, rfl, he, tt, uu, rfl⟩
   ·obtain ⟨hp, hl⟩ := object_ok hof
    have hok := parse_ok hp
    have hz := sign_size hp hl nm id tl h1 h2 (by omega)
    have hm : (cnt (.obj (signL l nm id tl)) + 1) * ((cJ (.obj (signL l nm id tl))).length + 2) ≤ 2001 * 90000002 := Nat.mul_le_mul (by omega) (by omega)
    have hwf : WF 6 (.obj (signL l nm id tl)) := by
     have hh := hvd
     simp only [Bool.and_eq_true] at hh
     exact WF_signL l _ _ _ hok.1 hh.1.1 hh.1.2 hh.2
    have HV := hide (vcanon_c W hN.n2.ng.gl 6 (.obj (signL l nm id tl)) hwf (by omega) (by omega) _ _ w2 (below_kp hW HK2.out) o2)
    have HS := hide (show signedF t nm id tl = (cJ (.obj (signL l nm id tl)), 0) by unfold signedF signedE; rw [hof]; simp only [hvd]; rfl)
    clear hvd o2 hof hp hl hok hz hm hwf
    go_wp2_with fail
    refine HV.out.mono ?_
    rintro e w3 ⟨rfl, hw⟩
    have HK3 := hide (HK2.out.trans (kp_wr hw))
    clear hw
    go_wp2
    go_ret2
    rw [HA.out, HS.out]
    exact ⟨rfl, HK3.out⟩
   ·have HE := hide (errno_c W hN.n2.ng w2 (below_kp hW HK2.out) _ 2 he)
    have HS := hide (show signedF t nm id tl = ([], 2) by unfold signedF signedE; rw [hof]; simp only [hvd]; rfl)
    clear he hvd hof
    go_wp2_with fail
    refine HE.out.mono ?_
    rintro e w3 ⟨rfl, K3⟩
    have HK3 := hide (HK2.out.trans K3)
    clear K3
    go_wp2
    go_ret2
    rw [HA.out, HS.out]
    exact ⟨rfl, HK3.out⟩
end Go.Proofs.YtocligpfmfmihaaGreatDoor

import Derived.Test.YtocligpfmfmihaaGreatDoorSgn3G
import Derived.Test.YtocligpfmfmihaaGreatDoorPr12G
import Derived.Deep.RegionHeld
namespace Go.Proofs.YtocligpfmfmihaaGreatDoor
open Go Go.RowKit Go.Maps Go.WideMaps

/-- How great the signed object may be. -/
theorem sign_size {l : List (Bs × J)} {s : Bs} (hp : parse s = some (.obj l)) (hl : s.length ≤ 600) (sv id sig : Bs) (h1 : sv.length ≤ 2000000) (h2 : id.length ≤ 2000000) (h3 : sig.length ≤ 2000000) :
    cnt (.obj (signL l sv id sig)) ≤ 2000 ∧ (cJ (.obj (signL l sv id sig))).length ≤ 90000000 := by
  have hok := parse_ok hp
  have hcl := cnt_le (.obj l)
  simp only [cnt] at hcl ⊢
  have c1 := cntm_child kSig l
  have c2 := cntm_child sv (childF kSig l)
  have i1 := cntm_ins id (.str sig) (childF sv (childF kSig l))
  have i2 := cntm_ins sv (.obj (insK id (.str sig) (childF sv (childF kSig l)))) (childF kSig l)
  have i3 := cntm_ins kSig (.obj (insK sv (.obj (insK id (.str sig) (childF sv (childF kSig l)))) (childF kSig l))) l
  simp only [cnt] at i1 i2 i3
  have t0 := (cJ_tot l).2
  have t1 := tot_child kSig l
  have t2 := tot_child sv (childF kSig l)
  have u1 := tot_ins id (.str sig) (childF sv (childF kSig l))
  have u2 := tot_ins sv (.obj (insK id (.str sig) (childF sv (childF kSig l)))) (childF kSig l)
  have u3 := tot_ins kSig (.obj (insK sv (.obj (insK id (.str sig) (childF sv (childF kSig l)))) (childF kSig l))) l
  have e1 := (cJ_tot (insK id (.str sig) (childF sv (childF kSig l)))).1
  have e2 := (cJ_tot (insK sv (.obj (insK id (.str sig) (childF sv (childF kSig l)))) (childF kSig l))).1
  have e3 := (cJ_tot (signL l sv id sig)).1
  have s1 := cStr_le id
  have s2 := cStr_le sig
  have s3 := cStr_le sv
  have s4 := cStr_le kSig
  have s5 : kSig.length = 10 := rfl
  simp only [cMem, List.length_append, List.length_cons] at u1 u2 u3
  have z : (cJ (.str sig)).length = (cStr sig).length := by rw [cJ]
  rw [z] at u1
  unfold signL at e3 ⊢
  constructor
  · omega
  · omega

end Go.Proofs.YtocligpfmfmihaaGreatDoor
namespace Go.Proofs.YtocligpfmfmihaaGreatDoor
open Go Go.RowKit Go.Maps Go.WideMaps Go.MuLone
attribute [local go_sem] Oper.semAt_some

theorem keyAt_c (w : World) (F : Nat → Prop) (kb : Nat) (st : Ldg) (c : Nat) (h : KN w F kb st c) (s i : Bs) (hs : s.length ≤ 2000000) (hi : i.length ≤ 2000000) (at' : Int) :
    Calls Tryz.prog 64 #[.pointer (some ⟨kb, 0, none⟩), .string ⟨s.toArray⟩, .string ⟨i.toArray⟩, .int .i64 at'] w fun e w' => e = .returned (.tuple #[.string ⟨((mayS st s i at').getD []).toArray⟩, .bool (mayS st s i at').isSome]) ∧ Kp (fun _ => False) w w' := by
  obtain ⟨mb, ib, sm, im, Bf, Qf, qm, hk⟩ := h
  have hl := hk.look s
  cases hd : st.docs s with
  | none =>
    rw [hd] at hl
    have hm : mayS st s i at' = none := by unfold mayS; rw [hk.non s hd i]; rfl
    rw [hm]
    refine (keyAt_no w kb mb ib sm.length sm hk.kblk hk.ms s i hs at' hl).mono ?_
    rintro e w' ⟨rfl, rfl⟩
    exact ⟨rfl, Kp.refl _ _⟩
  | some t =>
    rw [hd] at hl
    have hv := (hk.srv s t hd).1
    exact keyAt_yes w kb mb ib sm.length (Bf s) (Qf s) (qm s).length t sm (qm s) hk.kblk hk.ms s i hs hi at' hl hv.blk hv.own (st.keys s i) (hv.look i)
set_option maxRecDepth 20000 in
theorem key_c (w : World) (F : Nat → Prop) (nb : Nat) (nm id ky : Bs) (srcs : List Bs) (st : Ldg) (c : Nat) (hP : PN w F nb nm id ky srcs st c) (s i : Bs) (hs : s.length ≤ 2000000) (hi : i.length ≤ 2000000) (at' : Int) :
    Calls Tryz.prog 32 #[.pointer (some ⟨nb, 0, none⟩), .string ⟨s.toArray⟩, .string ⟨i.toArray⟩, .int .i64 at'] w fun e w' => e = .returned (.tuple #[.string ⟨((mayS st s i at').getD []).toArray⟩, .bool (mayS st s i at').isSome]) ∧ Kp (fun _ => False) w w' := by
  obtain ⟨Fk, kb, so, hp⟩ := hP
  have HA := hide (keyAt_c w Fk kb st c hp.kn s i hs hi at')
  obtain ⟨n0, n1, n2, n3, n4⟩ := nt_facts hp.nblk
  clear hp
  go_enter Tryz.func32, Tryz.ntmps32
  go_wp2_with fail
  refine HA.out.mono ?_
  rintro e w' ⟨rfl, K⟩
  have HK := hide K
  clear K
  go_wp2
  go_ret2
  exact ⟨rfl, HK.out⟩
theorem chd_unk {W w : World} (hN : NG3 W) {a : Addr} (ha : W.cell? ⟨3, 0, none⟩ = some (errV a)) : Chd W w (errV a) 8 := by
  obtain ⟨a', c, t, h1, h2⟩ := hN.n2.lay 3 (by simp [four])
  rw [ha] at h1
  unfold errV at h1
  injection h1 with h1
  injection h1 with _ h1
  injection h1 with h1
  injection h1 with h1
  subst h1
  exact ⟨a, [], .nil, ⟨c, t, h2⟩, hN.dis _ (by simp [four]) _ (by simp [four]) (by decide) a ha, hN.dis _ (by simp [four]) _ (by simp [four]) (by decide) a ha, .unk (by simp) (hN.dis _ (by simp [four]) _ (by simp [four]) (by decide) a ha) (by simp) ha⟩
set_option maxRecDepth 20000 in
set_option maxHeartbeats 4000000 in
theorem lastDoc_c (W : World) (hN : NG3 W) (w : World) (hW : Below W.heap.size W w) (F : Nat → Prop) (kb : Nat) (hkW : W.heap.size ≤ kb) (st : Ldg) (c : Nat) (h : KN w F kb st c) (s : Bs) (hs : s.length ≤ 2000000) :
    Calls Tryz.prog 142 #[.pointer (some ⟨kb, 0, none⟩), .string ⟨s.toArray⟩] w fun e w' => Kp (fun _ => False) w w' ∧ match st.docs s with
      | none => ∃ tt uu, e = .returned (.tuple #[.string ⟨#[]⟩, .iface tt uu]) ∧ Chd W w' (.iface tt uu) 8
      | some t => e = .returned (.tuple #[.string ⟨t.toArray⟩, .nilIface]) := by
  obtain ⟨mb, ib, sm, im, Bf, Qf, qm, hk⟩ := h
  obtain ⟨ea, hea⟩ : ∃ ea, W.cell? ⟨3, 0, none⟩ = some (errV ea) := by
    obtain ⟨a, _, _, h, _⟩ := hN.n2.lay 3 (by simp [four])
    exact ⟨a, h⟩
  obtain ⟨c0, c2, c3, f0⟩ := kn_facts hk.kblk
  obtain ⟨d0, d2, d3, g0⟩ := held_facts hk.kblk
  have hgw : 3 < W.heap.size := lt_cell hea
  have hce : (held kb w).cell? ⟨3, 0, none⟩ = some (errV ea) := by
    have h1 := Below.cl hW hea
    unfold World.cell? at h1 ⊢
    rw [held_heap (by show 3 ≠ kb; omega)]
    exact h1
  have hlk := mlook Tryz.underlying168 zSrv (held kb w) sm mb sm.length s (by omega) (ownsMap_heap hk.ms (held_heap (mapT_ne hk.ms hk.kblk)))
  rw [hk.look s] at hlk
  have HB := hide (fun X (hX : Kp (fun _ => False) (held kb w) X) => lock_frame hk.kblk hX)
  unfold errV at hce
  cases hd : st.docs s with
  | none =>
    rw [hd] at hlk
    replace hlk : (Instr.lookup 168 (.map (some mb)) (.string ⟨s.toArray⟩) true).run Tryz.prog (held kb w) = .ok (.tuple #[.pointer none, .bool false]) (held kb w) := hlk
    unfold held at *
    clear hd
    go_enter_defers Tryz.func142, Tryz.ntmps142
    go_wp2_with (go_at_call 96; refine (lock_free Tryz.muLib ⟨kb, 0, none⟩ _ c0 f0).mono ?_; rintro e w' ⟨rfl, rfl⟩)
    go_region
    all_goals go_wp2
    all_goals refine leaves_cons (f := 97) (args := #[.pointer (some ⟨kb, 0, none⟩)]) (by simp) (by simp [go_sem]) ?_
    all_goals refine (unlock_deferred Tryz.muLib ⟨kb, 0, none⟩ .returning _ (HB.out _ (Kp.refl _ _).drew).1 (HB.out _ (Kp.refl _ _).drew).2.1).mono ?_
    all_goals rintro e u' w'' ⟨rfl, rfl, rfl⟩
    all_goals exact ⟨_, results_tmp2 rfl _ _ _, (HB.out _ (Kp.refl _ _).drew).2.2, _, _, rfl, chd_unk hN hea⟩
  | some t =>
    rw [hd] at hlk
    replace hlk : (Instr.lookup 168 (.map (some mb)) (.string ⟨s.toArray⟩) true).run Tryz.prog (held kb w) = .ok (.tuple #[.pointer (some ⟨Bf s, 0, none⟩), .bool true]) (held kb w) := hlk
    have hv := (hk.srv s t hd).1
    obtain ⟨s0, s1, _⟩ := srv_facts ((held_heap (srv_ne hv.blk hk.kblk)).trans hv.blk)
    clear hv hd
    unfold held at *
    go_enter_defers Tryz.func142, Tryz.ntmps142
    go_wp2_with (go_at_call 96; refine (lock_free Tryz.muLib ⟨kb, 0, none⟩ _ c0 f0).mono ?_; rintro e w' ⟨rfl, rfl⟩)
    refine leaves_cons (f := 97) (args := #[.pointer (some ⟨kb, 0, none⟩)]) (by simp) (by simp [go_sem]) ?_
    refine (unlock_deferred Tryz.muLib ⟨kb, 0, none⟩ .returning _ (HB.out _ (Kp.refl _ _)).1 (HB.out _ (Kp.refl _ _)).2.1).mono ?_
    rintro e u' w'' ⟨rfl, rfl, rfl⟩
    exact ⟨_, results_tmp2 rfl _ _ _, (HB.out _ (Kp.refl _ _)).2.2, rfl⟩
end Go.Proofs.YtocligpfmfmihaaGreatDoor
namespace Go.Proofs.YtocligpfmfmihaaGreatDoor
open Go Go.RowKit Go.Maps Go.WideMaps Go.MuLone
attribute [local go_sem] Oper.semAt_some

theorem sealF_len (a b : ByteArray) : (sealF a b).size = 8 := by
  unfold sealF hexL
  show (List.toArray _).size = 8
  simp
/-- What countersign comes to. -/
def CoR (W w : World) (t nm id ky : Bs) (e : Ending) (w' : World) : Prop := Kp (fun _ => False) w w' ∧
  ((∃ n tt uu, objectF t = .error n ∧ e = .returned (.tuple #[.map none, .iface tt uu]) ∧ EV W w' (.iface tt uu) n) ∨
   (∃ l, objectF t = .ok l ∧ SgR W w l nm id (sealF ⟨ky.toArray⟩ ⟨(bareF l).toArray⟩).data.toList e w'))
set_option maxRecDepth 20000 in
set_option maxHeartbeats 4000000 in
theorem countersign_c (W : World) (hN : NG W) (w : World) (hW : Below W.heap.size W w) (nb kb : Nat) (nm id ky : Bs) (so : Value) (hb : w.heap[nb]? = some (ntObj nm id ky so kb)) (t : Bs) (h1 : nm.length ≤ 2000000) (h2 : id.length ≤ 2000000) (h3 : ky.length ≤ 2000000) :
    Calls Tryz.prog 143 #[.pointer (some ⟨nb, 0, none⟩), .string ⟨t.toArray⟩] w fun e w' => CoR W w t nm id ky e w' := by
  have e9 : (⟨t.toArray⟩ : ByteArray).data.toList = t := by simp
  have HR := hide (readObject_c W hN ⟨t.toArray⟩ w hW)
  rw [e9] at HR
  clear e9
  go_enter Tryz.func143, Tryz.ntmps143
  go_wp2_with fail
  refine HR.out.mono ?_
  rintro e w1 ⟨K1, ⟨l, b, hof, rfl, hr⟩ | ⟨n, ev, hof, rfl, he, tt, u, rfl⟩⟩
  · have oz : Oz w1 l b := Rep.mono (fun j hj => hj.2) _ hr
    obtain ⟨hp, hl⟩ := object_ok hof
    obtain ⟨hwf, hle⟩ := parse_ok hp
    have hcl : (cJ (.obj l)).length ≤ 600 := Nat.le_trans hle hl
    obtain ⟨f1, f2, f3, f4⟩ := bare_fits hwf hcl
    have hcn := cnt_le (.obj l)
    simp only [cnt] at hcn
    have hcm : cntm l ≤ 1000000 := by omega
    have hn1 := K1.heap hb
    obtain ⟨n0, n1, n2, n3, n4⟩ := nt_facts hn1
    have HK1 := hide K1
    have HO := hide (And.intro oz (And.intro hof (And.intro hwf hcm)))
    have HMS : Hid (∀ X, Kp (fun _ => False) w1 X → Calls Tryz.prog 40 #[.map (some b)] X fun e w' => e = .returned (.string ⟨(bareF l).toArray⟩) ∧ Kp (fun _ => False) X w') := fun X hX => messageOf_c W hN X (below_kp hW (HK1.out.trans hX)) _ l b (oz.up hX) (fun _ h => h) f1 f2 f3
    obtain ⟨tl, htl⟩ : ∃ tl : Bs, sealF ⟨ky.toArray⟩ ⟨(bareF l).toArray⟩ = ⟨tl.toArray⟩ := ⟨_, rfl⟩
    have hsl : tl.length = 8 := by
      have := sealF_len ⟨ky.toArray⟩ ⟨(bareF l).toArray⟩
      rw [htl, mk_size2] at this
      exact this
    have HSE : Hid (∀ X, Calls Tryz.prog 52 #[.string ⟨ky.toArray⟩, .string ⟨(bareF l).toArray⟩] X fun e w' => e = .returned (.string ⟨tl.toArray⟩) ∧ Kp (fun _ => False) X w') := fun X => by
      refine (seal_any ⟨ky.toArray⟩ ⟨(bareF l).toArray⟩ X (by rw [mk_size2]; omega) (by rw [mk_size2]; omega)).mono ?_
      rintro e w' ⟨rfl, hb⟩
      exact ⟨by rw [htl], Kp.of_below hb⟩
    have HTL := hide htl
    have HWS : Hid (∀ X, Kp (fun _ => False) w1 X → Calls Tryz.prog 43 #[.map (some b), .string ⟨nm.toArray⟩, .string ⟨id.toArray⟩, .string ⟨tl.toArray⟩] X fun e w' => SgR W X l nm id tl e w') := fun X hX => by
      have h := withSig_c W hN X (below_kp hW (HK1.out.trans hX)) l b (oz.up hX) hwf hcm ⟨nm.toArray⟩ ⟨id.toArray⟩ ⟨tl.toArray⟩ (by rw [mk_size2]; omega) (by rw [mk_size2]; omega) (by rw [mk_size2]; omega)
      simpa using h
    have HSK : Hid (∀ X, Kp (fun _ => False) w1 X → Kp (fun _ => False) w1 X ∧ X.cell? ⟨nb, 0, none⟩ = some (.string ⟨nm.toArray⟩) ∧ X.cell? ⟨nb, 1, none⟩ = some (.string ⟨id.toArray⟩) ∧ X.cell? ⟨nb, 2, none⟩ = some (.string ⟨ky.toArray⟩)) := fun X hX => by
      obtain ⟨m0, m1, m2, _⟩ := nt_facts (hX.heap hn1)
      exact ⟨hX, m0, m1, m2⟩
    clear oz hof hwf hp hl hle hcl f1 f2 f3 f4 hcn hr htl HR K1 n0 n1 n2 n3 n4
    cases hvd : (Lib.validD nm && Lib.validD id && Lib.validD tl) with
    | true =>
      have HV := hide hvd
      clear hvd
      go_wp2_with fail
      go_region_held (fun X => Kp (fun _ => False) w1 X ∧ X.cell? ⟨nb, 0, none⟩ = some (.string ⟨nm.toArray⟩) ∧ X.cell? ⟨nb, 1, none⟩ = some (.string ⟨id.toArray⟩) ∧ X.cell? ⟨nb, 2, none⟩ = some (.string ⟨ky.toArray⟩))
        (first | exact HSK.out _ (Kp.refl _ w1).drew | exact HSK.out _ HW.out.1 | exact HSK.out _ HS.out | exact HSK.out _ HM.out)
        (first
          | (go_at_call 40; refine (HMS.out _ (Kp.refl _ w1).drew).mono ?_; rintro e w2 ⟨rfl, K2⟩; have HM := hide (((Kp.refl (fun _ => False) w1).drew).trans K2); clear K2)
          | (go_at_call 52; refine (HSE.out _).mono ?_; rintro e w3 ⟨rfl, K3⟩; have HS := hide (HM.out.trans K3); clear K3)
          | (go_at_call 43; refine (HWS.out _ HS.out).mono ?_; rintro e w4 ⟨K4, h4⟩; obtain ⟨_, b2, rfl, o2⟩ := h4.resolve_right (by rintro ⟨h, _⟩; rw [HV.out] at h; cases h); have HW := hide (And.intro (HS.out.trans K4) o2); clear K4 h4 o2))
      all_goals go_wp2
      all_goals go_ret2
      all_goals exact ⟨HK1.out.trans HW.out.1, Or.inr ⟨l, HO.out.2.1, HK1.out.trans HW.out.1, Or.inl ⟨by rw [HTL.out]; simpa using HV.out, b2, rfl, by rw [HTL.out]; simpa using HW.out.2⟩⟩⟩
    | false =>
      have HV := hide hvd
      clear hvd
      go_wp2_with fail
      go_region_held (fun X => Kp (fun _ => False) w1 X ∧ X.cell? ⟨nb, 0, none⟩ = some (.string ⟨nm.toArray⟩) ∧ X.cell? ⟨nb, 1, none⟩ = some (.string ⟨id.toArray⟩) ∧ X.cell? ⟨nb, 2, none⟩ = some (.string ⟨ky.toArray⟩))
        (first | exact HSK.out _ (Kp.refl _ w1).drew | exact HSK.out _ HW.out.1 | exact HSK.out _ HS.out | exact HSK.out _ HM.out)
        (first
          | (go_at_call 40; refine (HMS.out _ (Kp.refl _ w1).drew).mono ?_; rintro e w2 ⟨rfl, K2⟩; have HM := hide (((Kp.refl (fun _ => False) w1).drew).trans K2); clear K2)
          | (go_at_call 52; refine (HSE.out _).mono ?_; rintro e w3 ⟨rfl, K3⟩; have HS := hide (HM.out.trans K3); clear K3)
          | (go_at_call 43; refine (HWS.out _ HS.out).mono ?_; rintro e w4 ⟨K4, h4⟩; obtain ⟨_, ev, rfl, he, tt, uu, rfl⟩ := h4.resolve_left (by rintro ⟨h, _⟩; rw [HV.out] at h; cases h); have HW := hide (And.intro (HS.out.trans K4) he); clear K4 h4 he))
      all_goals go_wp2
      all_goals go_ret2
      all_goals exact ⟨HK1.out.trans HW.out.1, Or.inr ⟨l, HO.out.2.1, HK1.out.trans HW.out.1, Or.inr ⟨by rw [HTL.out]; simpa using HV.out, _, rfl, HW.out.2, _, _, rfl⟩⟩⟩
  · have HE := hide (And.intro hof (And.intro he K1))
    clear he hof K1 HR
    go_wp2
    go_ret2
    exact ⟨HE.out.2.2, Or.inl ⟨n, _, _, HE.out.1, rfl, HE.out.2.1⟩⟩
end Go.Proofs.YtocligpfmfmihaaGreatDoor

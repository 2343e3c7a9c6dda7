import Derived.Test.YtocligpfmfmihabGreatDoorMixG
import Derived.Test.YtocligpfmfmihabGreatDoorSgn2G
import Derived.Test.YtocligpfmfmihabGreatDoorWrt2G
namespace Go.Proofs.YtocligpfmfmihabGreatDoor
open Go Go.Lib

theorem digB_low (m : Int) : (digB m).toNat < 128 := by
  unfold digB
  rw [List.getD_eq_getElem?_getD]
  cases h : ([(48 : UInt8), 49, 50, 51, 52, 53, 54, 55, 56, 57, 97, 98, 99, 100, 101, 102])[(m / 268435456).toNat]? with
  | none => decide
  | some x =>
    have := List.mem_of_getElem? h
    simp only [List.mem_cons, List.not_mem_nil, or_false] at this
    show x.toNat < 128
    rcases this with rfl | rfl | rfl | rfl | rfl | rfl | rfl | rfl | rfl | rfl | rfl | rfl | rfl | rfl | rfl | rfl <;> decide
theorem seal_ok (a b : ByteArray) : validD (sealF a b).data.toList = true ∧ (sealF a b).data.toList.length = 8 := by
  have e : (sealF a b).data.toList = hexL (mixF 2166136261 (a ++ ⟨#[10]⟩ ++ b).data.toList) := by unfold sealF; simp
  rw [e]
  refine ⟨?_, by simp [hexL]⟩
  have := validD_low (hexL (mixF 2166136261 (a ++ ⟨#[10]⟩ ++ b).data.toList)) [] (fun c hc => by
    obtain ⟨k, _, rfl⟩ := List.mem_map.1 hc
    exact digB_low _)
  rwa [List.append_nil] at this
theorem docL_sign (s id k sig : Bs) (till : Int) : signL (docL s id k till) s id sig = [(kSrv, .str s), (kSig, .obj [(s, .obj [(id, .str sig)])]), (kUnt, .num till), (kVer, .obj [(id, .obj [(kKey, .str k)])])] := by
  have h1 : childF kSig (docL s id k till) = [] := by
    unfold childF docL
    have : lookK kSig [(kSrv, J.str s), (kUnt, .num till), (kVer, .obj [(id, .obj [(kKey, .str k)])])] = none := by
      simp [lookK, show ¬ kSrv = kSig by decide, show ¬ kUnt = kSig by decide, show ¬ kVer = kSig by decide]
    rw [this]
  unfold signL
  rw [h1]
  simp [docL, childF, lookK, insK, show ¬ kSig < kSrv by decide, show ¬ kSrv = kSig by decide, show kSig < kUnt by decide]
theorem len_doc {s id k : Bs} {till : Int} (hs : Nm s) (hi : ∀ c ∈ id, 97 ≤ c.toNat ∧ c.toNat ≤ 122) (hil : id.length ≤ 5) (hk : Nm k) (h0 : 0 ≤ till) (h1 : till < 100000) : (cJ (.obj (docL s id k till))).length ≤ 150 := by
  rw [docL_text hs hi hk h0]
  have e1 : kSrv.length = 11 := rfl
  have e2 : kUnt.length = 14 := rfl
  have e3 : kVer.length = 11 := rfl
  have e4 : kKey.length = 3 := rfl
  have := hs.few
  have := hk.few
  have := decN_ln (n := till.toNat) (by omega)
  simp only [List.length_cons, List.length_append, e1, e2, e3, e4, List.length_nil]
  omega
theorem cStr8 {t : Bs} (h : t.length ≤ 8) : (cStr t).length ≤ 50 := by
  have : ∀ l : Bs, (l.flatMap cB).length ≤ 6 * l.length := by
    intro l
    induction l with
    | nil => simp
    | cons c l ih =>
      have : (cB c).length ≤ 6 := by
        unfold cB
        repeat' split
        all_goals simp
      simp only [List.flatMap_cons, List.length_append, List.length_cons]
      omega
  have h1 := this t
  unfold cStr
  simp only [List.length_cons, List.length_append, List.length_nil]
  omega
theorem cStr_six (t : Bs) : (cStr t).length ≤ 6 * t.length + 2 := by
  have : ∀ l : Bs, (l.flatMap cB).length ≤ 6 * l.length := by
    intro l
    induction l with
    | nil => simp
    | cons c l ih =>
      have : (cB c).length ≤ 6 := by
        unfold cB
        repeat' split
        all_goals simp
      simp only [List.flatMap_cons, List.length_append, List.length_cons]
      omega
  have h1 := this t
  unfold cStr
  simp only [List.length_cons, List.length_append, List.length_nil]
  omega
theorem len_sdoc {s id k sig : Bs} {till : Int} (hs : Nm s) (hi : ∀ c ∈ id, 97 ≤ c.toNat ∧ c.toNat ≤ 122) (hil : id.length ≤ 5) (hk : Nm k) (hg : sig.length ≤ 8) (h0 : 0 ≤ till) (h1 : till < 100000) : (cJ (.obj (signL (docL s id k till) s id sig))).length ≤ 600 := by
  have h2 := len_doc hs hi hil hk h0 h1
  have h3 := cStr8 hg
  have h4 := cStr_six s
  have h5 := cStr_six id
  have e0 : (cStr kSig).length = 12 := by decide
  have := hs.few
  rw [docL_sign]
  simp only [docL, cJ, cMs, joinC, List.length_cons, List.length_append, List.length_nil] at h2 ⊢
  omega
/-- What Message and Signed tell of an object that is canonical. -/
theorem msg_of {l : List (Bs × J)} (h : WF 6 (.obj l)) (hl : (cJ (.obj l)).length ≤ 600) : messageF (cJ (.obj l)) = (bareF l, 0) := by
  unfold messageF
  rw [objectF_obj l h hl]
  rfl
theorem sgn_of {l : List (Bs × J)} (h : WF 6 (.obj l)) (hl : (cJ (.obj l)).length ≤ 600) {sv id sig : Bs} (h1 : validD sv = true) (h2 : validD id = true) (h3 : validD sig = true) : signedF (cJ (.obj l)) sv id sig = (cJ (.obj (signL l sv id sig)), 0) := by
  unfold signedF signedE
  rw [objectF_obj l h hl]
  simp only [h1, h2, h3, Bool.and_self, if_true]
  rfl
theorem bare_doc (s id k : Bs) (till : Int) : bareL (docL s id k till) = docL s id k till := by
  simp [bareL, delK, docL, show ¬ kSrv = kSig by decide, show ¬ kUnt = kSig by decide, show ¬ kVer = kSig by decide, show ¬ kSrv = kUns by decide, show ¬ kUnt = kUns by decide, show ¬ kVer = kUns by decide]
theorem nm_isNm {s : Bs} (h : Nm s) : isNm s = true := by
  unfold isNm
  have := h.one
  have := h.few
  simp
  omega
/-- A signed document of one key is read. -/
theorem doc_read {s id k : Bs} {till : Int} (hs : Nm s) (hi : ∀ c ∈ id, 97 ≤ c.toNat ∧ c.toNat ≤ 122) (hi1 : 1 ≤ id.length) (hil : id.length ≤ 5) (hk : Nm k) (h0 : 0 ≤ till) (h1 : till < 100000) :
    readF (cJ (.obj (signL (docL s id k till) s id (sealF ⟨k.toArray⟩ ⟨(bareF (docL s id k till)).toArray⟩).data.toList))) = .ok (s, till, [⟨id, k, false, till⟩]) := by
  obtain ⟨v1, v2⟩ := seal_ok ⟨k.toArray⟩ ⟨(bareF (docL s id k till)).toArray⟩
  have vi : validD id = true := by
    have := validD_low id [] (fun b hb => by have := hi b hb; omega)
    rwa [List.append_nil] at this
  have hwf := WF_signL _ s id _ (docL_wf hs vi hk h0 h1) hs.valid vi v1
  unfold readF
  rw [objectF_obj _ hwf (len_sdoc hs hi hil hk (by omega) h0 h1)]
  show readO _ = _
  have hb := bare_sign (docL s id k till) s id (sealF ⟨k.toArray⟩ ⟨(bareF (docL s id k till)).toArray⟩).data.toList
  have hd : docF (signL (docL s id k till) s id (sealF ⟨k.toArray⟩ ⟨(bareF (docL s id k till)).toArray⟩).data.toList) = some (s, till, [⟨id, k, false, till⟩]) := by
    have hni : isNm id = true := by unfold isNm; simp; omega
    rw [docL_sign]
    simp [docF, lookK, nameF, strF, momF, keysF, keyF, oldF, joinF, ofL, insK, nm_isNm hs, hni, h0, show ¬ kSrv = kUnt by decide, show ¬ kSig = kUnt by decide, show ¬ kSrv = kVer by decide, show ¬ kSig = kVer by decide, show ¬ kUnt = kVer by decide, show ¬ kSrv = kOld by decide, show ¬ kSig = kOld by decide, show ¬ kUnt = kOld by decide, show ¬ kVer = kOld by decide]
  unfold readO
  rw [hd]
  simp only []
  rw [if_pos]
  simp only [List.all_cons, List.all_nil, Bool.and_true, sgOk, Bool.false_or, hb]
  rw [docL_sign]
  simp [memF, lookK, show ¬ kSrv = kSig by decide]
end Go.Proofs.YtocligpfmfmihabGreatDoor
namespace Go.Proofs.YtocligpfmfmihabGreatDoor
open Go Go.RowKit Go.Maps Go.WideMaps

/-- How great the signed object may be. -/
theorem sign_size {l : List (Bs × J)} {s : Bs} (hp : parse s = some (.obj l)) (hl : s.length ≤ 600) (sv id sig : Bs) (h1 : sv.length ≤ 2000000) (h2 : id.length ≤ 2000000) (h3 : sig.length ≤ 2000000) :
    cnt (.obj (signL l sv id sig)) ≤ 2000 ∧ (cJ (.obj (signL l sv id sig))).length ≤ 90000000 := by
  have hok := parse_ok hp
  have hcl := cnt_le (.obj l)
  simp only [cnt] at hcl ⊢
  have c1 := cntm_child kSig l
  have c2 := cntm_child sv (childF kSig l)
  have i1 := cntm_ins id (.str sig) (childF sv (childF kSig l))
  have i2 := cntm_ins sv (.obj (insK id (.str sig) (childF sv (childF kSig l)))) (childF kSig l)
  have i3 := cntm_ins kSig (.obj (insK sv (.obj (insK id (.str sig) (childF sv (childF kSig l)))) (childF kSig l))) l
  simp only [cnt] at i1 i2 i3
  have t0 := (cJ_tot l).2
  have t1 := tot_child kSig l
  have t2 := tot_child sv (childF kSig l)
  have u1 := tot_ins id (.str sig) (childF sv (childF kSig l))
  have u2 := tot_ins sv (.obj (insK id (.str sig) (childF sv (childF kSig l)))) (childF kSig l)
  have u3 := tot_ins kSig (.obj (insK sv (.obj (insK id (.str sig) (childF sv (childF kSig l)))) (childF kSig l))) l
  have e1 := (cJ_tot (insK id (.str sig) (childF sv (childF kSig l)))).1
  have e2 := (cJ_tot (insK sv (.obj (insK id (.str sig) (childF sv (childF kSig l)))) (childF kSig l))).1
  have e3 := (cJ_tot (signL l sv id sig)).1
  have s1 := cStr_le id
  have s2 := cStr_le sig
  have s3 := cStr_le sv
  have s4 := cStr_le kSig
  have s5 : kSig.length = 10 := rfl
  simp only [cMem, List.length_append, List.length_cons] at u1 u2 u3
  have z : (cJ (.str sig)).length = (cStr sig).length := by rw [cJ]
  rw [z] at u1
  unfold signL at e3 ⊢
  constructor
  · omega
  · omega

set_option maxRecDepth 20000 in
theorem signed_c (W : World) (hN : NG W) (s sv id sig : ByteArray) (h1 : sv.size ≤ 2000000) (h2 : id.size ≤ 2000000) (h3 : sig.size ≤ 2000000) (w : World) (hW : Below W.heap.size W w) :
    Calls Tryz.prog 18 #[.string s, .string sv, .string id, .string sig] w fun e w' => AnsR w (signedF s.data.toList sv.data.toList id.data.toList sig.data.toList) e w' := by
  go_enter Tryz.func18, Tryz.ntmps18
  go_wp2_with fail
  refine (readObject_c W hN s w hW).mono ?_
  rintro e w' ⟨hk, ⟨l, b, hv, rfl, hr⟩ | ⟨n, ev, hv, rfl, he, tt, u, rfl⟩⟩
  · have hb := below_kp hW hk
    obtain ⟨hp, hl⟩ := object_ok hv
    have hok := parse_ok hp
    have hcl := cnt_le (.obj l)
    simp only [cnt] at hcl
    have hcm : cntm l ≤ 1000000 := by omega
    have ho : Oz w' l b := Rep.mono (fun j hj => hj.2) _ hr
    have hz := sign_size hp hl sv.data.toList id.data.toList sig.data.toList (by rw [dlen]; exact h1) (by rw [dlen]; exact h2) (by rw [dlen]; exact h3)
    have H := hide (And.intro ho (And.intro hok.1 (And.intro hk (And.intro hv hz))))
    clear hr hok hp hv hk hcl hz ho
    go_wp2_with fail
    refine (withSig_c W hN w' hb l b H.out.1 H.out.2.1 hcm sv id sig (by omega) (by omega) (by omega)).mono ?_
    rintro e w2 ⟨k2, ⟨hvd, b2, rfl, o2⟩ | ⟨hvd, ev, rfl, he, tt, u, rfl⟩⟩
    · have hb2 := below_kp hb k2
      have H2 := hide (And.intro o2 (And.intro (H.out.2.2.1.trans k2) hvd))
      clear k2 o2 hvd
      have hm : (cnt (.obj (signL l sv.data.toList id.data.toList sig.data.toList)) + 1) * ((cJ (.obj (signL l sv.data.toList id.data.toList sig.data.toList))).length + 2) ≤ 2001 * 90000002 := Nat.mul_le_mul (by have := H.out.2.2.2.2.1; omega) (by have := H.out.2.2.2.2.2; omega)
      have HM := hide (show (cnt (.obj (signL l sv.data.toList id.data.toList sig.data.toList)) + 1) * ((cJ (.obj (signL l sv.data.toList id.data.toList sig.data.toList))).length + 2) ≤ 139000000000000 by omega)
      clear hm
      have hwf : Hid (WF 6 (.obj (signL l sv.data.toList id.data.toList sig.data.toList))) := by
        have hh := H2.out.2.2
        simp only [Bool.and_eq_true] at hh
        exact WF_signL l _ _ _ H.out.2.1 hh.1.1 hh.1.2 hh.2
      go_wp2_with fail
      refine (vcanon_c W hN.gl 6 (.obj (signL l sv.data.toList id.data.toList sig.data.toList)) hwf.out (by have := H.out.2.2.2.2.1; omega) HM.out _ _ w2 hb2 H2.out.1).mono ?_
      rintro e w3 ⟨rfl, hw⟩
      have HK := hide (H2.out.2.1.trans (kp_wr hw))
      clear hw
      go_wp2
      go_ret2
      refine ⟨?_, HK.out⟩
      unfold signedF signedE
      rw [H.out.2.2.2.1]
      simp only [H2.out.2.2]
      rfl
    · have hb2 := below_kp hb k2
      have H2 := hide (And.intro he (And.intro (H.out.2.2.1.trans k2) hvd))
      clear k2 he hvd
      go_wp2_with fail
      refine (errno_c W hN w2 hb2 _ 2 H2.out.1).mono ?_
      rintro e w3 ⟨rfl, hw⟩
      have HK := hide (H2.out.2.1.trans hw)
      clear hw
      go_wp2
      go_ret2
      refine ⟨?_, HK.out⟩
      unfold signedF signedE
      rw [H.out.2.2.2.1]
      simp only [H2.out.2.2]
      rfl
  · have hb := below_kp hW hk
    have H := hide (And.intro he (And.intro hk hv))
    clear he hk hv
    go_wp2_with fail
    refine (errno_c W hN w' hb _ n H.out.1).mono ?_
    rintro e w2 ⟨rfl, hw⟩
    have HK := hide (H.out.2.1.trans hw)
    clear hw
    go_wp2
    go_ret2
    refine ⟨?_, HK.out⟩
    unfold signedF signedE
    rw [H.out.2.2]
    rfl
end Go.Proofs.YtocligpfmfmihabGreatDoor
namespace Go.Proofs.YtocligpfmfmihabGreatDoor
open Go Go.RowKit Go.Maps

set_option maxRecDepth 20000 in
set_option maxHeartbeats 2000000 in
theorem digits_c (w : World) (n : Nat) (hn : n ≤ 9007199254740991) :
    Calls Tryz.prog 17 #[.int .i64 (n : Int)] w fun e w' => e = .returned (.string ⟨(decN n).toArray⟩) ∧ Kp (fun _ => False) w w' := by
  go_enter Tryz.func17, Tryz.ntmps17
  go_wp2_with fail
  go_loopg [0, 3] n (fun g a b wr => ∃ (k : Nat) (o : Bs), g = k ∧ k ≤ n ∧ a = .int .i64 (k : Int) ∧ b = .string ⟨o.toArray⟩ ∧ Kp (fun _ => False) w wr ∧ o.length + k ≤ 9007199254740991 ∧ decN k ++ o = decN n)
  case atStart => exact ⟨n, [], rfl, Nat.le_refl _, rfl, rfl, Kp.refl _ _, by simpa using hn, by simp⟩
  case round =>
    obtain ⟨k, o, hg, hk, rfl, rfl, hw, ho, hE⟩ := hrel
    have hos := mk_size2 o
    have H := hide (And.intro hg hE)
    clear hg hE
    by_cases h9 : 9 < k
    · have h9' : (9 : Int) < (k : Int) := by omega
      obtain ⟨c, hc⟩ : ∃ c, c = UInt8.ofNat (48 + k % 10) := ⟨_, rfl⟩
      have hcv := fun w1 : World => conv_one w1 (48 + (k : Int) % 10) c (by rw [hc, toNat_of _ (by omega)]; omega)
      have HC := hide hc
      clear hc
      go_wp2
      go_roundg (k / 10)
      case measure => rw [H.out.1]; omega
      case rel =>
        refine ⟨k / 10, c :: o, rfl, by omega, int_i64 (by omega), by rw [one_str], hw.alloc _, by simp only [List.length_cons]; omega, ?_⟩
        rw [← H.out.2]
        conv => rhs; rw [decN]
        rw [if_neg (by omega), HC.out]
        simp
    · have h9' : ¬ (9 : Int) < (k : Int) := by omega
      obtain ⟨c, hc⟩ : ∃ c, c = UInt8.ofNat (48 + k) := ⟨_, rfl⟩
      have hcv := fun w1 : World => conv_one w1 (48 + (k : Int)) c (by rw [hc, toNat_of _ (by omega)]; omega)
      have HC := hide hc
      clear hc
      go_wp2
      go_ret
      refine ⟨?_, hw.alloc _⟩
      rw [one_str, ← H.out.2]
      conv => rhs; rw [decN]
      rw [if_pos (by omega), HC.out]
      rfl
set_option maxRecDepth 20000 in
theorem moment_c (w : World) (n : Int) (h0 : -9223372036854775808 ≤ n) (h1 : n ≤ 9223372036854775807) :
    Calls Tryz.prog 7 #[.int .i64 n] w fun e w' => e = .returned (.int .i64 (momS n)) ∧ w' = w := by
  by_cases h : n < 0
  · have HM : Hid (-((n + 1).tmod 10000) = momS n) := by
      unfold momS
      rw [if_pos h, ← Int.neg_tmod, Int.tmod_eq_emod_of_nonneg (by omega)]
      exact hide rfl
    go_enter Tryz.func7, Tryz.ntmps7
    go_wp2
    go_ret
    refine ⟨?_, rfl⟩
    rw [← HM.out]
    rfl
  · have HM : Hid (n % 10000 = momS n) := by
      unfold momS
      rw [if_neg h]
      exact hide rfl
    go_enter Tryz.func7, Tryz.ntmps7
    go_wp2
    go_ret
    refine ⟨?_, rfl⟩
    rw [← HM.out]
    rfl
end Go.Proofs.YtocligpfmfmihabGreatDoor

import Derived.Test.YtocligpfmfmihabGreatDoorRea8G
import Derived.Test.YtocligpfmfmihabGreatDoorSgn2G
import Derived.Test.YtocligpfmfmihabGreatDoorWrt2G
namespace Go.Proofs.YtocligpfmfmihabGreatDoor
open Go Go.Lib

theorem digB_low (m : Int) : (digB m).toNat < 128 := by
  unfold digB
  rw [List.getD_eq_getElem?_getD]
  cases h : ([(48 : UInt8), 49, 50, 51, 52, 53, 54, 55, 56, 57, 97, 98, 99, 100, 101, 102])[(m / 268435456).toNat]? with
  | none => decide
  | some x =>
    have := List.mem_of_getElem? h
    simp only [List.mem_cons, List.not_mem_nil, or_false] at this
    show x.toNat < 128
    rcases this with rfl | rfl | rfl | rfl | rfl | rfl | rfl | rfl | rfl | rfl | rfl | rfl | rfl | rfl | rfl | rfl <;> decide
theorem seal_ok (a b : ByteArray) : validD (sealF a b).data.toList = true ∧ (sealF a b).data.toList.length = 8 := by
  have e : (sealF a b).data.toList = hexL (mixF 2166136261 (a ++ ⟨#[10]⟩ ++ b).data.toList) := by unfold sealF; simp
  rw [e]
  refine ⟨?_, by simp [hexL]⟩
  have := validD_low (hexL (mixF 2166136261 (a ++ ⟨#[10]⟩ ++ b).data.toList)) [] (fun c hc => by
    obtain ⟨k, _, rfl⟩ := List.mem_map.1 hc
    exact digB_low _)
  rwa [List.append_nil] at this
theorem docL_sign (s id k sig : Bs) (till : Int) : signL (docL s id k till) s id sig = [(kSrv, .str s), (kSig, .obj [(s, .obj [(id, .str sig)])]), (kUnt, .num till), (kVer, .obj [(id, .obj [(kKey, .str k)])])] := by
  have h1 : childF kSig (docL s id k till) = [] := by
    unfold childF docL
    have : lookK kSig [(kSrv, J.str s), (kUnt, .num till), (kVer, .obj [(id, .obj [(kKey, .str k)])])] = none := by
      simp [lookK, show ¬ kSrv = kSig by decide, show ¬ kUnt = kSig by decide, show ¬ kVer = kSig by decide]
    rw [this]
  unfold signL
  rw [h1]
  simp [docL, childF, lookK, insK, show ¬ kSig < kSrv by decide, show ¬ kSrv = kSig by decide, show kSig < kUnt by decide]
theorem evL_sign (s b id sig : Bs) (at' : Int) : signL (evL s b at') s id sig = [(kBod, .str b), (kOri, .str s), (kSig, .obj [(s, .obj [(id, .str sig)])]), (kTs, .num at')] := by
  have h1 : childF kSig (evL s b at') = [] := by
    unfold childF evL
    have : lookK kSig [(kBod, J.str b), (kOri, .str s), (kTs, .num at')] = none := by
      simp [lookK, show ¬ kBod = kSig by decide, show ¬ kOri = kSig by decide, show ¬ kTs = kSig by decide]
    rw [this]
  unfold signL
  rw [h1]
  simp [evL, childF, lookK, insK, show ¬ kSig < kBod by decide, show ¬ kBod = kSig by decide, show ¬ kSig < kOri by decide, show ¬ kOri = kSig by decide, show kSig < kTs by decide]
theorem len_doc {s id k : Bs} {till : Int} (hs : Nm s) (hi : ∀ c ∈ id, 97 ≤ c.toNat ∧ c.toNat ≤ 122) (hil : id.length ≤ 5) (hk : Nm k) (h0 : 0 ≤ till) (h1 : till < 100000) : (cJ (.obj (docL s id k till))).length ≤ 150 := by
  rw [docL_text hs hi hk h0]
  have e1 : kSrv.length = 11 := rfl
  have e2 : kUnt.length = 14 := rfl
  have e3 : kVer.length = 11 := rfl
  have e4 : kKey.length = 3 := rfl
  have := hs.few
  have := hk.few
  have := decN_ln (n := till.toNat) (by omega)
  simp only [List.length_cons, List.length_append, e1, e2, e3, e4, List.length_nil]
  omega
theorem len_ev {s b : Bs} {at' : Int} (hs : Nm s) (hb : Nm b) (h0 : 0 ≤ at') (h1 : at' < 100000) : (cJ (.obj (evL s b at'))).length ≤ 100 := by
  rw [evL_text hs hb h0]
  have e1 : kBod.length = 4 := rfl
  have e2 : kOri.length = 6 := rfl
  have e3 : kTs.length = 2 := rfl
  have := hs.few
  have := hb.few
  have := decN_ln (n := at'.toNat) (by omega)
  simp only [List.length_cons, List.length_append, e1, e2, e3, List.length_nil]
  omega
theorem cStr8 {t : Bs} (h : t.length ≤ 8) : (cStr t).length ≤ 50 := by
  have : ∀ l : Bs, (l.flatMap cB).length ≤ 6 * l.length := by
    intro l
    induction l with
    | nil => simp
    | cons c l ih =>
      have : (cB c).length ≤ 6 := by
        unfold cB
        repeat' split
        all_goals simp
      simp only [List.flatMap_cons, List.length_append, List.length_cons]
      omega
  have h1 := this t
  unfold cStr
  simp only [List.length_cons, List.length_append, List.length_nil]
  omega
theorem cStr_six (t : Bs) : (cStr t).length ≤ 6 * t.length + 2 := by
  have : ∀ l : Bs, (l.flatMap cB).length ≤ 6 * l.length := by
    intro l
    induction l with
    | nil => simp
    | cons c l ih =>
      have : (cB c).length ≤ 6 := by
        unfold cB
        repeat' split
        all_goals simp
      simp only [List.flatMap_cons, List.length_append, List.length_cons]
      omega
  have h1 := this t
  unfold cStr
  simp only [List.length_cons, List.length_append, List.length_nil]
  omega
theorem len_sdoc {s id k sig : Bs} {till : Int} (hs : Nm s) (hi : ∀ c ∈ id, 97 ≤ c.toNat ∧ c.toNat ≤ 122) (hil : id.length ≤ 5) (hk : Nm k) (hg : sig.length ≤ 8) (h0 : 0 ≤ till) (h1 : till < 100000) : (cJ (.obj (signL (docL s id k till) s id sig))).length ≤ 600 := by
  have h2 := len_doc hs hi hil hk h0 h1
  have h3 := cStr8 hg
  have h4 := cStr_six s
  have h5 := cStr_six id
  have e0 : (cStr kSig).length = 12 := by decide
  have := hs.few
  rw [docL_sign]
  simp only [docL, cJ, cMs, joinC, List.length_cons, List.length_append, List.length_nil] at h2 ⊢
  omega
theorem len_sev {s b id sig : Bs} {at' : Int} (hs : Nm s) (hil : id.length ≤ 5) (hb : Nm b) (hg : sig.length ≤ 8) (h0 : 0 ≤ at') (h1 : at' < 100000) : (cJ (.obj (signL (evL s b at') s id sig))).length ≤ 600 := by
  have h2 := len_ev hs hb h0 h1
  have h3 := cStr8 hg
  have h4 := cStr_six s
  have h5 := cStr_six id
  have e0 : (cStr kSig).length = 12 := by decide
  have := hs.few
  rw [evL_sign]
  simp only [evL, cJ, cMs, joinC, List.length_cons, List.length_append, List.length_nil] at h2 ⊢
  omega
/-- What Message and Signed tell of an object that is canonical. -/
theorem msg_of {l : List (Bs × J)} (h : WF 6 (.obj l)) (hl : (cJ (.obj l)).length ≤ 600) : messageF (cJ (.obj l)) = (bareF l, 0) := by
  unfold messageF
  rw [objectF_obj l h hl]
  rfl
theorem sgn_of {l : List (Bs × J)} (h : WF 6 (.obj l)) (hl : (cJ (.obj l)).length ≤ 600) {sv id sig : Bs} (h1 : validD sv = true) (h2 : validD id = true) (h3 : validD sig = true) : signedF (cJ (.obj l)) sv id sig = (cJ (.obj (signL l sv id sig)), 0) := by
  unfold signedF signedE
  rw [objectF_obj l h hl]
  simp only [h1, h2, h3, Bool.and_self, if_true]
  rfl
theorem bare_doc (s id k : Bs) (till : Int) : bareL (docL s id k till) = docL s id k till := by
  simp [bareL, delK, docL, show ¬ kSrv = kSig by decide, show ¬ kUnt = kSig by decide, show ¬ kVer = kSig by decide, show ¬ kSrv = kUns by decide, show ¬ kUnt = kUns by decide, show ¬ kVer = kUns by decide]
theorem nm_isNm {s : Bs} (h : Nm s) : isNm s = true := by
  unfold isNm
  have := h.one
  have := h.few
  simp
  omega
/-- A signed document of one key is read. -/
theorem doc_read {s id k : Bs} {till : Int} (hs : Nm s) (hi : ∀ c ∈ id, 97 ≤ c.toNat ∧ c.toNat ≤ 122) (hi1 : 1 ≤ id.length) (hil : id.length ≤ 5) (hk : Nm k) (h0 : 0 ≤ till) (h1 : till < 100000) :
    readF (cJ (.obj (signL (docL s id k till) s id (sealF ⟨k.toArray⟩ ⟨(bareF (docL s id k till)).toArray⟩).data.toList))) = .ok (s, till, [⟨id, k, false, till⟩]) := by
  obtain ⟨v1, v2⟩ := seal_ok ⟨k.toArray⟩ ⟨(bareF (docL s id k till)).toArray⟩
  have vi : validD id = true := by
    have := validD_low id [] (fun b hb => by have := hi b hb; omega)
    rwa [List.append_nil] at this
  have hwf := WF_signL _ s id _ (docL_wf hs vi hk h0 h1) hs.valid vi v1
  unfold readF
  rw [objectF_obj _ hwf (len_sdoc hs hi hil hk (by omega) h0 h1)]
  show readO _ = _
  have hb := bare_sign (docL s id k till) s id (sealF ⟨k.toArray⟩ ⟨(bareF (docL s id k till)).toArray⟩).data.toList
  have hd : docF (signL (docL s id k till) s id (sealF ⟨k.toArray⟩ ⟨(bareF (docL s id k till)).toArray⟩).data.toList) = some (s, till, [⟨id, k, false, till⟩]) := by
    have hni : isNm id = true := by unfold isNm; simp; omega
    rw [docL_sign]
    simp [docF, lookK, nameF, strF, momF, keysF, keyF, oldF, joinF, ofL, insK, nm_isNm hs, hni, h0, show ¬ kSrv = kUnt by decide, show ¬ kSig = kUnt by decide, show ¬ kSrv = kVer by decide, show ¬ kSig = kVer by decide, show ¬ kUnt = kVer by decide, show ¬ kSrv = kOld by decide, show ¬ kSig = kOld by decide, show ¬ kUnt = kOld by decide, show ¬ kVer = kOld by decide]
  unfold readO
  rw [hd]
  simp only []
  rw [if_pos]
  simp only [List.all_cons, List.all_nil, Bool.and_true, sgOk, Bool.false_or, hb]
  rw [docL_sign]
  simp [memF, lookK, show ¬ kSrv = kSig by decide]
/-- A signed event is taken. -/
theorem ev_take {s b id sig : Bs} {at' : Int} (hs : Nm s) (vi : validD id = true) (hil : id.length ≤ 5) (hb : Nm b) (vg : validD sig = true) (hg : sig.length ≤ 8) (h0 : 0 ≤ at') (h1 : at' < 100000) :
    takeF (cJ (.obj (signL (evL s b at') s id sig))) = .ok [⟨s, at', bareF (evL s b at'), [(id, sig)]⟩] := by
  have hwf := WF_signL _ s id _ (evL_wf hs hb h0 h1) hs.valid vi vg
  unfold takeF
  rw [objectF_obj _ hwf (len_sev hs hil hb hg h0 h1)]
  have hbr := bare_sign (evL s b at') s id sig
  have hc : clmF (signL (evL s b at') s id sig) = some [⟨s, at', bareF (evL s b at'), [(id, sig)]⟩] := by
    unfold clmF
    rw [hbr]
    rw [evL_sign]
    simp [srvF, sigF, sgP, childF, lookK, nameF, strF, momF, nm_isNm hs, h0, show ¬ kBod = kOri by decide, show ¬ kBod = kSen by decide, show ¬ kOri = kSen by decide, show ¬ kSig = kSen by decide, show ¬ kTs = kSen by decide, show ¬ kBod = kTs by decide, show ¬ kOri = kTs by decide, show ¬ kSig = kTs by decide, show ¬ kBod = kSig by decide, show ¬ kOri = kSig by decide]
  simp only [hc]
end Go.Proofs.YtocligpfmfmihabGreatDoor
namespace Go.Proofs.YtocligpfmfmihabGreatDoor
open Go Go.Lib

def sFi : Bs := [102, 105, 114, 115, 116]
def sSe : Bs := [115, 101, 99, 111, 110, 100]
def sTh : Bs := [116, 104, 105, 114, 100]
/-- Who is asked with success. -/
def whoF (s : Bs) : Nat → Bs
  | 0 => s
  | 1 => sFi
  | 2 => sSe
  | _ => sTh
/-- The state behind the asking in vain, and behind the document. -/
def fS1 (s : Bs) (t : Int) : Ldg := vainS Ldg.zero s t
def fS2 (s k D : Bs) (t : Int) : Ldg := keptS (updK s (t + 50) (fS1 s t) ⟨kId, k, false, t + 10⟩) s D
theorem src_s {s : Bs} (h : s.head? = some 110) : srcsF s [sFi, sSe, sTh] = [s, sFi, sSe, sTh] := by
  have e1 : sFi ≠ s := by rintro rfl; simp [sFi] at h
  have e2 : sSe ≠ s := by rintro rfl; simp [sSe] at h
  have e3 : sTh ≠ s := by rintro rfl; simp [sTh] at h
  simp [srcsF, e1, e2, e3]
theorem from_fail (who s D src : Bs) (t : Int) (st : Ldg) : fromS [⟨who, s, D, true⟩] t s st src = (false, st) := by
  have : fetF [⟨who, s, D, true⟩] src s = none := by
    unfold fetF
    by_cases h : who = src <;> simp [h]
  unfold fromS
  rw [this]
theorem from_miss {rs : List Rpl} {s src : Bs} (h : ∀ r ∈ rs, r.src ≠ src) (t : Int) (st : Ldg) : fromS rs t s st src = (false, st) := by
  have : fetF rs src s = none := by
    unfold fetF
    rw [List.find?_eq_none.2 (fun r hr => by simp [h r hr])]
    rfl
  unfold fromS
  rw [this]
section
variable {s k m sig e D : Bs} {t : Int}
theorem fS1_may (at' : Int) : mayS (fS1 s t) s kId at' = none := rfl
theorem want0 (ts : Int) (st : Ldg) (h : mayS st s kId ts = none) : wantS st ⟨s, ts, m, [(kId, sig)]⟩ = true := by simp [wantS, hasS, h]
theorem sign8 (ts : Int) (st : Ldg) (h : mayS st s kId ts = none) : signS st ⟨s, ts, m, [(kId, sig)]⟩ = (8, s) := by simp [signS, rightS, okS, wantS, hasS, h]
/-- Asked in vain. -/
theorem fet_one (hs : s.head? = some 110) (ht : takeF e = .ok [⟨s, t, m, [(kId, sig)]⟩]) (who : Bs) : verifyS [⟨who, s, D, true⟩] t [sFi, sSe, sTh] Ldg.zero e = (((8, s), 4), fS1 s t) := by
  have e1 := want0 (m := m) (sig := sig) t Ldg.zero (show mayS Ldg.zero s kId t = none from rfl)
  have e3 : oneS [⟨who, s, D, true⟩] t [sFi, sSe, sTh] Ldg.zero ⟨s, t, m, [(kId, sig)]⟩ = (4, fS1 s t) := by
    unfold oneS
    rw [e1]
    simp [soonS, Ldg.zero, fetchS, src_s hs, askL, from_fail, fS1]
  have e4 := sign8 (m := m) (sig := sig) t (fS1 s t) (fS1_may t)
  unfold verifyS
  rw [ht]
  simp [verL, e3, e4]
/-- Too soon. -/
theorem fet_two (ht : takeF e = .ok [⟨s, t, m, [(kId, sig)]⟩]) (rs : List Rpl) : verifyS rs (t + 49) [sFi, sSe, sTh] (fS1 s t) e = (((8, s), 0), fS1 s t) := by
  have e2 : soonS (fS1 s t) s (t + 49) = true := by
    unfold soonS fS1 vainS
    simp
  have e3 : oneS rs (t + 49) [sFi, sSe, sTh] (fS1 s t) ⟨s, t, m, [(kId, sig)]⟩ = (0, fS1 s t) := by
    unfold oneS
    simp only [e2, Bool.not_true, Bool.and_false, Bool.false_eq_true, if_false]
  have e4 := sign8 (m := m) (sig := sig) t (fS1 s t) (fS1_may t)
  unfold verifyS
  rw [ht]
  simp [verL, e3, e4]
theorem fS2_may (h1 : t < 10000) : mayS (fS2 s k D t) s kId t = some k := by
  have hc : capF (t + 50) = t + 50 + 1000 := by unfold capF; rw [if_neg (by omega)]
  have hm : ¬ min (t + 10) (t + 50 + 1000) < t := by omega
  simp [mayS, fS2, keptS, updK, fS1, vainS, Ldg.zero, tillF, hc, hm]
theorem from_hit (hr : readF D = .ok (s, t + 10, [⟨kId, k, false, t + 10⟩])) (who : Bs) (l : List Rpl) : fromS (⟨who, s, D, false⟩ :: l) (t + 50) s (fS1 s t) who = (true, fS2 s k D t) := by
  have : fetF (⟨who, s, D, false⟩ :: l) who s = some D := by simp [fetF]
  have ht : takeS (fS1 s t) s [⟨kId, k, false, t + 10⟩] D (t + 50) = (0, fS2 s k D t) := by
    simp [takeS, confF, cnfK, fS1, vainS, Ldg.zero, fS2]
  unfold fromS
  rw [this]
  simp only [hr, if_true, ht]
  rfl
theorem right2 (h1 : t < 10000) (hg : sig = (sealF ⟨k.toArray⟩ ⟨m.toArray⟩).data.toList) : hasS (fS2 s k D t) ⟨s, t, m, [(kId, sig)]⟩ = true ∧ signS (fS2 s k D t) ⟨s, t, m, [(kId, sig)]⟩ = (0, []) := by
  have h := fS2_may (s := s) (k := k) (D := D) h1
  refine ⟨by simp [hasS, h], ?_⟩
  simp [signS, rightS, okS, h, hg]
/-- Asked with success. -/
theorem fet_three (hs : s.head? = some 110) (h1 : t < 10000) (ht : takeF e = .ok [⟨s, t, m, [(kId, sig)]⟩]) (hr : readF D = .ok (s, t + 10, [⟨kId, k, false, t + 10⟩])) (hg : sig = (sealF ⟨k.toArray⟩ ⟨m.toArray⟩).data.toList) (n : Nat) (hn : n < 4) :
    verifyS [⟨whoF s n, s, D, false⟩, ⟨sTh, s, D, false⟩] (t + 50) [sFi, sSe, sTh] (fS1 s t) e = (((0, []), n + 1), fS2 s k D t) := by
  have e1 := want0 (m := m) (sig := sig) t (fS1 s t) (fS1_may t)
  have e2 : soonS (fS1 s t) s (t + 50) = false := by
    unfold soonS fS1 vainS
    simp
  obtain ⟨g1, g2⟩ := right2 (s := s) (k := k) (D := D) (m := m) h1 hg
  have a1 : sFi ≠ s := by rintro rfl; simp [sFi] at hs
  have a2 : sSe ≠ s := by rintro rfl; simp [sSe] at hs
  have a3 : sTh ≠ s := by rintro rfl; simp [sTh] at hs
  have b1 : sFi ≠ sSe := by decide
  have b2 : sFi ≠ sTh := by decide
  have b3 : sSe ≠ sTh := by decide
  have hh := from_hit (k := k) hr (whoF s n) [⟨sTh, s, D, false⟩]
  have e3 : oneS [⟨whoF s n, s, D, false⟩, ⟨sTh, s, D, false⟩] (t + 50) [sFi, sSe, sTh] (fS1 s t) ⟨s, t, m, [(kId, sig)]⟩ = (n + 1, fS2 s k D t) := by
    have hf : ∀ src, src ≠ whoF s n → src ≠ sTh → fromS [⟨whoF s n, s, D, false⟩, ⟨sTh, s, D, false⟩] (t + 50) s (fS1 s t) src = (false, fS1 s t) := fun src p q => from_miss (by
      intro r hr
      simp only [List.mem_cons, List.not_mem_nil, or_false] at hr
      rcases hr with rfl | rfl
      · exact p.symm
      · exact q.symm) _ _
    have hask : askL [⟨whoF s n, s, D, false⟩, ⟨sTh, s, D, false⟩] (t + 50) ⟨s, t, m, [(kId, sig)]⟩ (fS1 s t) [s, sFi, sSe, sTh] 0 = (n + 1, true, fS2 s k D t) := by
      match n, hn with
      | 0, _ => simp [askL, whoF] at hh ⊢; simp [hh, g1]
      | 1, _ =>
        have f0 := hf s a1.symm a3.symm
        simp only [whoF] at hh f0 ⊢
        simp [askL, hh, f0, g1]
      | 2, _ =>
        have f0 := hf s a2.symm a3.symm
        have f1 := hf sFi b1 b2
        simp only [whoF] at hh f0 f1 ⊢
        simp [askL, hh, f0, f1, g1]
      | 3, _ =>
        have f0 := hf s a3.symm a3.symm
        have f1 := hf sFi b2 b2
        have f2 := hf sSe b3 b3
        simp only [whoF] at hh f0 f1 f2 ⊢
        simp [askL, hh, f0, f1, f2, g1]
    unfold oneS
    rw [e1]
    simp [e2, fetchS, src_s hs, hask]
  unfold verifyS
  rw [ht]
  simp [verL, e3, g2]
/-- Known. -/
theorem fet_four (h1 : t < 10000) (ht : takeF e = .ok [⟨s, t, m, [(kId, sig)]⟩]) (hg : sig = (sealF ⟨k.toArray⟩ ⟨m.toArray⟩).data.toList) :
    verifyS [] t [sFi, sSe, sTh] (fS2 s k D t) e = (((0, []), 0), fS2 s k D t) := by
  obtain ⟨g1, g2⟩ := right2 (s := s) (k := k) (D := D) (m := m) h1 hg
  have e3 : oneS [] t [sFi, sSe, sTh] (fS2 s k D t) ⟨s, t, m, [(kId, sig)]⟩ = (0, fS2 s k D t) := by
    unfold oneS
    simp [wantS, g1]
  unfold verifyS
  rw [ht]
  simp [verL, e3, g2]
end
end Go.Proofs.YtocligpfmfmihabGreatDoor
namespace Go.Proofs.YtocligpfmfmihabGreatDoor
open Go Go.RowKit Go.Maps Go.WideMaps

/-- How great the signed object may be. -/
theorem sign_size {l : List (Bs × J)} {s : Bs} (hp : parse s = some (.obj l)) (hl : s.length ≤ 600) (sv id sig : Bs) (h1 : sv.length ≤ 2000000) (h2 : id.length ≤ 2000000) (h3 : sig.length ≤ 2000000) :
    cnt (.obj (signL l sv id sig)) ≤ 2000 ∧ (cJ (.obj (signL l sv id sig))).length ≤ 90000000 := by
  have hok := parse_ok hp
  have hcl := cnt_le (.obj l)
  simp only [cnt] at hcl ⊢
  have c1 := cntm_child kSig l
  have c2 := cntm_child sv (childF kSig l)
  have i1 := cntm_ins id (.str sig) (childF sv (childF kSig l))
  have i2 := cntm_ins sv (.obj (insK id (.str sig) (childF sv (childF kSig l)))) (childF kSig l)
  have i3 := cntm_ins kSig (.obj (insK sv (.obj (insK id (.str sig) (childF sv (childF kSig l)))) (childF kSig l))) l
  simp only [cnt] at i1 i2 i3
  have t0 := (cJ_tot l).2
  have t1 := tot_child kSig l
  have t2 := tot_child sv (childF kSig l)
  have u1 := tot_ins id (.str sig) (childF sv (childF kSig l))
  have u2 := tot_ins sv (.obj (insK id (.str sig) (childF sv (childF kSig l)))) (childF kSig l)
  have u3 := tot_ins kSig (.obj (insK sv (.obj (insK id (.str sig) (childF sv (childF kSig l)))) (childF kSig l))) l
  have e1 := (cJ_tot (insK id (.str sig) (childF sv (childF kSig l)))).1
  have e2 := (cJ_tot (insK sv (.obj (insK id (.str sig) (childF sv (childF kSig l)))) (childF kSig l))).1
  have e3 := (cJ_tot (signL l sv id sig)).1
  have s1 := cStr_le id
  have s2 := cStr_le sig
  have s3 := cStr_le sv
  have s4 := cStr_le kSig
  have s5 : kSig.length = 10 := rfl
  simp only [cMem, List.length_append, List.length_cons] at u1 u2 u3
  have z : (cJ (.str sig)).length = (cStr sig).length := by rw [cJ]
  rw [z] at u1
  unfold signL at e3 ⊢
  constructor
  · omega
  · omega

set_option maxRecDepth 20000 in
theorem signed_c (W : World) (hN : NG W) (s sv id sig : ByteArray) (h1 : sv.size ≤ 2000000) (h2 : id.size ≤ 2000000) (h3 : sig.size ≤ 2000000) (w : World) (hW : Below W.heap.size W w) :
    Calls Tryz.prog 18 #[.string s, .string sv, .string id, .string sig] w fun e w' => AnsR w (signedF s.data.toList sv.data.toList id.data.toList sig.data.toList) e w' := by
  go_enter Tryz.func18, Tryz.ntmps18
  go_wp2_with fail
  refine (readObject_c W hN s w hW).mono ?_
  rintro e w' ⟨hk, ⟨l, b, hv, rfl, hr⟩ | ⟨n, ev, hv, rfl, he, tt, u, rfl⟩⟩
  · have hb := below_kp hW hk
    obtain ⟨hp, hl⟩ := object_ok hv
    have hok := parse_ok hp
    have hcl := cnt_le (.obj l)
    simp only [cnt] at hcl
    have hcm : cntm l ≤ 1000000 := by omega
    have ho : Oz w' l b := Rep.mono (fun j hj => hj.2) _ hr
    have hz := sign_size hp hl sv.data.toList id.data.toList sig.data.toList (by rw [dlen]; exact h1) (by rw [dlen]; exact h2) (by rw [dlen]; exact h3)
    have H := hide (And.intro ho (And.intro hok.1 (And.intro hk (And.intro hv hz))))
    clear hr hok hp hv hk hcl hz ho
    go_wp2_with fail
    refine (withSig_c W hN w' hb l b H.out.1 H.out.2.1 hcm sv id sig (by omega) (by omega) (by omega)).mono ?_
    rintro e w2 ⟨k2, ⟨hvd, b2, rfl, o2⟩ | ⟨hvd, ev, rfl, he, tt, u, rfl⟩⟩
    · have hb2 := below_kp hb k2
      have H2 := hide (And.intro o2 (And.intro (H.out.2.2.1.trans k2) hvd))
      clear k2 o2 hvd
      have hm : (cnt (.obj (signL l sv.data.toList id.data.toList sig.data.toList)) + 1) * ((cJ (.obj (signL l sv.data.toList id.data.toList sig.data.toList))).length + 2) ≤ 2001 * 90000002 := Nat.mul_le_mul (by have := H.out.2.2.2.2.1; omega) (by have := H.out.2.2.2.2.2; omega)
      have HM := hide (show (cnt (.obj (signL l sv.data.toList id.data.toList sig.data.toList)) + 1) * ((cJ (.obj (signL l sv.data.toList id.data.toList sig.data.toList))).length + 2) ≤ 139000000000000 by omega)
      clear hm
      have hwf : Hid (WF 6 (.obj (signL l sv.data.toList id.data.toList sig.data.toList))) := by
        have hh := H2.out.2.2
        simp only [Bool.and_eq_true] at hh
        exact WF_signL l _ _ _ H.out.2.1 hh.1.1 hh.1.2 hh.2
      go_wp2_with fail
      refine (vcanon_c W hN.gl 6 (.obj (signL l sv.data.toList id.data.toList sig.data.toList)) hwf.out (by have := H.out.2.2.2.2.1; omega) HM.out _ _ w2 hb2 H2.out.1).mono ?_
      rintro e w3 ⟨rfl, hw⟩
      have HK := hide (H2.out.2.1.trans (kp_wr hw))
      clear hw
      go_wp2
      go_ret2
      refine ⟨?_, HK.out⟩
      unfold signedF signedE
      rw [H.out.2.2.2.1]
      simp only [H2.out.2.2]
      rfl
    · have hb2 := below_kp hb k2
      have H2 := hide (And.intro he (And.intro (H.out.2.2.1.trans k2) hvd))
      clear k2 he hvd
      go_wp2_with fail
      refine (errno_c W hN w2 hb2 _ 2 H2.out.1).mono ?_
      rintro e w3 ⟨rfl, hw⟩
      have HK := hide (H2.out.2.1.trans hw)
      clear hw
      go_wp2
      go_ret2
      refine ⟨?_, HK.out⟩
      unfold signedF signedE
      rw [H.out.2.2.2.1]
      simp only [H2.out.2.2]
      rfl
  · have hb := below_kp hW hk
    have H := hide (And.intro he (And.intro hk hv))
    clear he hk hv
    go_wp2_with fail
    refine (errno_c W hN w' hb _ n H.out.1).mono ?_
    rintro e w2 ⟨rfl, hw⟩
    have HK := hide (H.out.2.1.trans hw)
    clear hw
    go_wp2
    go_ret2
    refine ⟨?_, HK.out⟩
    unfold signedF signedE
    rw [H.out.2.2]
    rfl
end Go.Proofs.YtocligpfmfmihabGreatDoor
namespace Go.Proofs.YtocligpfmfmihabGreatDoor
open Go Go.RowKit Go.Maps

theorem isLw_yes {c : UInt8} (h : 97 ≤ c.toNat) (h' : c.toNat ≤ 122) : isLw c = true := by
  unfold isLw
  rw [decide_eq_true h, decide_eq_true h']
  rfl
theorem isLw_no {c : UInt8} (h : c.toNat < 97 ∨ 122 < c.toNat) : isLw c = false := by
  unfold isLw
  rcases h with h | h
  · rw [decide_eq_false (by omega)]
    rfl
  · rw [decide_eq_false (p := c.toNat ≤ 122) (by omega), Bool.and_false]
theorem pl_end {s o : Bs} {k : Nat} (ho : o = 110 :: (s.take k).filter isLw) (hl : o.length ≤ 9) (h : 9 ≤ o.length ∨ s.length ≤ k) : o = plF s := by
  subst ho
  unfold plF
  simp only [List.length_cons] at hl h
  congr 1
  rcases h with h | h
  · have h8 : 8 ≤ ((s.take k).filter isLw).length := by omega
    have h8' : ((s.take k).filter isLw).length ≤ 8 := by omega
    have e : s.filter isLw = (s.take k).filter isLw ++ (s.drop k).filter isLw := by rw [← List.filter_append, List.take_append_drop]
    rw [e, List.take_append_of_le_length h8, List.take_of_length_le h8']
  · rw [List.take_of_length_le h] at hl ⊢
    rw [List.take_of_length_le (by omega)]
set_option maxRecDepth 20000 in
set_option maxHeartbeats 2000000 in
theorem plain_c (w : World) (s : ByteArray) (hs : s.size ≤ 9223372036854775807) :
    Calls Tryz.prog 6 #[.string s] w fun e w' => e = .returned (.string ⟨(plF s.data.toList).toArray⟩) ∧ w' = w := by
  go_enter Tryz.func6, Tryz.ntmps6
  go_wp2_with fail
  go_loopg [3, 4] s.size (fun g a b wr => ∃ (k : Nat) (o : Bs), g = s.size - k ∧ k ≤ s.size ∧ a = .string ⟨o.toArray⟩ ∧ b = .int .i64 (k : Int) ∧ wr = w ∧ o = 110 :: (s.data.toList.take k).filter isLw ∧ o.length ≤ 9)
  case atStart => exact ⟨0, [110], rfl, Nat.zero_le _, rfl, rfl, rfl, by simp, by simp⟩
  case round =>
    obtain ⟨k, o, hg, hk, rfl, rfl, rfl, ho, hl⟩ := hrel
    have hos := mk_size2 o
    have H := hide (And.intro hg ho)
    clear hg ho
    by_cases hlt : k < s.size
    · by_cases h9 : o.length < 9
      · have HT := hide (take_snoc s k hlt)
        have HX := hide (ext_one hlt)
        by_cases ha : (97 : Int) ≤ (s[k].toNat : Int)
        · by_cases hz : (s[k].toNat : Int) ≤ 122
          · have HL : Hid (isLw s[k] = true) := hide (isLw_yes (by omega) (by omega))
            go_wp2
            go_roundg (s.size - (k + 1))
            case measure => rw [H.out.1]; omega
            case rel =>
              refine ⟨k + 1, o ++ [s[k]], rfl, by omega, ?_, rfl, rfl, ?_, by simp only [List.length_append, List.length_cons, List.length_nil]; omega⟩
              · rw [HX.out]
                congr 1
              · rw [HT.out, List.filter_append, List.filter_cons_of_pos HL.out, H.out.2]
                rfl
          · have HL : Hid (isLw s[k] = false) := hide (isLw_no (Or.inr (by omega)))
            go_wp2
            go_roundg (s.size - (k + 1))
            case measure => rw [H.out.1]; omega
            case rel =>
              refine ⟨k + 1, o, rfl, by omega, rfl, rfl, rfl, ?_, hl⟩
              rw [HT.out, List.filter_append, List.filter_cons_of_neg (by rw [HL.out]; simp), H.out.2]
              simp
        · have HL : Hid (isLw s[k] = false) := hide (isLw_no (Or.inl (by omega)))
          go_wp2
          go_roundg (s.size - (k + 1))
          case measure => rw [H.out.1]; omega
          case rel =>
            refine ⟨k + 1, o, rfl, by omega, rfl, rfl, rfl, ?_, hl⟩
            rw [HT.out, List.filter_append, List.filter_cons_of_neg (by rw [HL.out]; simp), H.out.2]
            simp
      · go_wp2
        go_ret
        refine ⟨?_, rfl⟩
        show Ending.returned (.string ⟨o.toArray⟩) = _
        rw [pl_end H.out.2 hl (Or.inl (by omega))]
    · go_wp2
      go_ret
      refine ⟨?_, rfl⟩
      show Ending.returned (.string ⟨o.toArray⟩) = _
      rw [pl_end H.out.2 hl (Or.inr (by rw [Array.length_toList]; exact Nat.not_lt.1 hlt))]
set_option maxRecDepth 20000 in
set_option maxHeartbeats 2000000 in
theorem digits_c (w : World) (n : Nat) (hn : n ≤ 9007199254740991) :
    Calls Tryz.prog 17 #[.int .i64 (n : Int)] w fun e w' => e = .returned (.string ⟨(decN n).toArray⟩) ∧ Kp (fun _ => False) w w' := by
  go_enter Tryz.func17, Tryz.ntmps17
  go_wp2_with fail
  go_loopg [0, 3] n (fun g a b wr => ∃ (k : Nat) (o : Bs), g = k ∧ k ≤ n ∧ a = .int .i64 (k : Int) ∧ b = .string ⟨o.toArray⟩ ∧ Kp (fun _ => False) w wr ∧ o.length + k ≤ 9007199254740991 ∧ decN k ++ o = decN n)
  case atStart => exact ⟨n, [], rfl, Nat.le_refl _, rfl, rfl, Kp.refl _ _, by simpa using hn, by simp⟩
  case round =>
    obtain ⟨k, o, hg, hk, rfl, rfl, hw, ho, hE⟩ := hrel
    have hos := mk_size2 o
    have H := hide (And.intro hg hE)
    clear hg hE
    by_cases h9 : 9 < k
    · have h9' : (9 : Int) < (k : Int) := by omega
      obtain ⟨c, hc⟩ : ∃ c, c = UInt8.ofNat (48 + k % 10) := ⟨_, rfl⟩
      have hcv := fun w1 : World => conv_one w1 (48 + (k : Int) % 10) c (by rw [hc, toNat_of _ (by omega)]; omega)
      have HC := hide hc
      clear hc
      go_wp2
      go_roundg (k / 10)
      case measure => rw [H.out.1]; omega
      case rel =>
        refine ⟨k / 10, c :: o, rfl, by omega, int_i64 (by omega), by rw [one_str], hw.alloc _, by simp only [List.length_cons]; omega, ?_⟩
        rw [← H.out.2]
        conv => rhs; rw [decN]
        rw [if_neg (by omega), HC.out]
        simp
    · have h9' : ¬ (9 : Int) < (k : Int) := by omega
      obtain ⟨c, hc⟩ : ∃ c, c = UInt8.ofNat (48 + k) := ⟨_, rfl⟩
      have hcv := fun w1 : World => conv_one w1 (48 + (k : Int)) c (by rw [hc, toNat_of _ (by omega)]; omega)
      have HC := hide hc
      clear hc
      go_wp2
      go_ret
      refine ⟨?_, hw.alloc _⟩
      rw [one_str, ← H.out.2]
      conv => rhs; rw [decN]
      rw [if_pos (by omega), HC.out]
      rfl
set_option maxRecDepth 20000 in
theorem moment_c (w : World) (n : Int) (h0 : -9223372036854775808 ≤ n) (h1 : n ≤ 9223372036854775807) :
    Calls Tryz.prog 7 #[.int .i64 n] w fun e w' => e = .returned (.int .i64 (momS n)) ∧ w' = w := by
  by_cases h : n < 0
  · have HM : Hid (-((n + 1).tmod 10000) = momS n) := by
      unfold momS
      rw [if_pos h, ← Int.neg_tmod, Int.tmod_eq_emod_of_nonneg (by omega)]
      exact hide rfl
    go_enter Tryz.func7, Tryz.ntmps7
    go_wp2
    go_ret
    refine ⟨?_, rfl⟩
    rw [← HM.out]
    rfl
  · have HM : Hid (n % 10000 = momS n) := by
      unfold momS
      rw [if_neg h]
      exact hide rfl
    go_enter Tryz.func7, Tryz.ntmps7
    go_wp2
    go_ret
    refine ⟨?_, rfl⟩
    rw [← HM.out]
    rfl
end Go.Proofs.YtocligpfmfmihabGreatDoor

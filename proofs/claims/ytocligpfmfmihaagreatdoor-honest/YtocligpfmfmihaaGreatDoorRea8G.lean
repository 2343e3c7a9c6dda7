import Derived.Test.YtocligpfmfmihaaGreatDoorRea4G
import Derived.Test.YtocligpfmfmihaaGreatDoorMapsG
import Derived.Test.YtocligpfmfmihaaGreatDoorRef9G
namespace Go.Proofs.YtocligpfmfmihaaGreatDoor
open Go Go.RowKit Go.Maps
def sgOk (l : List (Bs × J)) (s : Bs) (k : Ky) : Bool :=
 k.old || match memF k.id (memF s (memF kSig (some (.obj l)))) with | some (.str t) => decide (t = (sealF ⟨k.key.toArray⟩ ⟨(bareF l).toArray⟩).data.toList) | _ => false
def readO (l : List (Bs × J)) : Except Nat (Bs × Int × List Ky) :=
 match docF l with
 | none => .error 4
 | some (s, u, ks) => if ks.all (sgOk l s) then .ok (s, u, ks) else .error 5
def readF (t : Bs) : Except Nat (Bs × Int × List Ky) := match objectF t with | .error n => .error n | .ok l => readO l
end Go.Proofs.YtocligpfmfmihaaGreatDoor
namespace Go.Proofs.YtocligpfmfmihaaGreatDoor
open Go Go.RowKit Go.Maps
theorem mem_obj_len {l : List (Bs × J)} {a : Bs} {j : J} (h : (a, j) ∈ l) : (cJ j).length ≤ (cJ (.obj l)).length := by
 have := (joinC_le (l.map cMem) 0).2 (cMem (a, j)) (List.mem_map.2 ⟨_, h, rfl⟩)
 rw [cJ_obj]
 simp only [cMem, List.length_append, List.length_cons, List.length_nil] at this ⊢
 omega
theorem keyF_len {old : Bool} {till : Int} {id : Bs} {j : J} {k : Ky} (h : keyF old till id j = some k) : k.key.length ≤ (cJ j).length := by
 rw [keyF_parts] at h
 split at h
 ·simp only [Option.bind_eq_some_iff] at h
  obtain ⟨t, h1, h2⟩ := h
  have hk : k.key = t := by
   split at h2
   ·simp only [Option.map_eq_some_iff] at h2
    obtain ⟨_, _, rfl⟩ := h2
    rfl
   ·simp only [Option.some.injEq] at h2
    subst h2
    rfl
  cases j with
  | obj m =>
   simp only [memF] at h1
   unfold strF at h1
   split at h1
   ·rename_i q hq
    injection h1 with h1
    subst h1
    have h3 := child_len hq
    have h4 := cStr_geq q
    rw [cJ] at h3
    rw [hk]
    omega
   ·cases h1
  | _ => cases h1
 ·cases h
theorem keysF_len {old : Bool} {till : Int} : ∀ {l : List (Bs × J)} {r : List Ky}, keysF old till l = some r → ∀ k ∈ r, k.key.length ≤ (cJ (.obj l)).length
 | [], r, h, k, hk => by
  simp only [keysF, Option.some.injEq] at h
  subst h
  cases hk
 | (id, j) :: l, r, h, k, hk => by
  simp only [keysF, Option.bind_eq_some_iff, Option.map_eq_some_iff] at h
  obtain ⟨q, hq, r', hr, rfl⟩ := h
  rcases List.mem_cons.1 hk with rfl | hk
  ·exact Nat.le_trans (keyF_len hq) (mem_obj_len (List.mem_cons_self))
  ·have h1 := keysF_len hr k hk
   refine Nat.le_trans h1 ?_
   have h2 := joinC_len cMem l
   have h3 := joinC_len cMem ((id, j) :: l)
   rw [if_neg (by simp)] at h3
   have h4 : sumM cMem ((id, j) :: l) = (cMem (id, j)).length + 1 + sumM cMem l := by simp [sumM]
   rw [cJ_obj, cJ_obj]
   simp only [List.length_cons, List.length_append, List.length_nil]
   split at h2 <;> omega
theorem docF_len {l : List (Bs × J)} {s : Bs} {u : Int} {ks : List Ky} (h : docF l = some (s, u, ks)) : ∀ k ∈ ks, k.key.length ≤ (cJ (.obj l)).length := by
 unfold docF at h
 simp only [Option.bind_eq_some_iff] at h
 obtain ⟨_, _, _, _, h⟩ := h
 split at h
 ·rename_i m hm
  split at h
  ·simp only [Option.bind_eq_some_iff, Option.map_eq_some_iff, Prod.mk.injEq] at h
   obtain ⟨a, ha, b, hb, q, hq, rfl, rfl, rfl⟩ := h
   intro k hk
   have hkab : k ∈ a ++ b := by
    unfold joinF at hq
    split at hq
    ·injection hq with hq
     subst hq
     obtain ⟨p, hp, rfl⟩ := List.mem_map.1 hk
     obtain ⟨k2, hk2, rfl⟩ := List.mem_map.1 (mem_ofL hp)
     exact hk2
    ·cases hq
   rcases List.mem_append.1 hkab with hka | hkb
   ·exact Nat.le_trans (keysF_len ha k hka) (child_len hm)
   ·unfold oldF at hb
    split at hb
    ·injection hb with hb
     subst hb
     cases hkb
    ·rename_i m2 hm2
     exact Nat.le_trans (keysF_len hb k hkb) (child_len hm2)
    ·cases hb
  ·cases h
 ·cases h
end Go.Proofs.YtocligpfmfmihaaGreatDoor
namespace Go.Proofs.YtocligpfmfmihaaGreatDoor
structure Ldg where
 keys : Bs → Bs → Option (Bs × Int)
 docs : Bs → Option Bs
 asked : Bs → Option Int
def Ldg.zero : Ldg := ⟨fun _ _ => none, fun _ => none, fun _ => none⟩
def capF (now : Int) : Int := if 9223372036854774807 < now then 9223372036854775807 else now + 1000
def tillF (now : Int) (k : Ky) : Int := if k.old then k.till else min k.till (capF now)
def updK (sn : Bs) (now : Int) (st : Ldg) (k : Ky) : Ldg :=
 { st with keys := fun s i => if s = sn ∧ i = k.id then some (k.key, match st.keys sn k.id with | some p => max (tillF now k) p.2 | none => tillF now k) else st.keys s i }
def cnfK (st : Ldg) (sn : Bs) (k : Ky) : Bool := match st.keys sn k.id with | some p => decide (p.1 ≠ k.key) | none => false
def confF (st : Ldg) (sn : Bs) (ks : List Ky) : Bool := ks.any (cnfK st sn)
def keptS (st : Ldg) (sn text : Bs) : Ldg := { st with docs := fun s => if s = sn then some text else st.docs s }
def takeS (st : Ldg) (sn : Bs) (ks : List Ky) (text : Bs) (now : Int) : Nat × Ldg := if confF st sn ks then (6, st) else (0, keptS (ks.foldl (updK sn now) st) sn text)
def learnS (st : Ldg) (text : Bs) (now : Int) : Nat × Ldg := match readF text with | .error n => (n, st) | .ok (sn, _, ks) => takeS st sn ks text now
def mayS (st : Ldg) (s i : Bs) (at' : Int) : Option Bs := (st.keys s i).bind fun p => if p.2 < at' then none else some p.1
theorem updK_docs (sn : Bs) (now : Int) (st : Ldg) (k : Ky) : (updK sn now st k).docs = st.docs := rfl
theorem updK_asked (sn : Bs) (now : Int) (st : Ldg) (k : Ky) : (updK sn now st k).asked = st.asked := rfl
theorem updK_other (sn : Bs) (now : Int) (st : Ldg) (k : Ky) (s i : Bs) (h : ¬ (s = sn ∧ i = k.id)) : (updK sn now st k).keys s i = st.keys s i := if_neg h
theorem fold_docs (sn : Bs) (now : Int) (ks : List Ky) : ∀ st : Ldg, (ks.foldl (updK sn now) st).docs = st.docs := by
 induction ks with
 | nil => intro st; rfl
 | cons k ks ih => intro st; rw [List.foldl_cons, ih, updK_docs]
theorem fold_asked (sn : Bs) (now : Int) (ks : List Ky) : ∀ st : Ldg, (ks.foldl (updK sn now) st).asked = st.asked := by
 induction ks with
 | nil => intro st; rfl
 | cons k ks ih => intro st; rw [List.foldl_cons, ih, updK_asked]
theorem fold_other (sn : Bs) (now : Int) (ks : List Ky) (s : Bs) (h : s ≠ sn) : ∀ (st : Ldg) (i : Bs), (ks.foldl (updK sn now) st).keys s i = st.keys s i := by
 induction ks with
 | nil => intro st i; rfl
 | cons k ks ih => intro st i; rw [List.foldl_cons, ih, updK_other _ _ _ _ _ _ (fun e => h e.1)]
theorem take_succ {α : Type} {l : List α} {i : Nat} {x : α} (h : l[i]? = some x) : l.take (i + 1) = l.take i ++ [x] := by
 have hi : i < l.length := by
  rcases Nat.lt_or_ge i l.length with h' | h'
  ·exact h'
  ·rw [List.getElem?_eq_none h'] at h; cases h
 rw [List.take_succ_eq_append_getElem hi]
 rw [List.getElem?_eq_getElem hi] at h
 injection h with h
 rw [h]
end Go.Proofs.YtocligpfmfmihaaGreatDoor
namespace Go.Proofs.YtocligpfmfmihaaGreatDoor
def kOri : Bs := [111, 114, 105, 103, 105, 110]
def kSen : Bs := [115, 101, 110, 100, 101, 114]
def kTs : Bs := [116, 115]
def srvF (l : List (Bs × J)) : Option (List Bs) :=
 (nameF (lookK kOri l)).bind fun o => match lookK kSen l with | none => some [o] | some j => (nameF (some j)).map fun s => if s = o then [o] else [o, s]
def sgP (p : Bs × J) : Option (Bs × Bs) := match p.2 with | .str t => some (p.1, t) | _ => none
def sigF (l : List (Bs × J)) (s : Bs) : List (Bs × Bs) := (childF s (childF kSig l)).filterMap sgP
structure Clm where
 server : Bs
 ts : Int
 msg : Bs
 sigs : List (Bs × Bs)
def clmF (l : List (Bs × J)) : Option (List Clm) := (srvF l).bind fun ss => (momF (lookK kTs l)).map fun t => ss.map fun s => ⟨s, t, bareF l, sigF l s⟩
def takeF (text : Bs) : Except Nat (List Clm) := match objectF text with | .error n => .error n | .ok l => match clmF l with | none => .error 7 | some cs => .ok cs
def hasS (st : Ldg) (c : Clm) : Bool := c.sigs.any fun p => (mayS st c.server p.1 c.ts).isSome
def wantS (st : Ldg) (c : Clm) : Bool := decide (0 < c.sigs.length) && !hasS st c
def okS (st : Ldg) (c : Clm) (p : Bs × Bs) : Bool := match mayS st c.server p.1 c.ts with | some k => decide (p.2 = (sealF ⟨k.toArray⟩ ⟨c.msg.toArray⟩).data.toList) | none => false
theorem okS_none {st : Ldg} {c : Clm} {p : Bs × Bs} (h : mayS st c.server p.1 c.ts = none) : okS st c p = false := by unfold okS; rw [h]
theorem okS_some {st : Ldg} {c : Clm} {p : Bs × Bs} {k tl : Bs} (h : mayS st c.server p.1 c.ts = some k) (ht : sealF ⟨k.toArray⟩ ⟨c.msg.toArray⟩ = ⟨tl.toArray⟩) : okS st c p = decide (p.2 = tl) := by
 unfold okS
 rw [h]
 simp only [ht]
def rightS (st : Ldg) (c : Clm) : Bool := c.sigs.any (okS st c)
def signS (st : Ldg) (c : Clm) : Nat × Bs := if rightS st c then (0, []) else if wantS st c then (8, c.server) else (5, c.server)
structure Rpl where
 src : Bs
 srv : Bs
 text : Bs
 fails : Bool
def fetF (rs : List Rpl) (source server : Bs) : Option Bs := (rs.find? fun r => decide (r.src = source) && decide (r.srv = server)).bind fun r => if r.fails then none else some r.text
def fromS (rs : List Rpl) (now : Int) (srv : Bs) (st : Ldg) (src : Bs) : Bool × Ldg :=
 match fetF rs src srv with
 | none => (false, st)
 | some t => match readF t with
  | .error _ => (false, st)
  | .ok (sn, _, ks) => if sn = srv then (decide ((takeS st sn ks t now).1 = 0), (takeS st sn ks t now).2) else (false, st)
def askL (rs : List Rpl) (now : Int) (c : Clm) : Ldg → List Bs → Nat → Nat × Bool × Ldg
 | st, [], n => (n, false, st)
 | st, src :: r, n => if (fromS rs now c.server st src).1 && hasS (fromS rs now c.server st src).2 c then (n + 1, true, (fromS rs now c.server st src).2) else askL rs now c (fromS rs now c.server st src).2 r (n + 1)
def srcsF (srv : Bs) (sources : List Bs) : List Bs := srv :: sources.filter fun s => decide (s ≠ srv)
def vainS (st : Ldg) (srv : Bs) (now : Int) : Ldg := { st with asked := fun s => if s = srv then some now else st.asked s }
def soonS (st : Ldg) (srv : Bs) (now : Int) : Bool := match st.asked srv with | some t => decide (now < t + 50) | none => false
def fetchS (rs : List Rpl) (now : Int) (sources : List Bs) (st : Ldg) (c : Clm) : Nat × Ldg :=
 if (askL rs now c st (srcsF c.server sources) 0).2.1 then ((askL rs now c st (srcsF c.server sources) 0).1, (askL rs now c st (srcsF c.server sources) 0).2.2)
 else ((askL rs now c st (srcsF c.server sources) 0).1, vainS (askL rs now c st (srcsF c.server sources) 0).2.2 c.server now)
def oneS (rs : List Rpl) (now : Int) (sources : List Bs) (st : Ldg) (c : Clm) : Nat × Ldg := if wantS st c && !soonS st c.server now then fetchS rs now sources st c else (0, st)
def verL (rs : List Rpl) (now : Int) (sources : List Bs) : Ldg → List Clm → Nat → ((Nat × Bs) × Nat) × Ldg
 | st, [], n => (((0, []), n), st)
 | st, c :: r, n => if (signS (oneS rs now sources st c).2 c).1 = 0 then verL rs now sources (oneS rs now sources st c).2 r (n + (oneS rs now sources st c).1) else ((signS (oneS rs now sources st c).2 c, n + (oneS rs now sources st c).1), (oneS rs now sources st c).2)
def verifyS (rs : List Rpl) (now : Int) (sources : List Bs) (st : Ldg) (text : Bs) : ((Nat × Bs) × Nat) × Ldg := match takeF text with | .error n => (((n, []), 0), st) | .ok cs => verL rs now sources st cs 0
end Go.Proofs.YtocligpfmfmihaaGreatDoor
namespace Go.Proofs.YtocligpfmfmihaaGreatDoor
open Go Go.Lib
def isLw (c : UInt8) : Bool := decide (97 ≤ c.toNat) && decide (c.toNat ≤ 122)
def plF (s : Bs) : Bs := 110 :: (s.filter isLw).take 8
structure Nm (s : Bs) : Prop where
 low : ∀ c ∈ s, 97 ≤ c.toNat ∧ c.toNat ≤ 122
 one : 1 ≤ s.length
 few : s.length ≤ 9
theorem plF_nm (s : Bs) : Nm (plF s) := by
 refine ⟨fun c hc => ?_, ?_, ?_⟩
 ·rcases List.mem_cons.1 hc with rfl | hc
  ·decide
  ·have := (List.mem_filter.1 (List.mem_of_mem_take hc)).2
   simpa [isLw] using this
 ·simp [plF]
 ·simp only [plF, List.length_cons, List.length_take]
  omega
theorem Nm.valid {s : Bs} (h : Nm s) : validD s = true := by
 have := validD_low s [] (fun b hb => by have := h.low b hb; omega)
 rwa [List.append_nil] at this
theorem cB_lw {c : UInt8} (h : 97 ≤ c.toNat ∧ c.toNat ≤ 122) : cB c = [c] := by
 have hc : ∀ d : UInt8, (d.toNat < 97 ∨ 122 < d.toNat ) → ¬ c = d := by
  rintro d hd rfl
  omega
 unfold cB
 rw [if_neg (by rintro (rfl | rfl) <;> simp at h), if_neg (by rintro rfl; simp at h), if_neg (by rintro rfl; simp at h), if_neg (by rintro rfl; simp at h), if_neg (by rintro rfl; simp at h), if_neg (by rintro rfl; simp at h), if_neg]
 intro hlt
 have : c.toNat < 32 := hlt
 omega
theorem flat_low {s : Bs} (h : ∀ c ∈ s, 97 ≤ c.toNat ∧ c.toNat ≤ 122) : s.flatMap cB = s := by
 induction s with
 | nil => rfl
 | cons c s ih => rw [List.flatMap_cons, cB_lw (h c (by simp)), ih (fun d hd => h d (by simp [hd]))]; rfl
theorem Nm.cStr {s : Bs} (h : Nm s) : cStr s = 34 :: (s ++ [34]) := by
 unfold Go.Proofs.YtocligpfmfmihaaGreatDoor.cStr
 rw [flat_low h.low]
def momS (n : Int) : Int := (if n < 0 then -(n + 1) else n) % 10000
theorem momS_ok (n : Int) : 0 ≤ momS n ∧ momS n < 10000 := by
 unfold momS
 omega
theorem decN_ln {n : Nat} (h : n < 100000) : (decN n).length ≤ 5 := by
 unfold decN
 split
 ·simp
 ·rw [List.length_append, List.length_singleton]
  unfold decN
  split
  ·simp
  ·rw [List.length_append, List.length_singleton]
   unfold decN
   split
   ·simp
   ·rw [List.length_append, List.length_singleton]
    unfold decN
    split
    ·simp
    ·rw [List.length_append, List.length_singleton]
     unfold decN
     rw [if_pos (by omega)]
     simp
def kId : Bs := [105, 100]
def kBod : Bs := [98, 111, 100, 121]
def docL (s id k : Bs) (till : Int) : List (Bs × J) := [(kSrv, .str s), (kUnt, .num till), (kVer, .obj [(id, .obj [(kKey, .str k)])])]
def evL (s b : Bs) (at' : Int) : List (Bs × J) := [(kBod, .str b), (kOri, .str s), (kTs, .num at')]
theorem low_valid {l : Bs} (h : l.all (fun c => decide (c.toNat < 128)) = true) : validD l = true := by
 have := validD_low l [] (fun b hb => by simpa using List.all_eq_true.1 h b hb)
 rwa [List.append_nil] at this
theorem docL_wf {s id k : Bs} {till : Int} (hs : Nm s) (hi : validD id = true) (hk : Nm k) (h0 : 0 ≤ till) (h1 : till < 100000) : WF 6 (.obj (docL s id k till)) := by
 have v1 : validD kSrv = true := low_valid (by decide)
 have v2 : validD kUnt = true := low_valid (by decide)
 have v3 : validD kVer = true := low_valid (by decide)
 have v4 : validD kKey = true := low_valid (by decide)
 simp only [docL, WF, WFm, v1, v2, v3, v4, hs.valid, hk.valid, hi, true_and, and_true]
 refine ⟨?_, ?_, ?_⟩
 ·unfold Srt
  simp only [List.pairwise_cons, List.mem_cons, List.not_mem_nil, or_false, forall_eq_or_imp, forall_eq, false_implies, implies_true, List.Pairwise.nil, and_true]
  decide
 ·unfold maxNum
  omega
 ·unfold Srt
  simp
theorem evL_wf {s b : Bs} {at' : Int} (hs : Nm s) (hb : Nm b) (h0 : 0 ≤ at') (h1 : at' < 100000) : WF 6 (.obj (evL s b at')) := by
 have v1 : validD kBod = true := low_valid (by decide)
 have v2 : validD kOri = true := low_valid (by decide)
 have v3 : validD kTs = true := low_valid (by decide)
 simp only [evL, WF, WFm, v1, v2, v3, hs.valid, hb.valid, true_and, and_true]
 refine ⟨?_, ?_⟩
 ·unfold Srt
  simp only [List.pairwise_cons, List.mem_cons, List.not_mem_nil, or_false, forall_eq_or_imp, forall_eq, false_implies, implies_true, List.Pairwise.nil, and_true]
  decide
 ·unfold maxNum
  omega
theorem cNum_pos {n : Int} (h : 0 ≤ n) : cNum n = decN n.toNat := by
 unfold cNum
 rw [if_neg (by omega)]
 congr 1
 omega
theorem docL_text {s id k : Bs} {till : Int} (hs : Nm s) (hi : ∀ c ∈ id, 97 ≤ c.toNat ∧ c.toNat ≤ 122) (hk : Nm k) (h0 : 0 ≤ till) : cJ (.obj (docL s id k till)) =
  123 :: 34 :: (kSrv ++ 34 :: 58 :: 34 :: (s ++ 34 :: 44 :: 34 :: (kUnt ++ 34 :: 58 :: (decN till.toNat ++ 44 :: 34 :: (kVer ++ 34 :: 58 :: 123 :: 34 :: (id ++ 34 :: 58 :: 123 :: 34 :: (kKey ++ 34 :: 58 :: 34 :: (k ++ [34, 125, 125, 125]))))))))  := by
 have e1 : cStr kSrv = 34 :: (kSrv ++ [34]) := by decide
 have e2 : cStr kUnt = 34 :: (kUnt ++ [34]) := by decide
 have e3 : cStr kVer = 34 :: (kVer ++ [34]) := by decide
 have e4 : cStr kKey = 34 :: (kKey ++ [34]) := by decide
 have e5 : cStr id = 34 :: (id ++ [34]) := by unfold cStr; rw [flat_low hi]
 simp [docL, cJ, cMs, joinC, hs.cStr, hk.cStr, cNum_pos h0, e1, e2, e3, e4, e5]
theorem evL_text {s b : Bs} {at' : Int} (hs : Nm s) (hb : Nm b) (h0 : 0 ≤ at') : cJ (.obj (evL s b at')) =
  123 :: 34 :: (kBod ++ 34 :: 58 :: 34 :: (b ++ 34 :: 44 :: 34 :: (kOri ++ 34 :: 58 :: 34 :: (s ++ 34 :: 44 :: 34 :: (kTs ++ 34 :: 58 :: (decN at'.toNat ++ [125])))))) := by
 have e1 : cStr kBod = 34 :: (kBod ++ [34]) := by decide
 have e2 : cStr kOri = 34 :: (kOri ++ [34]) := by decide
 have e3 : cStr kTs = 34 :: (kTs ++ [34]) := by decide
 simp [evL, cJ, cMs, joinC, hs.cStr, hb.cStr, cNum_pos h0, e1, e2, e3]
end Go.Proofs.YtocligpfmfmihaaGreatDoor
namespace Go.Proofs.YtocligpfmfmihaaGreatDoor
open Go Go.Lib
theorem digB_low (m : Int) : (digB m).toNat < 128 := by
 unfold digB
 rw [List.getD_eq_getElem?_getD]
 cases h : ([(48 : UInt8), 49, 50, 51, 52, 53, 54, 55, 56, 57, 97, 98, 99, 100, 101, 102])[(m / 268435456).toNat]? with
 | none => decide
 | some x =>
  have := List.mem_of_getElem? h
  simp only [List.mem_cons, List.not_mem_nil, or_false] at this
  show x.toNat < 128
  rcases this with rfl | rfl | rfl | rfl | rfl | rfl | rfl | rfl | rfl | rfl | rfl | rfl | rfl | rfl | rfl | rfl <;> decide
theorem seal_ok (a b : ByteArray) : validD (sealF a b).data.toList = true ∧ (sealF a b).data.toList.length = 8 := by
 have e : (sealF a b).data.toList = hexL (mixF 2166136261 (a ++ ⟨#[10]⟩ ++ b).data.toList) := by unfold sealF; simp
 rw [e]
 refine ⟨?_, by simp [hexL]⟩
 have := validD_low (hexL (mixF 2166136261 (a ++ ⟨#[10]⟩ ++ b).data.toList)) [] (fun c hc => by
   obtain ⟨k, _, rfl⟩ := List.mem_map.1 hc
   exact digB_low _)
 rwa [List.append_nil] at this
theorem docL_sign (s id k sig : Bs) (till : Int) : signL (docL s id k till) s id sig = [(kSrv, .str s), (kSig, .obj [(s, .obj [(id, .str sig)])]), (kUnt, .num till), (kVer, .obj [(id, .obj [(kKey, .str k)])])] := by
 have h1 : childF kSig (docL s id k till) = [] := by
  unfold childF docL
  have : lookK kSig [(kSrv, J.str s), (kUnt, .num till), (kVer, .obj [(id, .obj [(kKey, .str k)])])] = none := by
   simp [lookK, show ¬ kSrv = kSig by decide, show ¬ kUnt = kSig by decide, show ¬ kVer = kSig by decide]
  rw [this]
 unfold signL
 rw [h1]
 simp [docL, childF, lookK, insK, show ¬ kSig < kSrv by decide, show ¬ kSrv = kSig by decide, show kSig < kUnt by decide]
theorem evL_sign (s b id sig : Bs) (at' : Int) : signL (evL s b at') s id sig = [(kBod, .str b), (kOri, .str s), (kSig, .obj [(s, .obj [(id, .str sig)])]), (kTs, .num at')] := by
 have h1 : childF kSig (evL s b at') = [] := by
  unfold childF evL
  have : lookK kSig [(kBod, J.str b), (kOri, .str s), (kTs, .num at')] = none := by
   simp [lookK, show ¬ kBod = kSig by decide, show ¬ kOri = kSig by decide, show ¬ kTs = kSig by decide]
  rw [this]
 unfold signL
 rw [h1]
 simp [evL, childF, lookK, insK, show ¬ kSig < kBod by decide, show ¬ kBod = kSig by decide, show ¬ kSig < kOri by decide, show ¬ kOri = kSig by decide, show kSig < kTs by decide]
theorem len_doc {s id k : Bs} {till : Int} (hs : Nm s) (hi : ∀ c ∈ id, 97 ≤ c.toNat ∧ c.toNat ≤ 122) (hil : id.length ≤ 5) (hk : Nm k) (h0 : 0 ≤ till) (h1 : till < 100000) : (cJ (.obj (docL s id k till))).length ≤ 150 := by
 rw [docL_text hs hi hk h0]
 have e1 : kSrv.length = 11 := rfl
 have e2 : kUnt.length = 14 := rfl
 have e3 : kVer.length = 11 := rfl
 have e4 : kKey.length = 3 := rfl
 have := hs.few
 have := hk.few
 have := decN_ln (n := till.toNat) (by omega)
 simp only [List.length_cons, List.length_append, e1, e2, e3, e4, List.length_nil]
 omega
theorem len_ev {s b : Bs} {at' : Int} (hs : Nm s) (hb : Nm b) (h0 : 0 ≤ at') (h1 : at' < 100000) : (cJ (.obj (evL s b at'))).length ≤ 100 := by
 rw [evL_text hs hb h0]
 have e1 : kBod.length = 4 := rfl
 have e2 : kOri.length = 6 := rfl
 have e3 : kTs.length = 2 := rfl
 have := hs.few
 have := hb.few
 have := decN_ln (n := at'.toNat) (by omega)
 simp only [List.length_cons, List.length_append, e1, e2, e3, List.length_nil]
 omega
theorem cStr8 {t : Bs} (h : t.length ≤ 8) : (cStr t).length ≤ 50 := by
 have : ∀ l : Bs, (l.flatMap cB).length ≤ 6 * l.length := by
  intro l
  induction l with
  | nil => simp
  | cons c l ih =>
   have : (cB c).length ≤ 6 := by
    unfold cB
    repeat' split
    all_goals simp
   simp only [List.flatMap_cons, List.length_append, List.length_cons]
   omega
 have h1 := this t
 unfold cStr
 simp only [List.length_cons, List.length_append, List.length_nil]
 omega
theorem cStr_six (t : Bs) : (cStr t).length ≤ 6 * t.length + 2 := by
 have : ∀ l : Bs, (l.flatMap cB).length ≤ 6 * l.length := by
  intro l
  induction l with
  | nil => simp
  | cons c l ih =>
   have : (cB c).length ≤ 6 := by
    unfold cB
    repeat' split
    all_goals simp
   simp only [List.flatMap_cons, List.length_append, List.length_cons]
   omega
 have h1 := this t
 unfold cStr
 simp only [List.length_cons, List.length_append, List.length_nil]
 omega
theorem len_sdoc {s id k sig : Bs} {till : Int} (hs : Nm s) (hi : ∀ c ∈ id, 97 ≤ c.toNat ∧ c.toNat ≤ 122) (hil : id.length ≤ 5) (hk : Nm k) (hg : sig.length ≤ 8) (h0 : 0 ≤ till) (h1 : till < 100000) : (cJ (.obj (signL (docL s id k till) s id sig))).length ≤ 600 := by
 have h2 := len_doc hs hi hil hk h0 h1
 have h3 := cStr8 hg
 have h4 := cStr_six s
 have h5 := cStr_six id
 have e0 : (cStr kSig).length = 12 := by decide
 have := hs.few
 rw [docL_sign]
 simp only [docL, cJ, cMs, joinC, List.length_cons, List.length_append, List.length_nil] at h2 ⊢
 omega
theorem len_sev {s b id sig : Bs} {at' : Int} (hs : Nm s) (hil : id.length ≤ 5) (hb : Nm b) (hg : sig.length ≤ 8) (h0 : 0 ≤ at') (h1 : at' < 100000) : (cJ (.obj (signL (evL s b at') s id sig))).length ≤ 600 := by
 have h2 := len_ev hs hb h0 h1
 have h3 := cStr8 hg
 have h4 := cStr_six s
 have h5 := cStr_six id
 have e0 : (cStr kSig).length = 12 := by decide
 have := hs.few
 rw [evL_sign]
 simp only [evL, cJ, cMs, joinC, List.length_cons, List.length_append, List.length_nil] at h2 ⊢
 omega
theorem msg_of {l : List (Bs × J)} (h : WF 6 (.obj l)) (hl : (cJ (.obj l)).length ≤ 600) : messageF (cJ (.obj l)) = (bareF l, 0) := by
 unfold messageF
 rw [objectF_obj l h hl]
 rfl
theorem sgn_of {l : List (Bs × J)} (h : WF 6 (.obj l)) (hl : (cJ (.obj l)).length ≤ 600) {sv id sig : Bs} (h1 : validD sv = true) (h2 : validD id = true) (h3 : validD sig = true) : signedF (cJ (.obj l)) sv id sig = (cJ (.obj (signL l sv id sig)), 0) := by
 unfold signedF signedE
 rw [objectF_obj l h hl]
 simp only [h1, h2, h3, Bool.and_self, if_true]
 rfl
theorem bare_doc (s id k : Bs) (till : Int) : bareL (docL s id k till) = docL s id k till := by
 simp [bareL, delK, docL, show ¬ kSrv = kSig by decide, show ¬ kUnt = kSig by decide, show ¬ kVer = kSig by decide, show ¬ kSrv = kUns by decide, show ¬ kUnt = kUns by decide, show ¬ kVer = kUns by decide]
theorem nm_isNm {s : Bs} (h : Nm s) : isNm s = true := by
 unfold isNm
 have := h.one
 have := h.few
 simp
 omega
theorem doc_read {s id k : Bs} {till : Int} (hs : Nm s) (hi : ∀ c ∈ id, 97 ≤ c.toNat ∧ c.toNat ≤ 122) (hi1 : 1 ≤ id.length) (hil : id.length ≤ 5) (hk : Nm k) (h0 : 0 ≤ till) (h1 : till < 100000) :
  readF (cJ (.obj (signL (docL s id k till) s id (sealF ⟨k.toArray⟩ ⟨(bareF (docL s id k till)).toArray⟩).data.toList))) = .ok (s, till, [⟨id, k, false, till⟩]) := by
 obtain ⟨v1, v2⟩ := seal_ok ⟨k.toArray⟩ ⟨(bareF (docL s id k till)).toArray⟩
 have vi : validD id = true := by
  have := validD_low id [] (fun b hb => by have := hi b hb; omega)
  rwa [List.append_nil] at this
 have hwf := WF_signL _ s id _ (docL_wf hs vi hk h0 h1) hs.valid vi v1
 unfold readF
 rw [objectF_obj _ hwf (len_sdoc hs hi hil hk (by omega) h0 h1)]
 show readO _ = _
 have hb := bare_sign (docL s id k till) s id (sealF ⟨k.toArray⟩ ⟨(bareF (docL s id k till)).toArray⟩).data.toList
 have hd : docF (signL (docL s id k till) s id (sealF ⟨k.toArray⟩ ⟨(bareF (docL s id k till)).toArray⟩).data.toList) = some (s, till, [⟨id, k, false, till⟩]) := by
  have hni : isNm id = true := by unfold isNm; simp; omega
  rw [docL_sign]
  simp [docF, lookK, nameF, strF, momF, keysF, keyF, oldF, joinF, ofL, insK, nm_isNm hs, hni, h0, show ¬ kSrv = kUnt by decide, show ¬ kSig = kUnt by decide, show ¬ kSrv = kVer by decide, show ¬ kSig = kVer by decide, show ¬ kUnt = kVer by decide, show ¬ kSrv = kOld by decide, show ¬ kSig = kOld by decide, show ¬ kUnt = kOld by decide, show ¬ kVer = kOld by decide]
 unfold readO
 rw [hd]
 simp only []
 rw [if_pos]
 simp only [List.all_cons, List.all_nil, Bool.and_true, sgOk, Bool.false_or, hb]
 rw [docL_sign]
 simp [memF, lookK, show ¬ kSrv = kSig by decide]
theorem ev_take {s b id sig : Bs} {at' : Int} (hs : Nm s) (vi : validD id = true) (hil : id.length ≤ 5) (hb : Nm b) (vg : validD sig = true) (hg : sig.length ≤ 8) (h0 : 0 ≤ at') (h1 : at' < 100000) :
  takeF (cJ (.obj (signL (evL s b at') s id sig))) = .ok [⟨s, at', bareF (evL s b at'), [(id, sig)]⟩] := by
 have hwf := WF_signL _ s id _ (evL_wf hs hb h0 h1) hs.valid vi vg
 unfold takeF
 rw [objectF_obj _ hwf (len_sev hs hil hb hg h0 h1)]
 have hbr := bare_sign (evL s b at') s id sig
 have hc : clmF (signL (evL s b at') s id sig) = some [⟨s, at', bareF (evL s b at'), [(id, sig)]⟩] := by
  unfold clmF
  rw [hbr]
  rw [evL_sign]
  simp [srvF, sigF, sgP, childF, lookK, nameF, strF, momF, nm_isNm hs, h0, show ¬ kBod = kOri by decide, show ¬ kBod = kSen by decide, show ¬ kOri = kSen by decide, show ¬ kSig = kSen by decide, show ¬ kTs = kSen by decide, show ¬ kBod = kTs by decide, show ¬ kOri = kTs by decide, show ¬ kSig = kTs by decide, show ¬ kBod = kSig by decide, show ¬ kOri = kSig by decide]
 simp only [hc]
end Go.Proofs.YtocligpfmfmihaaGreatDoor
namespace Go.Proofs.YtocligpfmfmihaaGreatDoor
open Go Go.Lib
theorem hon_learn {s k D : Bs} {till t : Int} (hr : readF D = .ok (s, till, [⟨kId, k, false, till⟩])) (ht : t < 10000) :
  (learnS Ldg.zero D t).1 = 0 ∧ (∀ at', mayS (learnS Ldg.zero D t).2 s kId at' = if min till (t + 1000) < at' then none else some k) ∧ (∀ x, (learnS Ldg.zero D t).2.asked x = none) := by
 have e : learnS Ldg.zero D t = (0, keptS (updK s t Ldg.zero ⟨kId, k, false, till⟩) s D) := by
  simp [learnS, hr, takeS, confF, cnfK, Ldg.zero]
 rw [e]
 refine ⟨rfl, fun at' => ?_, fun x => rfl⟩
 have hc : capF t = t + 1000 := by unfold capF; rw [if_neg (by omega)]
 simp [mayS, keptS, updK, Ldg.zero, tillF, hc]
theorem hon_late {st : Ldg} {s k m sig e : Bs} {at' t lim : Int} (hm : mayS st s kId at' = if lim < at' then none else some k) (ha : ∀ x, st.asked x = none) (ht : takeF e = .ok [⟨s, at', m, [(kId, sig)]⟩]) (h : lim < at') :
  verifyS [] t [] st e = (((8, s), 1), vainS st s t) := by
 rw [if_pos h] at hm
 have hv : mayS (vainS st s t) s kId at' = none := hm
 have e1 : wantS st ⟨s, at', m, [(kId, sig)]⟩ = true := by simp [wantS, hasS, hm]
 have e2 : soonS st s t = false := by unfold soonS; rw [ha]
 have e3 : oneS [] t [] st ⟨s, at', m, [(kId, sig)]⟩ = (1, vainS st s t) := by
  unfold oneS
  rw [e1]
  simp [e2, fetchS, srcsF, askL, fromS, fetF]
 have e4 : signS (vainS st s t) ⟨s, at', m, [(kId, sig)]⟩ = (8, s) := by
  simp [signS, rightS, okS, wantS, hasS, hv]
 unfold verifyS
 rw [ht]
 simp [verL, e3, e4]
theorem hon_time {st : Ldg} {s k m sig e : Bs} {at' t lim : Int} (hm : mayS st s kId at' = if lim < at' then none else some k) (ht : takeF e = .ok [⟨s, at', m, [(kId, sig)]⟩]) (h : ¬ lim < at') :
  verifyS [] t [] st e = ((if sig = (sealF ⟨k.toArray⟩ ⟨m.toArray⟩).data.toList then (0, []) else (5, s), 0), st) := by
 rw [if_neg h] at hm
 have e1 : wantS st ⟨s, at', m, [(kId, sig)]⟩ = false := by simp [wantS, hasS, hm]
 have e3 : oneS [] t [] st ⟨s, at', m, [(kId, sig)]⟩ = (0, st) := by
  unfold oneS
  rw [e1]
  rfl
 have e4 : signS st ⟨s, at', m, [(kId, sig)]⟩ = if sig = (sealF ⟨k.toArray⟩ ⟨m.toArray⟩).data.toList then (0, []) else (5, s) := by
  simp [signS, rightS, okS, e1, hm]
 unfold verifyS
 rw [ht]
 simp only [verL, e3, e4]
 split <;> simp
end Go.Proofs.YtocligpfmfmihaaGreatDoor
namespace Go.Proofs.YtocligpfmfmihaaGreatDoor
open Go Go.RowKit Go.Maps Go.WideMaps
theorem sign_size {l : List (Bs × J)} {s : Bs} (hp : parse s = some (.obj l)) (hl : s.length ≤ 600) (sv id sig : Bs) (h1 : sv.length ≤ 2000000) (h2 : id.length ≤ 2000000) (h3 : sig.length ≤ 2000000) :
  cnt (.obj (signL l sv id sig)) ≤ 2000 ∧ (cJ (.obj (signL l sv id sig))).length ≤ 90000000 := by
 have hok := parse_ok hp
 have hcl := cnt_le (.obj l)
 simp only [cnt] at hcl ⊢
 have c1 := cntm_child kSig l
 have c2 := cntm_child sv (childF kSig l)
 have i1 := cntm_ins id (.str sig) (childF sv (childF kSig l))
 have i2 := cntm_ins sv (.obj (insK id (.str sig) (childF sv (childF kSig l)))) (childF kSig l)
 have i3 := cntm_ins kSig (.obj (insK sv (.obj (insK id (.str sig) (childF sv (childF kSig l)))) (childF kSig l))) l
 simp only [cnt] at i1 i2 i3
 have t0 := (cJ_tot l).2
 have t1 := tot_child kSig l
 have t2 := tot_child sv (childF kSig l)
 have u1 := tot_ins id (.str sig) (childF sv (childF kSig l))
 have u2 := tot_ins sv (.obj (insK id (.str sig) (childF sv (childF kSig l)))) (childF kSig l)
 have u3 := tot_ins kSig (.obj (insK sv (.obj (insK id (.str sig) (childF sv (childF kSig l)))) (childF kSig l))) l
 have e1 := (cJ_tot (insK id (.str sig) (childF sv (childF kSig l)))).1
 have e2 := (cJ_tot (insK sv (.obj (insK id (.str sig) (childF sv (childF kSig l)))) (childF kSig l))).1
 have e3 := (cJ_tot (signL l sv id sig)).1
 have s1 := cStr_le id
 have s2 := cStr_le sig
 have s3 := cStr_le sv
 have s4 := cStr_le kSig
 have s5 : kSig.length = 10 := rfl
 simp only [cMem, List.length_append, List.length_cons] at u1 u2 u3
 have z : (cJ (.str sig)).length = (cStr sig).length := by rw [cJ]
 rw [z] at u1
 unfold signL at e3 ⊢
 constructor
 ·omega
 ·omega
set_option maxRecDepth 20000 in
theorem signed_c (W : World) (hN : NG W) (s sv id sig : ByteArray) (h1 : sv.size ≤ 2000000) (h2 : id.size ≤ 2000000) (h3 : sig.size ≤ 2000000) (w : World) (hW : Below W.heap.size W w) :
  Calls Tryz.prog 18 #[.string s, .string sv, .string id, .string sig] w fun e w' => AnsR w (signedF s.data.toList sv.data.toList id.data.toList sig.data.toList) e w' := by
 go_enter Tryz.func18, Tryz.ntmps18
 go_wp2_with fail
 refine (readObject_c W hN s w hW).mono ?_
 rintro e w' ⟨hk, ⟨l, b, hv, rfl, hr⟩ | ⟨n, ev, hv, rfl, he, tt, u, rfl⟩⟩
 ·have hb := below_kp hW hk
  obtain ⟨hp, hl⟩ := object_ok hv
  have hok := parse_ok hp
  have hcl := cnt_le (.obj l)
  simp only [cnt] at hcl
  have hcm : cntm l ≤ 1000000 := by omega
  have ho : Oz w' l b := Rep.mono (fun j hj => hj.2) _ hr
  have hz := sign_size hp hl sv.data.toList id.data.toList sig.data.toList (by rw [dlen]; exact h1) (by rw [dlen]; exact h2) (by rw [dlen]; exact h3)
  have H := hide (And.intro ho (And.intro hok.1 (And.intro hk (And.intro hv hz))))
  clear hr hok hp hv hk hcl hz ho
  go_wp2_with fail
  refine (withSig_c W hN w' hb l b H.out.1 H.out.2.1 hcm sv id sig (by omega) (by omega) (by omega)).mono ?_
  rintro e w2 ⟨k2, ⟨hvd, b2, rfl, o2⟩ | ⟨hvd, ev, rfl, he, tt, u, rfl⟩⟩
  ·have hb2 := below_kp hb k2
   have H2 := hide (And.intro o2 (And.intro (H.out.2.2.1.trans k2) hvd))
   clear k2 o2 hvd
   have hm : (cnt (.obj (signL l sv.data.toList id.data.toList sig.data.toList)) + 1) * ((cJ (.obj (signL l sv.data.toList id.data.toList sig.data.toList))).length + 2) ≤ 2001 * 90000002 := Nat.mul_le_mul (by have := H.out.2.2.2.2.1; omega) (by have := H.out.2.2.2.2.2; omega)
   have HM := hide (show (cnt (.obj (signL l sv.data.toList id.data.toList sig.data.toList)) + 1) * ((cJ (.obj (signL l sv.data.toList id.data.toList sig.data.toList))).length + 2) ≤ 139000000000000 by omega)
   clear hm
   have hwf : Hid (WF 6 (.obj (signL l sv.data.toList id.data.toList sig.data.toList))) := by
    have hh := H2.out.2.2
    simp only [Bool.and_eq_true] at hh
    exact WF_signL l _ _ _ H.out.2.1 hh.1.1 hh.1.2 hh.2
   go_wp2_with fail
   refine (vcanon_c W hN.gl 6 (.obj (signL l sv.data.toList id.data.toList sig.data.toList)) hwf.out (by have := H.out.2.2.2.2.1; omega) HM.out _ _ w2 hb2 H2.out.1).mono ?_
   rintro e w3 ⟨rfl, hw⟩
   have HK := hide (H2.out.2.1.trans (kp_wr hw))
   clear hw
   go_wp2
   go_ret2
   refine ⟨?_, HK.out⟩
   unfold signedF signedE
   rw [H.out.2.2.2.1]
   simp only [H2.out.2.2]
   rfl
  ·have hb2 := below_kp hb k2
   have H2 := hide (And.intro he (And.intro (H.out.2.2.1.trans k2) hvd))
   clear k2 he hvd
   go_wp2_with fail
   refine (errno_c W hN w2 hb2 _ 2 H2.out.1).mono ?_
   rintro e w3 ⟨rfl, hw⟩
   have HK := hide (H2.out.2.1.trans hw)
   clear hw
   go_wp2
   go_ret2
   refine ⟨?_, HK.out⟩
   unfold signedF signedE
   rw [H.out.2.2.2.1]
   simp only [H2.out.2.2]
   rfl
 ·have hb := below_kp hW hk
  have H := hide (And.intro he (And.intro hk hv))
  clear he hk hv
  go_wp2_with fail
  refine (errno_c W hN w' hb _ n H.out.1).mono ?_
  rintro e w2 ⟨rfl, hw⟩
  have HK := hide (H.out.2.1.trans hw)
  clear hw
  go_wp2
  go_ret2
  refine ⟨?_, HK.out⟩
  unfold signedF signedE
  rw [H.out.2.2]
  rfl
end Go.Proofs.YtocligpfmfmihaaGreatDoor
namespace Go.Proofs.YtocligpfmfmihaaGreatDoor
open Go Go.RowKit Go.Maps
theorem isLw_yes {c : UInt8} (h : 97 ≤ c.toNat) (h' : c.toNat ≤ 122) : isLw c = true := by
 unfold isLw
 rw [decide_eq_true h, decide_eq_true h']
 rfl
theorem isLw_no {c : UInt8} (h : c.toNat < 97 ∨ 122 < c.toNat) : isLw c = false := by
 unfold isLw
 rcases h with h | h
 ·rw [decide_eq_false (by omega)]
  rfl
 ·rw [decide_eq_false (p := c.toNat ≤ 122) (by omega), Bool.and_false]
theorem pl_end {s o : Bs} {k : Nat} (ho : o = 110 :: (s.take k).filter isLw) (hl : o.length ≤ 9) (h : 9 ≤ o.length ∨ s.length ≤ k) : o = plF s := by
 subst ho
 unfold plF
 simp only [List.length_cons] at hl h
 congr 1
 rcases h with h | h
 ·have h8 : 8 ≤ ((s.take k).filter isLw).length := by omega
  have h8' : ((s.take k).filter isLw).length ≤ 8 := by omega
  have e : s.filter isLw = (s.take k).filter isLw ++ (s.drop k).filter isLw := by rw [← List.filter_append, List.take_append_drop]
  rw [e, List.take_append_of_le_length h8, List.take_of_length_le h8']
 ·rw [List.take_of_length_le h] at hl ⊢
  rw [List.take_of_length_le (by omega)]
set_option maxRecDepth 20000 in
set_option maxHeartbeats 2000000 in
theorem plain_c (w : World) (s : ByteArray) (hs : s.size ≤ 9223372036854775807) :
  Calls Tryz.prog 25 #[.string s] w fun e w' => e = .returned (.string ⟨(plF s.data.toList).toArray⟩) ∧ w' = w := by
 go_enter Tryz.func25, Tryz.ntmps25
 go_wp2_with fail
 go_loopg [3, 4] s.size (fun g a b wr => ∃ (k : Nat) (o : Bs), g = s.size - k ∧ k ≤ s.size ∧ a = .string ⟨o.toArray⟩ ∧ b = .int .i64 (k : Int) ∧ wr = w ∧ o = 110 :: (s.data.toList.take k).filter isLw ∧ o.length ≤ 9)
 case atStart => exact ⟨0, [110], rfl, Nat.zero_le _, rfl, rfl, rfl, by simp, by simp⟩
 case round =>
  obtain ⟨k, o, hg, hk, rfl, rfl, rfl, ho, hl⟩ := hrel
  have hos := mk_size2 o
  have H := hide (And.intro hg ho)
  clear hg ho
  by_cases hlt : k < s.size
  ·by_cases h9 : o.length < 9
   ·have HT := hide (take_snoc s k hlt)
    have HX := hide (ext_one hlt)
    by_cases ha : (97 : Int) ≤ (s[k].toNat : Int)
    ·by_cases hz : (s[k].toNat : Int) ≤ 122
     ·have HL : Hid (isLw s[k] = true) := hide (isLw_yes (by omega) (by omega))
      go_wp2
      go_roundg (s.size - (k + 1))
      case measure => rw [H.out.1]; omega
      case rel =>
       refine ⟨k + 1, o ++ [s[k]], rfl, by omega, ?_, rfl, rfl, ?_, by simp only [List.length_append, List.length_cons, List.length_nil]; omega⟩
       ·rw [HX.out]
        congr 1
       ·rw [HT.out, List.filter_append, List.filter_cons_of_pos HL.out, H.out.2]
        rfl
     ·have HL : Hid (isLw s[k] = false) := hide (isLw_no (Or.inr (by omega)))
      go_wp2
      go_roundg (s.size - (k + 1))
      case measure => rw [H.out.1]; omega
      case rel =>
       refine ⟨k + 1, o, rfl, by omega, rfl, rfl, rfl, ?_, hl⟩
       rw [HT.out, List.filter_append, List.filter_cons_of_neg (by rw [HL.out]; simp), H.out.2]
       simp
    ·have HL : Hid (isLw s[k] = false) := hide (isLw_no (Or.inl (by omega)))
     go_wp2
     go_roundg (s.size - (k + 1))
     case measure => rw [H.out.1]; omega
     case rel =>
      refine ⟨k + 1, o, rfl, by omega, rfl, rfl, rfl, ?_, hl⟩
      rw [HT.out, List.filter_append, List.filter_cons_of_neg (by rw [HL.out]; simp), H.out.2]
      simp
   ·go_wp2
    go_ret
    refine ⟨?_, rfl⟩
    show Ending.returned (.string ⟨o.toArray⟩) = _
    rw [pl_end H.out.2 hl (Or.inl (by omega))]
  ·go_wp2
   go_ret
   refine ⟨?_, rfl⟩
   show Ending.returned (.string ⟨o.toArray⟩) = _
   rw [pl_end H.out.2 hl (Or.inr (by rw [Array.length_toList]; exact Nat.not_lt.1 hlt))]
set_option maxRecDepth 20000 in
set_option maxHeartbeats 2000000 in
theorem digits_c (w : World) (n : Nat) (hn : n ≤ 9007199254740991) :
  Calls Tryz.prog 53 #[.int .i64 (n : Int)] w fun e w' => e = .returned (.string ⟨(decN n).toArray⟩) ∧ Kp (fun _ => False) w w' := by
 go_enter Tryz.func53, Tryz.ntmps53
 go_wp2_with fail
 go_loopg [0, 3] n (fun g a b wr => ∃ (k : Nat) (o : Bs), g = k ∧ k ≤ n ∧ a = .int .i64 (k : Int) ∧ b = .string ⟨o.toArray⟩ ∧ Kp (fun _ => False) w wr ∧ o.length + k ≤ 9007199254740991 ∧ decN k ++ o = decN n)
 case atStart => exact ⟨n, [], rfl, Nat.le_refl _, rfl, rfl, Kp.refl _ _, by simpa using hn, by simp⟩
 case round =>
  obtain ⟨k, o, hg, hk, rfl, rfl, hw, ho, hE⟩ := hrel
  have hos := mk_size2 o
  have H := hide (And.intro hg hE)
  clear hg hE
  by_cases h9 : 9 < k
  ·have h9' : (9 : Int) < (k : Int) := by omega
   obtain ⟨c, hc⟩ : ∃ c, c = UInt8.ofNat (48 + k % 10) := ⟨_, rfl⟩
   have hcv := fun w1 : World => conv_one w1 (48 + (k : Int) % 10) c (by rw [hc, toNat_of _ (by omega)]; omega)
   have HC := hide hc
   clear hc
   go_wp2
   go_roundg (k / 10)
   case measure => rw [H.out.1]; omega
   case rel =>
    refine ⟨k / 10, c :: o, rfl, by omega, int_i64 (by omega), by rw [one_str], hw.alloc _, by simp only [List.length_cons]; omega, ?_⟩
    rw [← H.out.2]
    conv => rhs; rw [decN]
    rw [if_neg (by omega), HC.out]
    simp
  ·have h9' : ¬ (9 : Int) < (k : Int) := by omega
   obtain ⟨c, hc⟩ : ∃ c, c = UInt8.ofNat (48 + k) := ⟨_, rfl⟩
   have hcv := fun w1 : World => conv_one w1 (48 + (k : Int)) c (by rw [hc, toNat_of _ (by omega)]; omega)
   have HC := hide hc
   clear hc
   go_wp2
   go_ret
   refine ⟨?_, hw.alloc _⟩
   rw [one_str, ← H.out.2]
   conv => rhs; rw [decN]
   rw [if_pos (by omega), HC.out]
   rfl
set_option maxRecDepth 20000 in
theorem moment_c (w : World) (n : Int) (h0 : -9223372036854775808 ≤ n) (h1 : n ≤ 9223372036854775807) :
  Calls Tryz.prog 26 #[.int .i64 n] w fun e w' => e = .returned (.int .i64 (momS n)) ∧ w' = w := by
 by_cases h : n < 0
 ·have HM : Hid (-((n + 1).tmod 10000) = momS n) := by
   unfold momS
   rw [if_pos h, ← Int.neg_tmod, Int.tmod_eq_emod_of_nonneg (by omega)]
   exact hide rfl
  go_enter Tryz.func26, Tryz.ntmps26
  go_wp2
  go_ret
  refine ⟨?_, rfl⟩
  rw [← HM.out]
  rfl
 ·have HM : Hid (n % 10000 = momS n) := by
   unfold momS
   rw [if_neg h]
   exact hide rfl
  go_enter Tryz.func26, Tryz.ntmps26
  go_wp2
  go_ret
  refine ⟨?_, rfl⟩
  rw [← HM.out]
  rfl
end Go.Proofs.YtocligpfmfmihaaGreatDoor
namespace Go.Proofs.YtocligpfmfmihaaGreatDoor
open Go Go.RowKit Go.Maps Go.Lib
def sdocF (s id k : Bs) (till : Int) : Bs := cJ (.obj (signL (docL s id k till) s id (sealF ⟨k.toArray⟩ ⟨(bareF (docL s id k till)).toArray⟩).data.toList))
def sevF (s id k b : Bs) (at' : Int) : Bs := cJ (.obj (signL (evL s b at') s id (sealF ⟨k.toArray⟩ ⟨(bareF (evL s b at')).toArray⟩).data.toList))
theorem kp_below {w w' : World} (h : Below w.heap.size w w') : Kp (fun _ => False) w w' := ⟨h.os, h.tape, h.output, h.size, fun k hk _ => h.block k hk⟩
theorem seal_size (a b : ByteArray) : (sealF a b).size = 8 := by
 have := (seal_ok a b).2
 rwa [Array.length_toList] at this
theorem doc_txt {s id k : Bs} {till : Int} (hs : Nm s) (hi : ∀ c ∈ id, 97 ≤ c.toNat ∧ c.toNat ≤ 122) (hk : Nm k) (h0 : 0 ≤ till) :
  (ByteArray.mk #[123, 34, 115, 101, 114, 118, 101, 114, 95, 110, 97, 109, 101, 34, 58, 34] ++ ⟨s.toArray⟩ ++ ⟨#[34, 44, 34, 118, 97, 108, 105, 100, 95, 117, 110, 116, 105, 108, 95, 116, 115, 34, 58]⟩ ++ ⟨(decN till.toNat).toArray⟩ ++ ⟨#[44, 34, 118, 101, 114, 105, 102, 121, 95, 107, 101, 121, 115, 34, 58, 123, 34]⟩ ++ ⟨id.toArray⟩ ++ ⟨#[34, 58, 123, 34, 107, 101, 121, 34, 58, 34]⟩ ++ ⟨k.toArray⟩ ++ ⟨#[34, 125, 125, 125]⟩ : ByteArray) = ⟨(cJ (.obj (docL s id k till))).toArray⟩ := by
 rw [docL_text hs hi hk h0]
 apply ByteArray.ext
 simp [kSrv, kUnt, kVer, kKey]
theorem ev_txt {s b : Bs} {at' : Int} (hs : Nm s) (hb : Nm b) (h0 : 0 ≤ at') :
  (ByteArray.mk #[123, 34, 98, 111, 100, 121, 34, 58, 34] ++ ⟨b.toArray⟩ ++ ⟨#[34, 44, 34, 111, 114, 105, 103, 105, 110, 34, 58, 34]⟩ ++ ⟨s.toArray⟩ ++ ⟨#[34, 44, 34, 116, 115, 34, 58]⟩ ++ ⟨(decN at'.toNat).toArray⟩ ++ ⟨#[125]⟩ : ByteArray) = ⟨(cJ (.obj (evL s b at'))).toArray⟩ := by
 rw [evL_text hs hb h0]
 apply ByteArray.ext
 simp [kBod, kOri, kTs]
theorem bare_ev (s b : Bs) (at' : Int) : bareL (evL s b at') = evL s b at' := by
 simp [bareL, delK, evL, show ¬ kBod = kSig by decide, show ¬ kOri = kSig by decide, show ¬ kTs = kSig by decide, show ¬ kBod = kUns by decide, show ¬ kOri = kUns by decide, show ¬ kTs = kUns by decide]
theorem digits_i (w : World) (n : Int) (h0 : 0 ≤ n) (h1 : n < 100000) :
  Calls Tryz.prog 53 #[.int .i64 n] w fun e w' => e = .returned (.string ⟨(decN n.toNat).toArray⟩) ∧ Kp (fun _ => False) w w' := by
 have h := digits_c w n.toNat (by omega)
 have e : ((n.toNat : Nat) : Int) = n := by omega
 rwa [e] at h
set_option maxRecDepth 20000 in
set_option maxHeartbeats 2000000 in
theorem document_c (W : World) (hN : NG W) (w : World) (hW : Below W.heap.size W w) (s id k : Bs) (till : Int) (hs : Nm s) (hi : ∀ c ∈ id, 97 ≤ c.toNat ∧ c.toNat ≤ 122) (hi1 : 1 ≤ id.length) (hil : id.length ≤ 5) (hk : Nm k) (h0 : 0 ≤ till) (h1 : till < 100000) :
  Calls Tryz.prog 27 #[.string ⟨s.toArray⟩, .string ⟨id.toArray⟩, .string ⟨k.toArray⟩, .int .i64 till] w fun e w' => e = .returned (.tuple #[.string ⟨(sdocF s id k till).toArray⟩, .bool true]) ∧ Kp (fun _ => False) w w' := by
 have zs := mk_size2 s
 have zi := mk_size2 id
 have zk := mk_size2 k
 have zd := mk_size2 (decN till.toNat)
 have ls := hs.few
 have lk := hk.few
 have ld := decN_ln (n := till.toNat) (by omega)
 have HD := hide (digits_i w till h0 h1)
 have HT := hide (doc_txt hs hi hk h0)
 have vi : validD id = true := by
  have := validD_low id [] (fun b hb => by have := hi b hb; omega)
  rwa [List.append_nil] at this
 have hwf := docL_wf hs vi hk h0 h1
 have hlen := len_doc hs hi hil hk h0 h1
 have HM := hide (msg_of hwf (by omega))
 have hsk := seal_ok ⟨k.toArray⟩ ⟨(bareF (docL s id k till)).toArray⟩
 have HV : Hid ((sealF ⟨k.toArray⟩ ⟨(bareF (docL s id k till)).toArray⟩).size ≤ 2000000) := hide (by rw [seal_size]; omega)
 have HS := hide (sgn_of hwf (by omega) hs.valid vi hsk.1)
 have HZ : Hid (ByteArray.size ⟨(bareF (docL s id k till)).toArray⟩ ≤ 1073741824) := by
  refine hide ?_
  rw [mk_size2]
  unfold bareF
  rw [bare_doc]
  omega
 clear hsk
 go_enter Tryz.func27, Tryz.ntmps27
 go_wp2_with fail
 refine HD.out.mono ?_
 rintro e w1 ⟨rfl, K1⟩
 go_wp2_with fail
 rw [HT.out]
 refine (message_c W hN _ w1 (below_kp hW K1)).mono ?_
 rintro e w2 ⟨rfl, K2⟩
 rw [show (ByteArray.mk (cJ (.obj (docL s id k till))).toArray).data.toList = cJ (.obj (docL s id k till)) by simp, HM.out]
 go_wp2_with fail
 refine (seal_any _ _ w2 (by omega) HZ.out).mono ?_
 rintro e w3 ⟨rfl, B3⟩
 have K3 := K1.trans (K2.trans (kp_below B3))
 have b3 := below_kp hW K3
 have HK3 := hide K3
 clear K1 K2 B3 K3 HD HM
 generalize hsl : sealF ⟨k.toArray⟩ ⟨(bareF (docL s id k till)).toArray⟩ = sl at *
 have HSL := hide hsl
 clear hsl
 go_wp2_with fail
 refine (signed_c W hN _ _ _ _ (by omega) (by omega) HV.out w3 b3).mono ?_
 rintro e w4 ⟨rfl, K4⟩
 rw [show (ByteArray.mk (cJ (.obj (docL s id k till))).toArray).data.toList = cJ (.obj (docL s id k till)) by simp, show (ByteArray.mk s.toArray).data.toList = s by simp, show (ByteArray.mk id.toArray).data.toList = id by simp, HS.out]
 go_wp2_with fail
 go_ret2
 refine ⟨?_, HK3.out.trans K4⟩
 unfold sdocF
 rw [HSL.out]
 rfl
set_option maxRecDepth 20000 in
set_option maxHeartbeats 2000000 in
theorem event_c (W : World) (hN : NG W) (w : World) (hW : Below W.heap.size W w) (s id k b : Bs) (at' : Int) (hs : Nm s) (vi : validD id = true) (hil : id.length ≤ 5) (hk : Nm k) (hb : Nm b) (h0 : 0 ≤ at') (h1 : at' < 100000) :
  Calls Tryz.prog 30 #[.string ⟨s.toArray⟩, .string ⟨id.toArray⟩, .string ⟨k.toArray⟩, .int .i64 at', .string ⟨b.toArray⟩] w fun e w' => e = .returned (.tuple #[.string ⟨(sevF s id k b at').toArray⟩, .bool true]) ∧ Kp (fun _ => False) w w' := by
 have zs := mk_size2 s
 have zi := mk_size2 id
 have zk := mk_size2 k
 have zd := mk_size2 (decN at'.toNat)
 have ls := hs.few
 have lk := hk.few
 have zb := mk_size2 b
 have lb := hb.few
 have ld := decN_ln (n := at'.toNat) (by omega)
 have HD := hide (digits_i w at' h0 h1)
 have HT := hide (ev_txt hs hb h0)
 have hwf := evL_wf hs hb h0 h1
 have hlen := len_ev hs hb h0 h1
 have HM := hide (msg_of hwf (by omega))
 have hsk := seal_ok ⟨k.toArray⟩ ⟨(bareF (evL s b at')).toArray⟩
 have HV : Hid ((sealF ⟨k.toArray⟩ ⟨(bareF (evL s b at')).toArray⟩).size ≤ 2000000) := hide (by rw [seal_size]; omega)
 have HS := hide (sgn_of hwf (by omega) hs.valid vi hsk.1)
 have HZ : Hid (ByteArray.size ⟨(bareF (evL s b at')).toArray⟩ ≤ 1073741824) := by
  refine hide ?_
  rw [mk_size2]
  unfold bareF
  rw [bare_ev]
  omega
 clear hsk
 go_enter Tryz.func30, Tryz.ntmps30
 go_wp2_with fail
 refine HD.out.mono ?_
 rintro e w1 ⟨rfl, K1⟩
 go_wp2_with fail
 rw [HT.out]
 refine (message_c W hN _ w1 (below_kp hW K1)).mono ?_
 rintro e w2 ⟨rfl, K2⟩
 rw [show (ByteArray.mk (cJ (.obj (evL s b at'))).toArray).data.toList = cJ (.obj (evL s b at')) by simp, HM.out]
 go_wp2_with fail
 refine (seal_any _ _ w2 (by omega) HZ.out).mono ?_
 rintro e w3 ⟨rfl, B3⟩
 have K3 := K1.trans (K2.trans (kp_below B3))
 have b3 := below_kp hW K3
 have HK3 := hide K3
 clear K1 K2 B3 K3 HD HM
 generalize hsl : sealF ⟨k.toArray⟩ ⟨(bareF (evL s b at')).toArray⟩ = sl at *
 have HSL := hide hsl
 clear hsl
 go_wp2_with fail
 refine (signed_c W hN _ _ _ _ (by omega) (by omega) HV.out w3 b3).mono ?_
 rintro e w4 ⟨rfl, K4⟩
 rw [show (ByteArray.mk (cJ (.obj (evL s b at'))).toArray).data.toList = cJ (.obj (evL s b at')) by simp, show (ByteArray.mk s.toArray).data.toList = s by simp, show (ByteArray.mk id.toArray).data.toList = id by simp, HS.out]
 go_wp2_with fail
 go_ret2
 refine ⟨?_, HK3.out.trans K4⟩
 unfold sevF
 rw [HSL.out]
 rfl
set_option maxRecDepth 20000 in
set_option maxHeartbeats 2000000 in
theorem same_c (W : World) (hN : NG W) (w : World) (hW : Below W.heap.size W w) (s k o b : Bs) (at' : Int) (hs : Nm s) (hk : Nm k) (ho : Nm o) (hb : Nm b) (h0 : 0 ≤ at') (h1 : at' < 100000) :
  Calls Tryz.prog 33 #[.string ⟨k.toArray⟩, .string ⟨o.toArray⟩, .string ⟨s.toArray⟩, .int .i64 at', .string ⟨b.toArray⟩] w fun e w' => e = .returned (.bool ((sealF ⟨k.toArray⟩ ⟨(bareF (evL s b at')).toArray⟩).toList == (sealF ⟨o.toArray⟩ ⟨(bareF (evL s b at')).toArray⟩).toList)) ∧ Kp (fun _ => False) w w' := by
 have zs := mk_size2 s
 have zo := mk_size2 o
 have lo := ho.few
 have zk := mk_size2 k
 have zd := mk_size2 (decN at'.toNat)
 have ls := hs.few
 have lk := hk.few
 have zb := mk_size2 b
 have lb := hb.few
 have ld := decN_ln (n := at'.toNat) (by omega)
 have HD := hide (digits_i w at' h0 h1)
 have HT := hide (ev_txt hs hb h0)
 have hwf := evL_wf hs hb h0 h1
 have hlen := len_ev hs hb h0 h1
 have HM := hide (msg_of hwf (by omega))
 have HZ : Hid (ByteArray.size ⟨(bareF (evL s b at')).toArray⟩ ≤ 1073741824) := by
  refine hide ?_
  rw [mk_size2]
  unfold bareF
  rw [bare_ev]
  omega
 go_enter Tryz.func33, Tryz.ntmps33
 go_wp2_with fail
 refine HD.out.mono ?_
 rintro e w1 ⟨rfl, K1⟩
 go_wp2_with fail
 rw [HT.out]
 refine (message_c W hN _ w1 (below_kp hW K1)).mono ?_
 rintro e w2 ⟨rfl, K2⟩
 rw [show (ByteArray.mk (cJ (.obj (evL s b at'))).toArray).data.toList = cJ (.obj (evL s b at')) by simp, HM.out]
 go_wp2_with fail
 refine (seal_any _ _ w2 (by omega) HZ.out).mono ?_
 rintro e w3 ⟨rfl, B3⟩
 have K3 := K1.trans (K2.trans (kp_below B3))
 have HK3 := hide K3
 clear K1 K2 B3 K3 HD HM
 go_wp2_with fail
 refine (seal_any _ _ w3 (by omega) HZ.out).mono ?_
 rintro e w4 ⟨rfl, B4⟩
 go_wp2_with fail
 go_ret
 exact ⟨rfl, HK3.out.trans (kp_below B4)⟩
end Go.Proofs.YtocligpfmfmihaaGreatDoor

import Derived.Test.YtocligpfmfmihabGreatDoorRea7G
import Derived.Test.YtocligpfmfmihabGreatDoorCanG
import Derived.Deep.CutRange
import Derived.Test.YtocligpfmfmihabGreatDoorSgn2G
namespace Go.Proofs.YtocligpfmfmihabGreatDoor
open Go Go.RowKit Go.Maps

/-- Is a key's own signature there? -/
def sgOk (l : List (Bs × J)) (s : Bs) (k : Ky) : Bool :=
  k.old || match memF k.id (memF s (memF kSig (some (.obj l)))) with | some (.str t) => decide (t = (sealF ⟨k.key.toArray⟩ ⟨(bareF l).toArray⟩).data.toList) | _ => false
/-- What Read tells of an object. -/
def readO (l : List (Bs × J)) : Except Nat (Bs × Int × List Ky) :=
  match docF l with
  | none => .error 4
  | some (s, u, ks) => if ks.all (sgOk l s) then .ok (s, u, ks) else .error 5
def readF (t : Bs) : Except Nat (Bs × Int × List Ky) := match objectF t with | .error n => .error n | .ok l => readO l
end Go.Proofs.YtocligpfmfmihabGreatDoor
namespace Go.Proofs.YtocligpfmfmihabGreatDoor
open Go Go.RowKit Go.Maps

theorem mem_obj_len {l : List (Bs × J)} {a : Bs} {j : J} (h : (a, j) ∈ l) : (cJ j).length ≤ (cJ (.obj l)).length := by
  have := (joinC_le (l.map cMem) 0).2 (cMem (a, j)) (List.mem_map.2 ⟨_, h, rfl⟩)
  rw [cJ_obj]
  simp only [cMem, List.length_append, List.length_cons, List.length_nil] at this ⊢
  omega
theorem keyF_len {old : Bool} {till : Int} {id : Bs} {j : J} {k : Ky} (h : keyF old till id j = some k) : k.key.length ≤ (cJ j).length := by
  rw [keyF_parts] at h
  split at h
  · simp only [Option.bind_eq_some_iff] at h
    obtain ⟨t, h1, h2⟩ := h
    have hk : k.key = t := by
      split at h2
      · simp only [Option.map_eq_some_iff] at h2
        obtain ⟨_, _, rfl⟩ := h2
        rfl
      · simp only [Option.some.injEq] at h2
        subst h2
        rfl
    cases j with
    | obj m =>
      simp only [memF] at h1
      unfold strF at h1
      split at h1
      · rename_i q hq
        injection h1 with h1
        subst h1
        have h3 := child_len hq
        have h4 := cStr_geq q
        rw [cJ] at h3
        rw [hk]
        omega
      · cases h1
    | _ => cases h1
  · cases h
theorem keysF_len {old : Bool} {till : Int} : ∀ {l : List (Bs × J)} {r : List Ky}, keysF old till l = some r → ∀ k ∈ r, k.key.length ≤ (cJ (.obj l)).length
  | [], r, h, k, hk => by
    simp only [keysF, Option.some.injEq] at h
    subst h
    cases hk
  | (id, j) :: l, r, h, k, hk => by
    simp only [keysF, Option.bind_eq_some_iff, Option.map_eq_some_iff] at h
    obtain ⟨q, hq, r', hr, rfl⟩ := h
    rcases List.mem_cons.1 hk with rfl | hk
    · exact Nat.le_trans (keyF_len hq) (mem_obj_len (List.mem_cons_self))
    · have h1 := keysF_len hr k hk
      refine Nat.le_trans h1 ?_
      have h2 := joinC_len cMem l
      have h3 := joinC_len cMem ((id, j) :: l)
      rw [if_neg (by simp)] at h3
      have h4 : sumM cMem ((id, j) :: l) = (cMem (id, j)).length + 1 + sumM cMem l := by simp [sumM]
      rw [cJ_obj, cJ_obj]
      simp only [List.length_cons, List.length_append, List.length_nil]
      split at h2 <;> omega
theorem docF_len {l : List (Bs × J)} {s : Bs} {u : Int} {ks : List Ky} (h : docF l = some (s, u, ks)) : ∀ k ∈ ks, k.key.length ≤ (cJ (.obj l)).length := by
  unfold docF at h
  simp only [Option.bind_eq_some_iff] at h
  obtain ⟨_, _, _, _, h⟩ := h
  split at h
  · rename_i m hm
    split at h
    · simp only [Option.bind_eq_some_iff, Option.map_eq_some_iff, Prod.mk.injEq] at h
      obtain ⟨a, ha, b, hb, q, hq, rfl, rfl, rfl⟩ := h
      intro k hk
      have hkab : k ∈ a ++ b := by
        unfold joinF at hq
        split at hq
        · injection hq with hq
          subst hq
          obtain ⟨p, hp, rfl⟩ := List.mem_map.1 hk
          obtain ⟨k2, hk2, rfl⟩ := List.mem_map.1 (mem_ofL hp)
          exact hk2
        · cases hq
      rcases List.mem_append.1 hkab with hka | hkb
      · exact Nat.le_trans (keysF_len ha k hka) (child_len hm)
      · unfold oldF at hb
        split at hb
        · injection hb with hb
          subst hb
          cases hkb
        · rename_i m2 hm2
          exact Nat.le_trans (keysF_len hb k hkb) (child_len hm2)
        · cases hb
    · cases h
  · cases h
end Go.Proofs.YtocligpfmfmihabGreatDoor
namespace Go.Proofs.YtocligpfmfmihabGreatDoor

/-! ### what a notary knows -/
/-- Of a server and a key's name: the key and how long it is trusted; of a server: its last document; when it was asked for in vain. -/
structure Ldg where
  keys : Bs → Bs → Option (Bs × Int)
  docs : Bs → Option Bs
  asked : Bs → Option Int
def Ldg.zero : Ldg := ⟨fun _ _ => none, fun _ => none, fun _ => none⟩
def capF (now : Int) : Int := if 9223372036854774807 < now then 9223372036854775807 else now + 1000
def tillF (now : Int) (k : Ky) : Int := if k.old then k.till else min k.till (capF now)
/-- A key is trusted. -/
def updK (sn : Bs) (now : Int) (st : Ldg) (k : Ky) : Ldg :=
  { st with keys := fun s i => if s = sn ∧ i = k.id then some (k.key, match st.keys sn k.id with | some p => max (tillF now k) p.2 | none => tillF now k) else st.keys s i }
/-- Has a name come with another key? -/
def cnfK (st : Ldg) (sn : Bs) (k : Ky) : Bool := match st.keys sn k.id with | some p => decide (p.1 ≠ k.key) | none => false
def confF (st : Ldg) (sn : Bs) (ks : List Ky) : Bool := ks.any (cnfK st sn)
def keptS (st : Ldg) (sn text : Bs) : Ldg := { st with docs := fun s => if s = sn then some text else st.docs s }
def takeS (st : Ldg) (sn : Bs) (ks : List Ky) (text : Bs) (now : Int) : Nat × Ldg := if confF st sn ks then (6, st) else (0, keptS (ks.foldl (updK sn now) st) sn text)
def mayS (st : Ldg) (s i : Bs) (at' : Int) : Option Bs := (st.keys s i).bind fun p => if p.2 < at' then none else some p.1
def answerS (st : Ldg) (name id key s : Bs) : Bs × Nat := match st.docs s with | none => ([], 8) | some t => signedF t name id (sealF ⟨key.toArray⟩ ⟨(messageF t).1.toArray⟩).data.toList

theorem updK_docs (sn : Bs) (now : Int) (st : Ldg) (k : Ky) : (updK sn now st k).docs = st.docs := rfl
theorem updK_asked (sn : Bs) (now : Int) (st : Ldg) (k : Ky) : (updK sn now st k).asked = st.asked := rfl
theorem updK_other (sn : Bs) (now : Int) (st : Ldg) (k : Ky) (s i : Bs) (h : ¬ (s = sn ∧ i = k.id)) : (updK sn now st k).keys s i = st.keys s i := if_neg h
theorem fold_docs (sn : Bs) (now : Int) (ks : List Ky) : ∀ st : Ldg, (ks.foldl (updK sn now) st).docs = st.docs := by
  induction ks with
  | nil => intro st; rfl
  | cons k ks ih => intro st; rw [List.foldl_cons, ih, updK_docs]
theorem fold_asked (sn : Bs) (now : Int) (ks : List Ky) : ∀ st : Ldg, (ks.foldl (updK sn now) st).asked = st.asked := by
  induction ks with
  | nil => intro st; rfl
  | cons k ks ih => intro st; rw [List.foldl_cons, ih, updK_asked]
theorem fold_other (sn : Bs) (now : Int) (ks : List Ky) (s : Bs) (h : s ≠ sn) : ∀ (st : Ldg) (i : Bs), (ks.foldl (updK sn now) st).keys s i = st.keys s i := by
  induction ks with
  | nil => intro st i; rfl
  | cons k ks ih => intro st i; rw [List.foldl_cons, ih, updK_other _ _ _ _ _ _ (fun e => h e.1)]
theorem take_succ {α : Type} {l : List α} {i : Nat} {x : α} (h : l[i]? = some x) : l.take (i + 1) = l.take i ++ [x] := by
  have hi : i < l.length := by
    rcases Nat.lt_or_ge i l.length with h' | h'
    · exact h'
    · rw [List.getElem?_eq_none h'] at h; cases h
  rw [List.take_succ_eq_append_getElem hi]
  rw [List.getElem?_eq_getElem hi] at h
  injection h with h
  rw [h]
end Go.Proofs.YtocligpfmfmihabGreatDoor
namespace Go.Proofs.YtocligpfmfmihabGreatDoor

/-! ### what an event says, and what a notary makes of it -/
def kOri : Bs := [111, 114, 105, 103, 105, 110]
def kSen : Bs := [115, 101, 110, 100, 101, 114]
def kTs : Bs := [116, 115]
/-- The servers that must have signed. -/
def srvF (l : List (Bs × J)) : Option (List Bs) :=
  (nameF (lookK kOri l)).bind fun o => match lookK kSen l with | none => some [o] | some j => (nameF (some j)).map fun s => if s = o then [o] else [o, s]
/-- The strings that an event shows for a server. -/
def sgP (p : Bs × J) : Option (Bs × Bs) := match p.2 with | .str t => some (p.1, t) | _ => none
def sigF (l : List (Bs × J)) (s : Bs) : List (Bs × Bs) := (childF s (childF kSig l)).filterMap sgP
/-- What an event says of one server. -/
structure Clm where
  server : Bs
  ts : Int
  msg : Bs
  sigs : List (Bs × Bs)
def clmF (l : List (Bs × J)) : Option (List Clm) := (srvF l).bind fun ss => (momF (lookK kTs l)).map fun t => ss.map fun s => ⟨s, t, bareF l, sigF l s⟩
def takeF (text : Bs) : Except Nat (List Clm) := match objectF text with | .error n => .error n | .ok l => match clmF l with | none => .error 7 | some cs => .ok cs
def hasS (st : Ldg) (c : Clm) : Bool := c.sigs.any fun p => (mayS st c.server p.1 c.ts).isSome
def wantS (st : Ldg) (c : Clm) : Bool := decide (0 < c.sigs.length) && !hasS st c
/-- Is a string right? -/
def okS (st : Ldg) (c : Clm) (p : Bs × Bs) : Bool := match mayS st c.server p.1 c.ts with | some k => decide (p.2 = (sealF ⟨k.toArray⟩ ⟨c.msg.toArray⟩).data.toList) | none => false
theorem okS_none {st : Ldg} {c : Clm} {p : Bs × Bs} (h : mayS st c.server p.1 c.ts = none) : okS st c p = false := by unfold okS; rw [h]
theorem okS_some {st : Ldg} {c : Clm} {p : Bs × Bs} {k tl : Bs} (h : mayS st c.server p.1 c.ts = some k) (ht : sealF ⟨k.toArray⟩ ⟨c.msg.toArray⟩ = ⟨tl.toArray⟩) : okS st c p = decide (p.2 = tl) := by
  unfold okS
  rw [h]
  simp only [ht]
def rightS (st : Ldg) (c : Clm) : Bool := c.sigs.any (okS st c)
def signS (st : Ldg) (c : Clm) : Nat × Bs := if rightS st c then (0, []) else if wantS st c then (8, c.server) else (5, c.server)
/-- A reply. -/
structure Rpl where
  src : Bs
  srv : Bs
  text : Bs
  fails : Bool
def fetF (rs : List Rpl) (source server : Bs) : Option Bs := (rs.find? fun r => decide (r.src = source) && decide (r.srv = server)).bind fun r => if r.fails then none else some r.text
/-- What a source tells is taken in. -/
def fromS (rs : List Rpl) (now : Int) (srv : Bs) (st : Ldg) (src : Bs) : Bool × Ldg :=
  match fetF rs src srv with
  | none => (false, st)
  | some t => match readF t with
    | .error _ => (false, st)
    | .ok (sn, _, ks) => if sn = srv then (decide ((takeS st sn ks t now).1 = 0), (takeS st sn ks t now).2) else (false, st)
/-- One source behind the other. -/
def askL (rs : List Rpl) (now : Int) (c : Clm) : Ldg → List Bs → Nat → Nat × Bool × Ldg
  | st, [], n => (n, false, st)
  | st, src :: r, n => if (fromS rs now c.server st src).1 && hasS (fromS rs now c.server st src).2 c then (n + 1, true, (fromS rs now c.server st src).2) else askL rs now c (fromS rs now c.server st src).2 r (n + 1)
def srcsF (srv : Bs) (sources : List Bs) : List Bs := srv :: sources.filter fun s => decide (s ≠ srv)
def vainS (st : Ldg) (srv : Bs) (now : Int) : Ldg := { st with asked := fun s => if s = srv then some now else st.asked s }
def soonS (st : Ldg) (srv : Bs) (now : Int) : Bool := match st.asked srv with | some t => decide (now < t + 50) | none => false
def fetchS (rs : List Rpl) (now : Int) (sources : List Bs) (st : Ldg) (c : Clm) : Nat × Ldg :=
  if (askL rs now c st (srcsF c.server sources) 0).2.1 then ((askL rs now c st (srcsF c.server sources) 0).1, (askL rs now c st (srcsF c.server sources) 0).2.2)
  else ((askL rs now c st (srcsF c.server sources) 0).1, vainS (askL rs now c st (srcsF c.server sources) 0).2.2 c.server now)
def oneS (rs : List Rpl) (now : Int) (sources : List Bs) (st : Ldg) (c : Clm) : Nat × Ldg := if wantS st c && !soonS st c.server now then fetchS rs now sources st c else (0, st)
def verL (rs : List Rpl) (now : Int) (sources : List Bs) : Ldg → List Clm → Nat → ((Nat × Bs) × Nat) × Ldg
  | st, [], n => (((0, []), n), st)
  | st, c :: r, n => if (signS (oneS rs now sources st c).2 c).1 = 0 then verL rs now sources (oneS rs now sources st c).2 r (n + (oneS rs now sources st c).1) else ((signS (oneS rs now sources st c).2 c, n + (oneS rs now sources st c).1), (oneS rs now sources st c).2)
def verifyS (rs : List Rpl) (now : Int) (sources : List Bs) (st : Ldg) (text : Bs) : ((Nat × Bs) × Nat) × Ldg := match takeF text with | .error n => (((n, []), 0), st) | .ok cs => verL rs now sources st cs 0
end Go.Proofs.YtocligpfmfmihabGreatDoor
namespace Go.Proofs.YtocligpfmfmihabGreatDoor
open Go Go.Lib

/-! ### plain names, moments, and what is written of them -/
def isLw (c : UInt8) : Bool := decide (97 ≤ c.toNat) && decide (c.toNat ≤ 122)
def plF (s : Bs) : Bs := 110 :: (s.filter isLw).take 8
/-- A name of small letters. -/
structure Nm (s : Bs) : Prop where
  low : ∀ c ∈ s, 97 ≤ c.toNat ∧ c.toNat ≤ 122
  one : 1 ≤ s.length
  few : s.length ≤ 9
theorem plF_nm (s : Bs) : Nm (plF s) := by
  refine ⟨fun c hc => ?_, ?_, ?_⟩
  · rcases List.mem_cons.1 hc with rfl | hc
    · decide
    · have := (List.mem_filter.1 (List.mem_of_mem_take hc)).2
      simpa [isLw] using this
  · simp [plF]
  · simp only [plF, List.length_cons, List.length_take]
    omega
theorem Nm.valid {s : Bs} (h : Nm s) : validD s = true := by
  have := validD_low s [] (fun b hb => by have := h.low b hb; omega)
  rwa [List.append_nil] at this
theorem cB_lw {c : UInt8} (h : 97 ≤ c.toNat ∧ c.toNat ≤ 122) : cB c = [c] := by
  have hc : ∀ d : UInt8, (d.toNat < 97 ∨ 122 < d.toNat ) → ¬ c = d := by
    rintro d hd rfl
    omega
  unfold cB
  rw [if_neg (by rintro (rfl | rfl) <;> simp at h), if_neg (by rintro rfl; simp at h), if_neg (by rintro rfl; simp at h), if_neg (by rintro rfl; simp at h), if_neg (by rintro rfl; simp at h), if_neg (by rintro rfl; simp at h), if_neg]
  intro hlt
  have : c.toNat < 32 := hlt
  omega
theorem flat_low {s : Bs} (h : ∀ c ∈ s, 97 ≤ c.toNat ∧ c.toNat ≤ 122) : s.flatMap cB = s := by
  induction s with
  | nil => rfl
  | cons c s ih => rw [List.flatMap_cons, cB_lw (h c (by simp)), ih (fun d hd => h d (by simp [hd]))]; rfl
theorem Nm.cStr {s : Bs} (h : Nm s) : cStr s = 34 :: (s ++ [34]) := by
  unfold Go.Proofs.YtocligpfmfmihabGreatDoor.cStr
  rw [flat_low h.low]
/-- A moment from 0 to 9,999. -/
def momS (n : Int) : Int := (if n < 0 then -(n + 1) else n) % 10000
theorem momS_ok (n : Int) : 0 ≤ momS n ∧ momS n < 10000 := by
  unfold momS
  omega
theorem decN_ln {n : Nat} (h : n < 100000) : (decN n).length ≤ 5 := by
  unfold decN
  split
  · simp
  · rw [List.length_append, List.length_singleton]
    unfold decN
    split
    · simp
    · rw [List.length_append, List.length_singleton]
      unfold decN
      split
      · simp
      · rw [List.length_append, List.length_singleton]
        unfold decN
        split
        · simp
        · rw [List.length_append, List.length_singleton]
          unfold decN
          rw [if_pos (by omega)]
          simp
def kId : Bs := [105, 100]
def kBod : Bs := [98, 111, 100, 121]
/-- A document of one key. -/
def docL (s id k : Bs) (till : Int) : List (Bs × J) := [(kSrv, .str s), (kUnt, .num till), (kVer, .obj [(id, .obj [(kKey, .str k)])])]
/-- An event. -/
def evL (s b : Bs) (at' : Int) : List (Bs × J) := [(kBod, .str b), (kOri, .str s), (kTs, .num at')]
theorem low_valid {l : Bs} (h : l.all (fun c => decide (c.toNat < 128)) = true) : validD l = true := by
  have := validD_low l [] (fun b hb => by simpa using List.all_eq_true.1 h b hb)
  rwa [List.append_nil] at this
theorem docL_wf {s id k : Bs} {till : Int} (hs : Nm s) (hi : validD id = true) (hk : Nm k) (h0 : 0 ≤ till) (h1 : till < 100000) : WF 6 (.obj (docL s id k till)) := by
  have v1 : validD kSrv = true := low_valid (by decide)
  have v2 : validD kUnt = true := low_valid (by decide)
  have v3 : validD kVer = true := low_valid (by decide)
  have v4 : validD kKey = true := low_valid (by decide)
  simp only [docL, WF, WFm, v1, v2, v3, v4, hs.valid, hk.valid, hi, true_and, and_true]
  refine ⟨?_, ?_, ?_⟩
  · unfold Srt
    simp only [List.pairwise_cons, List.mem_cons, List.not_mem_nil, or_false, forall_eq_or_imp, forall_eq, false_implies, implies_true, List.Pairwise.nil, and_true]
    decide
  · unfold maxNum
    omega
  · unfold Srt
    simp
theorem evL_wf {s b : Bs} {at' : Int} (hs : Nm s) (hb : Nm b) (h0 : 0 ≤ at') (h1 : at' < 100000) : WF 6 (.obj (evL s b at')) := by
  have v1 : validD kBod = true := low_valid (by decide)
  have v2 : validD kOri = true := low_valid (by decide)
  have v3 : validD kTs = true := low_valid (by decide)
  simp only [evL, WF, WFm, v1, v2, v3, hs.valid, hb.valid, true_and, and_true]
  refine ⟨?_, ?_⟩
  · unfold Srt
    simp only [List.pairwise_cons, List.mem_cons, List.not_mem_nil, or_false, forall_eq_or_imp, forall_eq, false_implies, implies_true, List.Pairwise.nil, and_true]
    decide
  · unfold maxNum
    omega
theorem cNum_pos {n : Int} (h : 0 ≤ n) : cNum n = decN n.toNat := by
  unfold cNum
  rw [if_neg (by omega)]
  congr 1
  omega
theorem docL_text {s id k : Bs} {till : Int} (hs : Nm s) (hi : ∀ c ∈ id, 97 ≤ c.toNat ∧ c.toNat ≤ 122) (hk : Nm k) (h0 : 0 ≤ till) : cJ (.obj (docL s id k till)) =
    123 :: 34 :: (kSrv ++ 34 :: 58 :: 34 :: (s ++ 34 :: 44 :: 34 :: (kUnt ++ 34 :: 58 :: (decN till.toNat ++ 44 :: 34 :: (kVer ++ 34 :: 58 :: 123 :: 34 :: (id ++ 34 :: 58 :: 123 :: 34 :: (kKey ++ 34 :: 58 :: 34 :: (k ++ [34, 125, 125, 125]))))))))  := by
  have e1 : cStr kSrv = 34 :: (kSrv ++ [34]) := by decide
  have e2 : cStr kUnt = 34 :: (kUnt ++ [34]) := by decide
  have e3 : cStr kVer = 34 :: (kVer ++ [34]) := by decide
  have e4 : cStr kKey = 34 :: (kKey ++ [34]) := by decide
  have e5 : cStr id = 34 :: (id ++ [34]) := by unfold cStr; rw [flat_low hi]
  simp [docL, cJ, cMs, joinC, hs.cStr, hk.cStr, cNum_pos h0, e1, e2, e3, e4, e5]
theorem evL_text {s b : Bs} {at' : Int} (hs : Nm s) (hb : Nm b) (h0 : 0 ≤ at') : cJ (.obj (evL s b at')) =
    123 :: 34 :: (kBod ++ 34 :: 58 :: 34 :: (b ++ 34 :: 44 :: 34 :: (kOri ++ 34 :: 58 :: 34 :: (s ++ 34 :: 44 :: 34 :: (kTs ++ 34 :: 58 :: (decN at'.toNat ++ [125])))))) := by
  have e1 : cStr kBod = 34 :: (kBod ++ [34]) := by decide
  have e2 : cStr kOri = 34 :: (kOri ++ [34]) := by decide
  have e3 : cStr kTs = 34 :: (kTs ++ [34]) := by decide
  simp [evL, cJ, cMs, joinC, hs.cStr, hb.cStr, cNum_pos h0, e1, e2, e3]
end Go.Proofs.YtocligpfmfmihabGreatDoor

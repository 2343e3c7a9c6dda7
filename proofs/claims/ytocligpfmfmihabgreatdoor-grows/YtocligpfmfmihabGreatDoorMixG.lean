import Derived.Test.YtocligpfmfmihabGreatDoorSgn2G
import Derived.WalkKit
import Derived.WalkSpells
import Derived.WalkLawsBesides
import Derived.ProofKit
import Derived.OpenShut
import Derived.ShutString
import Derived.Laws.IdiomStrings
import Derived.Test.YtocligpfmfmihabGreatDoorRea7G
import Derived.Test.YtocligpfmfmihabGreatDoorCanG
import Derived.Deep.CutRange
namespace Go.Proofs.YtocligpfmfmihabGreatDoor
open Go.ChangeShapes Go.WideShapes Go.ChangeAt Go.RowKit

def stepU (h : Int) (b : UInt8) : Int := bits .xor .u32 h ((b.toNat : Int) % 4294967296) * 16777619 % 4294967296
def mixF (h : Int) (l : List UInt8) : Int := l.foldl stepU h

theorem take_snoc (s : ByteArray) (k : Nat) (h : k < s.size) : s.data.toList.take (k + 1) = s.data.toList.take k ++ [s[k]] := by
  rw [List.take_succ_eq_append_getElem (by simpa using h)]; rfl
theorem mixF_snoc (h : Int) (l : List UInt8) (b : UInt8) : mixF h (l ++ [b]) = stepU (mixF h l) b := by
  simp [mixF]
theorem stepU_bd (h : Int) (b : UInt8) : 0 ≤ stepU h b ∧ stepU h b < 4294967296 := by
  unfold stepU; generalize bits .xor .u32 h ((b.toNat : Int) % 4294967296) = q; omega
theorem mixF_bd (l : List UInt8) : ∀ h : Int, 0 ≤ h → h < 4294967296 → 0 ≤ mixF h l ∧ mixF h l < 4294967296 := by
  induction l with
  | nil => intro h a b; exact ⟨a, b⟩
  | cons x l ih => intro h _ _; exact ih _ (stepU_bd h x).1 (stepU_bd h x).2
theorem mixF_append (h : Int) (l m : List UInt8) : mixF h (l ++ m) = mixF (mixF h l) m := by
  simp [mixF]
theorem ret_int {k : IntKind} {a b : Int} (h : a = b) : Ending.returned (.int k a) = .returned (.int k b) := by rw [h]

set_option maxHeartbeats 1000000 in
theorem mix_any (h : Int) (s : ByteArray) (w : World) (hs : s.size ≤ 1073741824) :
    Calls Tryz.prog 43 #[.int .u32 h, .string s] w fun e w' => e = .returned (.int .u32 (mixF h s.data.toList)) ∧ Below w.heap.size w w' := by
  have kc := fun (w : World) => run_bytes_of_string (P := Tryz.prog) w 9 95 5 s Tryz.underlying9 Tryz.underlying95 Tryz.underlying5
  go_enter Tryz.func43, Tryz.ntmps43
  go_wp2
  go_loop [0, 10] (fun a i => ∃ k : Nat, k ≤ s.size ∧ i = .int .i64 k ∧ a = .int .u32 (mixF h (s.data.toList.take k))) (fun _ i => s.size - (intOf i).toNat)
  case atStart => exact ⟨0, Nat.zero_le _, rfl, rfl⟩
  case round =>
    obtain ⟨k, hk, rfl, rfl⟩ := hrel
    by_cases hlt : k < s.size
    · have hcl : (w.alloc (Obj.cells (bytesRow s (grownCap w s.size 0 5)) 5 ((bytesRow s (grownCap w s.size 0 5)).size, (bytesRow s (grownCap w s.size 0 5)).size + 1))).cell? ⟨w.heap.size, k, none⟩ = some (.int .u8 (s[k].toNat : Int)) := by
        rw [World.cell?_alloc_mark, bytesRow_at s _ k hlt]; rfl
      have HS : Hid (mixF h (s.data.toList.take (k + 1)) = stepU (mixF h (s.data.toList.take k)) s[k]) := by
        rw [take_snoc s k hlt]; exact mixF_snoc _ _ _
      clear kc
      generalize mixF h (s.data.toList.take k) = m at HS ⊢
      go_wp2
      refine ⟨⟨k + 1, by omega, by go_num, ?_⟩, by simp [intOf]; omega⟩
      rw [HS.out]; rfl
    · clear kc
      go_wp2
      go_ret
      exact ⟨ret_int (by rw [List.take_of_length_le (by simp; omega)]), ((Below.refl _ _).alloc (Nat.le_refl _) _).drew⟩

def shN (h : Int) : Nat → Int
  | 0 => h
  | k + 1 => shN h k * 16 % 4294967296
theorem shN_bd (h : Int) (h0 : 0 ≤ h) (h1 : h < 4294967296) : ∀ k, 0 ≤ shN h k ∧ shN h k < 4294967296
  | 0 => ⟨h0, h1⟩
  | k + 1 => by unfold shN; generalize shN h k = q; omega
def digB (m : Int) : UInt8 := [(48 : UInt8), 49, 50, 51, 52, 53, 54, 55, 56, 57, 97, 98, 99, 100, 101, 102].getD (m / 268435456).toNat 0
theorem digB_at (m : Int) (h : (m / 268435456).toNat < (ByteArray.mk #[48, 49, 50, 51, 52, 53, 54, 55, 56, 57, 97, 98, 99, 100, 101, 102]).size) :
    (ByteArray.mk #[48, 49, 50, 51, 52, 53, 54, 55, 56, 57, 97, 98, 99, 100, 101, 102])[(m / 268435456).toNat]'h = digB m := by
  have h' : (m / 268435456).toNat < 16 := h
  unfold digB
  rw [List.getD_eq_getElem?_getD, List.getElem?_eq_getElem h']
  rfl
def rowN (h : Int) : Nat → Array Value
  | 0 => #[.int .u8 0, .int .u8 0, .int .u8 0, .int .u8 0, .int .u8 0, .int .u8 0, .int .u8 0, .int .u8 0]
  | k + 1 => (rowN h k).setIfInBounds k (.int .u8 ((digB (shN h k)).toNat : Int))
theorem rowN_size (h : Int) : ∀ k, (rowN h k).size = 8
  | 0 => rfl
  | k + 1 => by unfold rowN; rw [Array.size_setIfInBounds]; exact rowN_size h k
theorem rowN_at (h : Int) : ∀ k, k ≤ 8 → ∀ j, j < k → (rowN h k)[j]? = some (.int .u8 ((digB (shN h j)).toNat : Int))
  | 0, _, j, hj => by omega
  | k + 1, hk, j, hj => by
    unfold rowN
    rw [Array.getElem?_setIfInBounds]
    by_cases e : k = j
    · subst e; rw [if_pos rfl, if_pos (by rw [rowN_size]; omega)]
    · rw [if_neg e]; exact rowN_at h k (by omega) j (by omega)
def hexL (h : Int) : List UInt8 := (List.range 8).map fun k => digB (shN h k)

set_option maxHeartbeats 1000000 in
theorem hexDigits_any (h : Int) (w : World) (h0 : 0 ≤ h) (h1 : h < 4294967296) :
    Calls Tryz.prog 44 #[.int .u32 h] w fun e w' => e = .returned (.string ⟨(hexL h).toArray⟩) ∧ Below w.heap.size w w' := by
  have hback : (convert 95 9 (.slice (some ⟨w.heap.size, 0, none⟩) 8 8)).run Tryz.prog (w.alloc (.cells (rowN h 8) 168)) = .ok (.string ⟨(hexL h).toArray⟩) (w.alloc (.cells (rowN h 8) 168)) := by
    refine run_convert_bytes_back (P := Tryz.prog) (w.alloc (.cells (rowN h 8) 168)) 95 9 5 ⟨w.heap.size, 0, none⟩ 8 (hexL h) Tryz.underlying95 Tryz.underlying5 Tryz.underlying9 ?_
    intro j hj
    have hj' : j < 8 := by simpa [hexL] using hj
    have e : (w.alloc (.cells (rowN h 8) 168)).cell? ⟨w.heap.size, j, none⟩ = (rowN h 8)[j]? := World.cell?_alloc_mark w _ _ _ _
    have e2 : Addr.add ⟨w.heap.size, 0, none⟩ j = ⟨w.heap.size, j, none⟩ := by cases j <;> simp [Addr.add]
    rw [e2, e, rowN_at h 8 (Nat.le_refl _) j hj']
    simp [hexL]
  go_enter Tryz.func44, Tryz.ntmps44
  go_wp2
  go_loopw [0, 5] (fun a i wr => ∃ k : Nat, k ≤ 8 ∧ i = .int .i64 k ∧ a = .int .u32 (shN h k) ∧ wr = w.alloc (.cells (rowN h k) 168)) (fun _ i _ => 8 - (intOf i).toNat)
  case atStart => exact ⟨0, Nat.zero_le _, rfl, rfl, rfl⟩
  case round =>
    obtain ⟨k, hk, rfl, rfl, rfl⟩ := hrel
    by_cases hlt : k < 8
    · have hb := shN_bd h h0 h1 k
      have hz := rowN_size h k
      have HS : Hid (shN h (k + 1) = shN h k * 16 % 4294967296) := rfl
      have HR : Hid (rowN h (k + 1) = (rowN h k).setIfInBounds k (.int .u8 ((digB (shN h k)).toNat : Int))) := rfl
      clear hback
      generalize shN h k = m at hb HS HR ⊢
      generalize rowN h k = C at hz HR ⊢
      go_wp2
      refine ⟨⟨k + 1, by omega, by go_num, by rw [HS.out], ?_⟩, by simp [intOf]; omega⟩
      rw [HR.out, digB_at]
    · obtain rfl : k = 8 := by omega
      go_wp2
      go_ret
      exact ⟨rfl, (Below.refl _ _).alloc (Nat.le_refl _) _⟩

set_option maxHeartbeats 1000000 in
theorem seal_core (a b : ByteArray) (mf : Int → ByteArray → Int) (hf : Int → ByteArray) (w : World) (ha : a.size ≤ 1073741824) (hb : b.size ≤ 1073741824)
    (cm : ∀ h s wx, s.size ≤ 1073741824 → Calls Tryz.prog 43 #[.int .u32 h, .string s] wx fun e w' => e = .returned (.int .u32 (mf h s)) ∧ Below wx.heap.size wx w')
    (ch : ∀ wx, Calls Tryz.prog 44 #[.int .u32 (mf (mf (mf 2166136261 a) ⟨#[10]⟩) b)] wx fun e w' => e = .returned (.string (hf (mf (mf (mf 2166136261 a) ⟨#[10]⟩) b))) ∧ Below wx.heap.size wx w') :
    Calls Tryz.prog 19 #[.string a, .string b] w fun e w' => e = .returned (.string (hf (mf (mf (mf 2166136261 a) ⟨#[10]⟩) b))) ∧ Below w.heap.size w w' := by
  have h1 : (ByteArray.mk #[10]).size ≤ 1073741824 := by decide
  go_enter Tryz.func19, Tryz.ntmps19
  go_wp2_with (first | (go_at_call 43; refine (cm _ _ _ ?_).mono ?_; assumption; rintro e w1 ⟨rfl, hb1⟩) | (go_at_call 44; refine (ch _).mono ?_; rintro e w4 ⟨rfl, hb4⟩))
  go_ret
  rename_i x1 k1 x2 k2
  exact ⟨rfl, k1.trans ((k2.mono (k1.size)).trans ((hb1.mono (Nat.le_trans k1.size k2.size)).trans (hb4.mono (Nat.le_trans k1.size (Nat.le_trans k2.size hb1.size)))))⟩
theorem seals_same (a b : ByteArray) : mixF (mixF (mixF 2166136261 a.data.toList) [10]) b.data.toList = mixF 2166136261 (a ++ ⟨#[10]⟩ ++ b).data.toList := by
  rw [show (a ++ (ByteArray.mk #[10]) ++ b).data.toList = a.data.toList ++ [10] ++ b.data.toList by simp, mixF_append, mixF_append]
def sealF (a b : ByteArray) : ByteArray := ⟨(hexL (mixF 2166136261 (a ++ ⟨#[10]⟩ ++ b).data.toList)).toArray⟩
theorem sealF_eq (a b : ByteArray) : sealF a b = ⟨(hexL (mixF (mixF (mixF 2166136261 a.data.toList) [10]) b.data.toList)).toArray⟩ := by
  unfold sealF; rw [seals_same]
theorem seal_any (a b : ByteArray) (w : World) (ha : a.size ≤ 1073741824) (hb : b.size ≤ 1073741824) :
    Calls Tryz.prog 19 #[.string a, .string b] w fun e w' => e = .returned (.string (sealF a b)) ∧ Below w.heap.size w w' := by
  have b1 := mixF_bd a.data.toList 2166136261 (by omega) (by omega)
  have b2 := mixF_bd [10] _ b1.1 b1.2
  have b3 := mixF_bd b.data.toList _ b2.1 b2.2
  rw [sealF_eq]
  exact seal_core a b (fun h s => mixF h s.data.toList) (fun h => ⟨(hexL h).toArray⟩) w ha hb (fun h s wx hs => mix_any h s wx hs) (fun wx => hexDigits_any _ wx b3.1 b3.2)

end Go.Proofs.YtocligpfmfmihabGreatDoor
namespace Go.Proofs.YtocligpfmfmihabGreatDoor
open Go Go.RowKit Go.Maps

/-- Is a key's own signature there? -/
def sgOk (l : List (Bs × J)) (s : Bs) (k : Ky) : Bool :=
  k.old || match memF k.id (memF s (memF kSig (some (.obj l)))) with | some (.str t) => decide (t = (sealF ⟨k.key.toArray⟩ ⟨(bareF l).toArray⟩).data.toList) | _ => false
/-- What Read tells of an object. -/
def readO (l : List (Bs × J)) : Except Nat (Bs × Int × List Ky) :=
  match docF l with
  | none => .error 4
  | some (s, u, ks) => if ks.all (sgOk l s) then .ok (s, u, ks) else .error 5
def readF (t : Bs) : Except Nat (Bs × Int × List Ky) := match objectF t with | .error n => .error n | .ok l => readO l
end Go.Proofs.YtocligpfmfmihabGreatDoor
namespace Go.Proofs.YtocligpfmfmihabGreatDoor
open Go Go.RowKit Go.Maps

theorem mem_obj_len {l : List (Bs × J)} {a : Bs} {j : J} (h : (a, j) ∈ l) : (cJ j).length ≤ (cJ (.obj l)).length := by
  have := (joinC_le (l.map cMem) 0).2 (cMem (a, j)) (List.mem_map.2 ⟨_, h, rfl⟩)
  rw [cJ_obj]
  simp only [cMem, List.length_append, List.length_cons, List.length_nil] at this ⊢
  omega
theorem keyF_len {old : Bool} {till : Int} {id : Bs} {j : J} {k : Ky} (h : keyF old till id j = some k) : k.key.length ≤ (cJ j).length := by
  rw [keyF_parts] at h
  split at h
  · simp only [Option.bind_eq_some_iff] at h
    obtain ⟨t, h1, h2⟩ := h
    have hk : k.key = t := by
      split at h2
      · simp only [Option.map_eq_some_iff] at h2
        obtain ⟨_, _, rfl⟩ := h2
        rfl
      · simp only [Option.some.injEq] at h2
        subst h2
        rfl
    cases j with
    | obj m =>
      simp only [memF] at h1
      unfold strF at h1
      split at h1
      · rename_i q hq
        injection h1 with h1
        subst h1
        have h3 := child_len hq
        have h4 := cStr_geq q
        rw [cJ] at h3
        rw [hk]
        omega
      · cases h1
    | _ => cases h1
  · cases h
theorem keysF_len {old : Bool} {till : Int} : ∀ {l : List (Bs × J)} {r : List Ky}, keysF old till l = some r → ∀ k ∈ r, k.key.length ≤ (cJ (.obj l)).length
  | [], r, h, k, hk => by
    simp only [keysF, Option.some.injEq] at h
    subst h
    cases hk
  | (id, j) :: l, r, h, k, hk => by
    simp only [keysF, Option.bind_eq_some_iff, Option.map_eq_some_iff] at h
    obtain ⟨q, hq, r', hr, rfl⟩ := h
    rcases List.mem_cons.1 hk with rfl | hk
    · exact Nat.le_trans (keyF_len hq) (mem_obj_len (List.mem_cons_self))
    · have h1 := keysF_len hr k hk
      refine Nat.le_trans h1 ?_
      have h2 := joinC_len cMem l
      have h3 := joinC_len cMem ((id, j) :: l)
      rw [if_neg (by simp)] at h3
      have h4 : sumM cMem ((id, j) :: l) = (cMem (id, j)).length + 1 + sumM cMem l := by simp [sumM]
      rw [cJ_obj, cJ_obj]
      simp only [List.length_cons, List.length_append, List.length_nil]
      split at h2 <;> omega
theorem docF_len {l : List (Bs × J)} {s : Bs} {u : Int} {ks : List Ky} (h : docF l = some (s, u, ks)) : ∀ k ∈ ks, k.key.length ≤ (cJ (.obj l)).length := by
  unfold docF at h
  simp only [Option.bind_eq_some_iff] at h
  obtain ⟨_, _, _, _, h⟩ := h
  split at h
  · rename_i m hm
    split at h
    · simp only [Option.bind_eq_some_iff, Option.map_eq_some_iff, Prod.mk.injEq] at h
      obtain ⟨a, ha, b, hb, q, hq, rfl, rfl, rfl⟩ := h
      intro k hk
      have hkab : k ∈ a ++ b := by
        unfold joinF at hq
        split at hq
        · injection hq with hq
          subst hq
          obtain ⟨p, hp, rfl⟩ := List.mem_map.1 hk
          obtain ⟨k2, hk2, rfl⟩ := List.mem_map.1 (mem_ofL hp)
          exact hk2
        · cases hq
      rcases List.mem_append.1 hkab with hka | hkb
      · exact Nat.le_trans (keysF_len ha k hka) (child_len hm)
      · unfold oldF at hb
        split at hb
        · injection hb with hb
          subst hb
          cases hkb
        · rename_i m2 hm2
          exact Nat.le_trans (keysF_len hb k hkb) (child_len hm2)
        · cases hb
    · cases h
  · cases h
end Go.Proofs.YtocligpfmfmihabGreatDoor
namespace Go.Proofs.YtocligpfmfmihabGreatDoor

/-! ### what a notary knows -/
/-- Of a server and a key's name: the key and how long it is trusted; of a server: its last document; when it was asked for in vain. -/
structure Ldg where
  keys : Bs → Bs → Option (Bs × Int)
  docs : Bs → Option Bs
  asked : Bs → Option Int
def Ldg.zero : Ldg := ⟨fun _ _ => none, fun _ => none, fun _ => none⟩
def capF (now : Int) : Int := if 9223372036854774807 < now then 9223372036854775807 else now + 1000
def tillF (now : Int) (k : Ky) : Int := if k.old then k.till else min k.till (capF now)
/-- A key is trusted. -/
def updK (sn : Bs) (now : Int) (st : Ldg) (k : Ky) : Ldg :=
  { st with keys := fun s i => if s = sn ∧ i = k.id then some (k.key, match st.keys sn k.id with | some p => max (tillF now k) p.2 | none => tillF now k) else st.keys s i }
/-- Has a name come with another key? -/
def cnfK (st : Ldg) (sn : Bs) (k : Ky) : Bool := match st.keys sn k.id with | some p => decide (p.1 ≠ k.key) | none => false
def confF (st : Ldg) (sn : Bs) (ks : List Ky) : Bool := ks.any (cnfK st sn)
def keptS (st : Ldg) (sn text : Bs) : Ldg := { st with docs := fun s => if s = sn then some text else st.docs s }
def takeS (st : Ldg) (sn : Bs) (ks : List Ky) (text : Bs) (now : Int) : Nat × Ldg := if confF st sn ks then (6, st) else (0, keptS (ks.foldl (updK sn now) st) sn text)
def learnS (st : Ldg) (text : Bs) (now : Int) : Nat × Ldg := match readF text with | .error n => (n, st) | .ok (sn, _, ks) => takeS st sn ks text now
def mayS (st : Ldg) (s i : Bs) (at' : Int) : Option Bs := (st.keys s i).bind fun p => if p.2 < at' then none else some p.1
theorem updK_docs (sn : Bs) (now : Int) (st : Ldg) (k : Ky) : (updK sn now st k).docs = st.docs := rfl
theorem updK_asked (sn : Bs) (now : Int) (st : Ldg) (k : Ky) : (updK sn now st k).asked = st.asked := rfl
theorem updK_other (sn : Bs) (now : Int) (st : Ldg) (k : Ky) (s i : Bs) (h : ¬ (s = sn ∧ i = k.id)) : (updK sn now st k).keys s i = st.keys s i := if_neg h
theorem updK_same (sn : Bs) (now : Int) (st : Ldg) (k : Ky) : (updK sn now st k).keys sn k.id = some (k.key, match st.keys sn k.id with | some p => max (tillF now k) p.2 | none => tillF now k) := if_pos ⟨rfl, rfl⟩
theorem fold_docs (sn : Bs) (now : Int) (ks : List Ky) : ∀ st : Ldg, (ks.foldl (updK sn now) st).docs = st.docs := by
  induction ks with
  | nil => intro st; rfl
  | cons k ks ih => intro st; rw [List.foldl_cons, ih, updK_docs]
theorem fold_asked (sn : Bs) (now : Int) (ks : List Ky) : ∀ st : Ldg, (ks.foldl (updK sn now) st).asked = st.asked := by
  induction ks with
  | nil => intro st; rfl
  | cons k ks ih => intro st; rw [List.foldl_cons, ih, updK_asked]
theorem fold_other (sn : Bs) (now : Int) (ks : List Ky) (s : Bs) (h : s ≠ sn) : ∀ (st : Ldg) (i : Bs), (ks.foldl (updK sn now) st).keys s i = st.keys s i := by
  induction ks with
  | nil => intro st i; rfl
  | cons k ks ih => intro st i; rw [List.foldl_cons, ih, updK_other _ _ _ _ _ _ (fun e => h e.1)]
theorem take_succ {α : Type} {l : List α} {i : Nat} {x : α} (h : l[i]? = some x) : l.take (i + 1) = l.take i ++ [x] := by
  have hi : i < l.length := by
    rcases Nat.lt_or_ge i l.length with h' | h'
    · exact h'
    · rw [List.getElem?_eq_none h'] at h; cases h
  rw [List.take_succ_eq_append_getElem hi]
  rw [List.getElem?_eq_getElem hi] at h
  injection h with h
  rw [h]
end Go.Proofs.YtocligpfmfmihabGreatDoor
namespace Go.Proofs.YtocligpfmfmihabGreatDoor

/-! ### what an event says, and what a notary makes of it -/
def kOri : Bs := [111, 114, 105, 103, 105, 110]
def kSen : Bs := [115, 101, 110, 100, 101, 114]
def kTs : Bs := [116, 115]
/-- The servers that must have signed. -/
def srvF (l : List (Bs × J)) : Option (List Bs) :=
  (nameF (lookK kOri l)).bind fun o => match lookK kSen l with | none => some [o] | some j => (nameF (some j)).map fun s => if s = o then [o] else [o, s]
/-- The strings that an event shows for a server. -/
def sgP (p : Bs × J) : Option (Bs × Bs) := match p.2 with | .str t => some (p.1, t) | _ => none
def sigF (l : List (Bs × J)) (s : Bs) : List (Bs × Bs) := (childF s (childF kSig l)).filterMap sgP
/-- What an event says of one server. -/
structure Clm where
  server : Bs
  ts : Int
  msg : Bs
  sigs : List (Bs × Bs)
def clmF (l : List (Bs × J)) : Option (List Clm) := (srvF l).bind fun ss => (momF (lookK kTs l)).map fun t => ss.map fun s => ⟨s, t, bareF l, sigF l s⟩
def takeF (text : Bs) : Except Nat (List Clm) := match objectF text with | .error n => .error n | .ok l => match clmF l with | none => .error 7 | some cs => .ok cs
def hasS (st : Ldg) (c : Clm) : Bool := c.sigs.any fun p => (mayS st c.server p.1 c.ts).isSome
def wantS (st : Ldg) (c : Clm) : Bool := decide (0 < c.sigs.length) && !hasS st c
/-- A reply. -/
structure Rpl where
  src : Bs
  srv : Bs
  text : Bs
  fails : Bool
def fetF (rs : List Rpl) (source server : Bs) : Option Bs := (rs.find? fun r => decide (r.src = source) && decide (r.srv = server)).bind fun r => if r.fails then none else some r.text
/-- What a source tells is taken in. -/
def fromS (rs : List Rpl) (now : Int) (srv : Bs) (st : Ldg) (src : Bs) : Bool × Ldg :=
  match fetF rs src srv with
  | none => (false, st)
  | some t => match readF t with
    | .error _ => (false, st)
    | .ok (sn, _, ks) => if sn = srv then (decide ((takeS st sn ks t now).1 = 0), (takeS st sn ks t now).2) else (false, st)
/-- One source behind the other. -/
def askL (rs : List Rpl) (now : Int) (c : Clm) : Ldg → List Bs → Nat → Nat × Bool × Ldg
  | st, [], n => (n, false, st)
  | st, src :: r, n => if (fromS rs now c.server st src).1 && hasS (fromS rs now c.server st src).2 c then (n + 1, true, (fromS rs now c.server st src).2) else askL rs now c (fromS rs now c.server st src).2 r (n + 1)
def srcsF (srv : Bs) (sources : List Bs) : List Bs := srv :: sources.filter fun s => decide (s ≠ srv)
def vainS (st : Ldg) (srv : Bs) (now : Int) : Ldg := { st with asked := fun s => if s = srv then some now else st.asked s }
def soonS (st : Ldg) (srv : Bs) (now : Int) : Bool := match st.asked srv with | some t => decide (now < t + 50) | none => false
def fetchS (rs : List Rpl) (now : Int) (sources : List Bs) (st : Ldg) (c : Clm) : Nat × Ldg :=
  if (askL rs now c st (srcsF c.server sources) 0).2.1 then ((askL rs now c st (srcsF c.server sources) 0).1, (askL rs now c st (srcsF c.server sources) 0).2.2)
  else ((askL rs now c st (srcsF c.server sources) 0).1, vainS (askL rs now c st (srcsF c.server sources) 0).2.2 c.server now)
def oneS (rs : List Rpl) (now : Int) (sources : List Bs) (st : Ldg) (c : Clm) : Nat × Ldg := if wantS st c && !soonS st c.server now then fetchS rs now sources st c else (0, st)
end Go.Proofs.YtocligpfmfmihabGreatDoor
namespace Go.Proofs.YtocligpfmfmihabGreatDoor
open Go Go.Lib

/-! ### plain names, moments, and what is written of them -/
/-- A name of small letters. -/
structure Nm (s : Bs) : Prop where
  low : ∀ c ∈ s, 97 ≤ c.toNat ∧ c.toNat ≤ 122
  one : 1 ≤ s.length
  few : s.length ≤ 9
theorem Nm.valid {s : Bs} (h : Nm s) : validD s = true := by
  have := validD_low s [] (fun b hb => by have := h.low b hb; omega)
  rwa [List.append_nil] at this
theorem cB_lw {c : UInt8} (h : 97 ≤ c.toNat ∧ c.toNat ≤ 122) : cB c = [c] := by
  have hc : ∀ d : UInt8, (d.toNat < 97 ∨ 122 < d.toNat ) → ¬ c = d := by
    rintro d hd rfl
    omega
  unfold cB
  rw [if_neg (by rintro (rfl | rfl) <;> simp at h), if_neg (by rintro rfl; simp at h), if_neg (by rintro rfl; simp at h), if_neg (by rintro rfl; simp at h), if_neg (by rintro rfl; simp at h), if_neg (by rintro rfl; simp at h), if_neg]
  intro hlt
  have : c.toNat < 32 := hlt
  omega
theorem flat_low {s : Bs} (h : ∀ c ∈ s, 97 ≤ c.toNat ∧ c.toNat ≤ 122) : s.flatMap cB = s := by
  induction s with
  | nil => rfl
  | cons c s ih => rw [List.flatMap_cons, cB_lw (h c (by simp)), ih (fun d hd => h d (by simp [hd]))]; rfl
theorem Nm.cStr {s : Bs} (h : Nm s) : cStr s = 34 :: (s ++ [34]) := by
  unfold Go.Proofs.YtocligpfmfmihabGreatDoor.cStr
  rw [flat_low h.low]
/-- A moment from 0 to 9,999. -/
def momS (n : Int) : Int := (if n < 0 then -(n + 1) else n) % 10000
theorem momS_ok (n : Int) : 0 ≤ momS n ∧ momS n < 10000 := by
  unfold momS
  omega
theorem decN_ln {n : Nat} (h : n < 100000) : (decN n).length ≤ 5 := by
  unfold decN
  split
  · simp
  · rw [List.length_append, List.length_singleton]
    unfold decN
    split
    · simp
    · rw [List.length_append, List.length_singleton]
      unfold decN
      split
      · simp
      · rw [List.length_append, List.length_singleton]
        unfold decN
        split
        · simp
        · rw [List.length_append, List.length_singleton]
          unfold decN
          rw [if_pos (by omega)]
          simp
/-- A document of one key. -/
def docL (s id k : Bs) (till : Int) : List (Bs × J) := [(kSrv, .str s), (kUnt, .num till), (kVer, .obj [(id, .obj [(kKey, .str k)])])]
theorem low_valid {l : Bs} (h : l.all (fun c => decide (c.toNat < 128)) = true) : validD l = true := by
  have := validD_low l [] (fun b hb => by simpa using List.all_eq_true.1 h b hb)
  rwa [List.append_nil] at this
theorem docL_wf {s id k : Bs} {till : Int} (hs : Nm s) (hi : validD id = true) (hk : Nm k) (h0 : 0 ≤ till) (h1 : till < 100000) : WF 6 (.obj (docL s id k till)) := by
  have v1 : validD kSrv = true := low_valid (by decide)
  have v2 : validD kUnt = true := low_valid (by decide)
  have v3 : validD kVer = true := low_valid (by decide)
  have v4 : validD kKey = true := low_valid (by decide)
  simp only [docL, WF, WFm, v1, v2, v3, v4, hs.valid, hk.valid, hi, true_and, and_true]
  refine ⟨?_, ?_, ?_⟩
  · unfold Srt
    simp only [List.pairwise_cons, List.mem_cons, List.not_mem_nil, or_false, forall_eq_or_imp, forall_eq, false_implies, implies_true, List.Pairwise.nil, and_true]
    decide
  · unfold maxNum
    omega
  · unfold Srt
    simp
theorem cNum_pos {n : Int} (h : 0 ≤ n) : cNum n = decN n.toNat := by
  unfold cNum
  rw [if_neg (by omega)]
  congr 1
  omega
theorem docL_text {s id k : Bs} {till : Int} (hs : Nm s) (hi : ∀ c ∈ id, 97 ≤ c.toNat ∧ c.toNat ≤ 122) (hk : Nm k) (h0 : 0 ≤ till) : cJ (.obj (docL s id k till)) =
    123 :: 34 :: (kSrv ++ 34 :: 58 :: 34 :: (s ++ 34 :: 44 :: 34 :: (kUnt ++ 34 :: 58 :: (decN till.toNat ++ 44 :: 34 :: (kVer ++ 34 :: 58 :: 123 :: 34 :: (id ++ 34 :: 58 :: 123 :: 34 :: (kKey ++ 34 :: 58 :: 34 :: (k ++ [34, 125, 125, 125]))))))))  := by
  have e1 : cStr kSrv = 34 :: (kSrv ++ [34]) := by decide
  have e2 : cStr kUnt = 34 :: (kUnt ++ [34]) := by decide
  have e3 : cStr kVer = 34 :: (kVer ++ [34]) := by decide
  have e4 : cStr kKey = 34 :: (kKey ++ [34]) := by decide
  have e5 : cStr id = 34 :: (id ++ [34]) := by unfold cStr; rw [flat_low hi]
  simp [docL, cJ, cMs, joinC, hs.cStr, hk.cStr, cNum_pos h0, e1, e2, e3, e4, e5]
end Go.Proofs.YtocligpfmfmihabGreatDoor

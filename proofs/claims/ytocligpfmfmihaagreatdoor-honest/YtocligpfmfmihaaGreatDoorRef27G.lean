import Derived.Test.YtocligpfmfmihaaGreatDoorRef20G
import Derived.Test.YtocligpfmfmihaaGreatDoorSizeG
import Derived.Deep.CutRange
namespace Go.Proofs.YtocligpfmfmihaaGreatDoor
open Go Go.RowKit Go.Maps
def PoL (w : World) (po : Option Addr) (l : List (Bs × J)) : Prop :=
 (l = [] ∧ (po = none ∨ ∃ b kind n t K L, po = some ⟨b, 0, none⟩ ∧ w.heap[b]? = some (vCells kind n t K L) ∧ kind ≠ 123)) ∨
 ((cJ (.obj l)).length ≤ 600 ∧ ∃ b, po = some ⟨b, 0, none⟩ ∧ RR w (fun c => c < w.heap.size) (.obj l) b)
theorem PoL.kp {w w' : World} {po : Option Addr} {l : List (Bs × J)} (h : PoL w po l) (hk : Kp (fun _ => False) w w') : PoL w' po l := by
 rcases h with ⟨h1, h2⟩ | ⟨h0, b, h1, h2⟩
 ·refine Or.inl ⟨h1, ?_⟩
  rcases h2 with h2 | ⟨b, kind, n, t, K, L, e, hb, hk'⟩
  ·exact Or.inl h2
  ·exact Or.inr ⟨b, kind, n, t, K, L, e, vkp hb hk, hk'⟩
 ·exact Or.inr ⟨h0, b, h1, h2.frame (fun k hk2 => hk.block k hk2 (by simp)) (fun k hk2 => Nat.lt_of_lt_of_le hk2 hk.size)⟩
theorem RR.parts {w : World} {F : Nat → Prop} {l : List (Bs × J)} {b : Nat} (h : RR w F (.obj l) b) : ∃ (x : List (Bs × J × Nat)) (K L : Value), w.heap[b]? = some (vCells 123 0 [] K L) ∧ w.ownsRow 0 9 1 K x.length (x.map fun p => .string ⟨p.1.toArray⟩) ∧ w.ownsRow 0 66 1 L x.length (x.map fun p => ptr p.2.2) ∧
  Nod (x.map fun p : Bs × J × Nat => (p.1, p.2.1)) ∧ (∀ a j c, (a, j, c) ∈ x → RR w F j c) ∧ l = ofL (x.map fun p => (p.1, p.2.1)) := by
 generalize hJ : J.obj l = j at h
 cases h with
 | obj x K L hFb h hK hL hG hH hN hx =>
  injection hJ with hJ
  exact ⟨x, K, L, h, hK, hL, hN, hx, hJ⟩
 | _ => cases hJ
theorem child_len {k : Bs} {l : List (Bs × J)} {j : J} (h : lookK k l = some j) : (cJ j).length ≤ (cJ (.obj l)).length := by
 have hm := lookK_mem h
 have := (joinC_le (l.map cMem) 0).2 (cMem (k, j)) (List.mem_map.2 ⟨_, hm, rfl⟩)
 rw [cJ_obj]
 simp only [cMem, List.length_append, List.length_cons, List.length_nil] at this ⊢
 omega
end Go.Proofs.YtocligpfmfmihaaGreatDoor
namespace Go.Proofs.YtocligpfmfmihaaGreatDoor
open Go.Lib
structure Ky where
 id : Bs
 key : Bs
 old : Bool
 till : Int
def kSrv : Bs := [115, 101, 114, 118, 101, 114, 95, 110, 97, 109, 101]
def kUnt : Bs := [118, 97, 108, 105, 100, 95, 117, 110, 116, 105, 108, 95, 116, 115]
def kVer : Bs := [118, 101, 114, 105, 102, 121, 95, 107, 101, 121, 115]
def kOld : Bs := [111, 108, 100, 95, 118, 101, 114, 105, 102, 121, 95, 107, 101, 121, 115]
def kKey : Bs := [107, 101, 121]
def kExp : Bs := [101, 120, 112, 105, 114, 101, 100, 95, 116, 115]
def isNm (s : Bs) : Bool := decide (1 ≤ s.length) && decide (s.length ≤ 20)
def strF : Option J → Option Bs | some (.str s) => some s | _ => none
def nameF (o : Option J) : Option Bs := (strF o).bind fun s => if isNm s then some s else none
def momF : Option J → Option Int | some (.num n) => if 0 ≤ n then some n else none | _ => none
def keyF (old : Bool) (till : Int) (id : Bs) (j : J) : Option Ky :=
 if isNm id then
  match j with
  | .obj m => (strF (lookK kKey m)).bind fun k => if old then (momF (lookK kExp m)).map fun t => ⟨id, k, true, t⟩ else some ⟨id, k, false, till⟩
  | _ => none
 else none
def keysF (old : Bool) (till : Int) : List (Bs × J) → Option (List Ky)
 | [] => some []
 | (id, j) :: l => (keyF old till id j).bind fun k => (keysF old till l).map fun r => k :: r
def joinF (a b : List Ky) : Option (List Ky) :=
 if (((a ++ b).map (·.id)).Nodup) then some ((ofL ((a ++ b).map fun k => (k.id, k))).map (·.2)) else none
def oldF (l : List (Bs × J)) : Option (List Ky) := match lookK kOld l with | none => some [] | some (.obj m) => keysF true 0 m | some _ => none
def docF (l : List (Bs × J)) : Option (Bs × Int × List Ky) :=
 (nameF (lookK kSrv l)).bind fun s => (momF (lookK kUnt l)).bind fun u =>
  match lookK kVer l with
  | some (.obj m) => if 1 ≤ m.length ∧ m.length ≤ 4 then (keysF false u m).bind fun a => (oldF l).bind fun b => (joinF a b).map fun ks => (s, u, ks) else none
  | _ => none
theorem keysF_ids {old : Bool} {till : Int} : ∀ {l : List (Bs × J)} {r : List Ky}, keysF old till l = some r → r.map (·.id) = l.map (·.1) ∧ ∀ k ∈ r, k.old = old ∧ isNm k.id = true
 | [], r, h => by
  simp only [keysF, Option.some.injEq] at h
  subst h
  exact ⟨rfl, by simp⟩
 | (id, j) :: l, r, h => by
  simp only [keysF, Option.bind_eq_some_iff, Option.map_eq_some_iff] at h
  obtain ⟨k, hk, q, hq, rfl⟩ := h
  obtain ⟨h1, h2⟩ := keysF_ids hq
  have hk' : k.id = id ∧ k.old = old ∧ isNm id = true := by
   unfold keyF at hk
   split at hk
   ·rename_i hn
    split at hk
    ·simp only [Option.bind_eq_some_iff] at hk
     obtain ⟨a, _, hk⟩ := hk
     split at hk
     ·rename_i ho
      simp only [Option.map_eq_some_iff] at hk
      obtain ⟨t, _, rfl⟩ := hk
      exact ⟨rfl, by simp [ho], hn⟩
     ·rename_i ho
      simp only [Option.some.injEq] at hk
      subst hk
      exact ⟨rfl, by simpa using ho, hn⟩
    ·cases hk
   ·cases hk
  refine ⟨by simp [h1, hk'.1], ?_⟩
  intro x hx
  rcases List.mem_cons.1 hx with rfl | hx
  ·exact ⟨hk'.2.1, by rw [hk'.1]; exact hk'.2.2⟩
  ·exact h2 x hx
end Go.Proofs.YtocligpfmfmihaaGreatDoor
namespace Go.Proofs.YtocligpfmfmihaaGreatDoor
open Go Go.RowKit Go.Maps
def PoJ (w : World) (po : Option Addr) (o : Option J) : Prop :=
 (po = none ∧ o = none) ∨ ∃ b j, po = some ⟨b, 0, none⟩ ∧ o = some j ∧ (cJ j).length ≤ 600 ∧ RR w (fun c => c < w.heap.size) j b
theorem PoJ.kp {w w' : World} {po : Option Addr} {o : Option J} (h : PoJ w po o) (hk : Kp (fun _ => False) w w') : PoJ w' po o := by
 rcases h with h | ⟨b, j, h1, h2, h0, h3⟩
 ·exact Or.inl h
 ·exact Or.inr ⟨b, j, h1, h2, h0, h3.frame (fun k hk2 => hk.block k hk2 (by simp)) (fun k hk2 => Nat.lt_of_lt_of_le hk2 hk.size)⟩
def memF (key : Bs) : Option J → Option J | some (.obj l) => lookK key l | _ => none
end Go.Proofs.YtocligpfmfmihaaGreatDoor
namespace Go.Proofs.YtocligpfmfmihaaGreatDoor
open Go Go.RowKit Go.Maps
theorem infoKey : (Tryz.prog.info? 35).map (fun i => (i.zero, i.size, i.bytes)) = some (some (.agg #[.string ⟨#[]⟩, .string ⟨#[]⟩, .bool false, .int .i64 0]), 4, 48) := by kernel_rfl
def kyC (k : Ky) : List Value := [.string ⟨k.id.toArray⟩, .string ⟨k.key.toArray⟩, .bool k.old, .int .i64 k.till]
theorem keysF_snoc (old : Bool) (till : Int) (l : List (Bs × J)) (id : Bs) (j : J) : keysF old till (l ++ [(id, j)]) = (keysF old till l).bind fun r => (keyF old till id j).map fun k => r ++ [k] := by
 induction l with
 | nil => cases h : keyF old till id j <;> simp [keysF, h]
 | cons p l ih =>
  obtain ⟨a, q⟩ := p
  simp only [List.cons_append, keysF, ih]
  cases keyF old till a q with
  | none => rfl
  | some k =>
   simp only [Option.bind_some]
   cases keysF old till l with
   | none => rfl
   | some r => cases keyF old till id j <;> simp
theorem kyC_len (l : List Ky) : (l.flatMap kyC).length = l.length * 4 := by
 induction l with
 | nil => rfl
 | cons k l ih =>
  simp only [List.flatMap_cons, List.length_append, List.length_cons, ih, kyC, List.length_nil]
  omega
theorem keyF_parts (old : Bool) (till : Int) (id : Bs) (j : J) : keyF old till id j =
  if isNm id = true then (strF (memF kKey (some j))).bind fun k => if old then (momF (memF kExp (some j))).map fun t => ⟨id, k, true, t⟩ else some ⟨id, k, false, till⟩ else none := by
 unfold keyF
 by_cases h : isNm id = true
 ·rw [if_pos h, if_pos h]
  cases j with
  | obj m => rfl
  | _ => rfl
 ·rw [if_neg h, if_neg h]
end Go.Proofs.YtocligpfmfmihaaGreatDoor
namespace Go.Proofs.YtocligpfmfmihaaGreatDoor
open Go Go.RowKit Go.Maps
end Go.Proofs.YtocligpfmfmihaaGreatDoor

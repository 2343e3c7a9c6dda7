import Derived.Test.YtocligpfmfmihabGreatDoorCanG
import Derived.Deep.CutRange
import Derived.Test.YtocligpfmfmihabGreatDoorCoreG
namespace Go.Proofs.YtocligpfmfmihabGreatDoor
open Go Go.RowKit Go.Maps

/-- What stands at a pointer, as an object's members: none where it is none. -/
def PoL (w : World) (po : Option Addr) (l : List (Bs × J)) : Prop :=
  (l = [] ∧ (po = none ∨ ∃ b kind n t K L, po = some ⟨b, 0, none⟩ ∧ w.heap[b]? = some (vCells kind n t K L) ∧ kind ≠ 123)) ∨
  ((cJ (.obj l)).length ≤ 600 ∧ ∃ b, po = some ⟨b, 0, none⟩ ∧ RR w (fun c => c < w.heap.size) (.obj l) b)
theorem PoL.kp {w w' : World} {po : Option Addr} {l : List (Bs × J)} (h : PoL w po l) (hk : Kp (fun _ => False) w w') : PoL w' po l := by
  rcases h with ⟨h1, h2⟩ | ⟨h0, b, h1, h2⟩
  · refine Or.inl ⟨h1, ?_⟩
    rcases h2 with h2 | ⟨b, kind, n, t, K, L, e, hb, hk'⟩
    · exact Or.inl h2
    · exact Or.inr ⟨b, kind, n, t, K, L, e, vkp hb hk, hk'⟩
  · exact Or.inr ⟨h0, b, h1, h2.frame (fun k hk2 => hk.block k hk2 (by simp)) (fun k hk2 => Nat.lt_of_lt_of_le hk2 hk.size)⟩
/-- The parts of an object at a block. -/
theorem RR.parts {w : World} {F : Nat → Prop} {l : List (Bs × J)} {b : Nat} (h : RR w F (.obj l) b) : ∃ (x : List (Bs × J × Nat)) (K L : Value), w.heap[b]? = some (vCells 123 0 [] K L) ∧ w.ownsRow 0 9 1 K x.length (x.map fun p => .string ⟨p.1.toArray⟩) ∧ w.ownsRow 0 0 1 L x.length (x.map fun p => ptr p.2.2) ∧
    Nod (x.map fun p : Bs × J × Nat => (p.1, p.2.1)) ∧ (∀ a j c, (a, j, c) ∈ x → RR w F j c) ∧ l = ofL (x.map fun p => (p.1, p.2.1)) := by
  generalize hJ : J.obj l = j at h
  cases h with
  | obj x K L hFb h hK hL hG hH hN hx =>
    injection hJ with hJ
    exact ⟨x, K, L, h, hK, hL, hN, hx, hJ⟩
  | _ => cases hJ
theorem child_len {k : Bs} {l : List (Bs × J)} {j : J} (h : lookK k l = some j) : (cJ j).length ≤ (cJ (.obj l)).length := by
  have hm := lookK_mem h
  have := (joinC_le (l.map cMem) 0).2 (cMem (k, j)) (List.mem_map.2 ⟨_, hm, rfl⟩)
  rw [cJ_obj]
  simp only [cMem, List.length_append, List.length_cons, List.length_nil] at this ⊢
  omega
end Go.Proofs.YtocligpfmfmihabGreatDoor
namespace Go.Proofs.YtocligpfmfmihabGreatDoor
open Go.Lib

/-! ### what a document of keys says -/
/-- A key of a document. -/
structure Ky where
  id : Bs
  key : Bs
  old : Bool
  till : Int
def kSrv : Bs := [115, 101, 114, 118, 101, 114, 95, 110, 97, 109, 101]
def kUnt : Bs := [118, 97, 108, 105, 100, 95, 117, 110, 116, 105, 108, 95, 116, 115]
def kVer : Bs := [118, 101, 114, 105, 102, 121, 95, 107, 101, 121, 115]
def kOld : Bs := [111, 108, 100, 95, 118, 101, 114, 105, 102, 121, 95, 107, 101, 121, 115]
def kKey : Bs := [107, 101, 121]
def kExp : Bs := [101, 120, 112, 105, 114, 101, 100, 95, 116, 115]
def isNm (s : Bs) : Bool := decide (1 ≤ s.length) && decide (s.length ≤ 20)
/-- The text of a value. -/
def strF : Option J → Option Bs | some (.str s) => some s | _ => none
def nameF (o : Option J) : Option Bs := (strF o).bind fun s => if isNm s then some s else none
/-- A moment. -/
def momF : Option J → Option Int | some (.num n) => if 0 ≤ n then some n else none | _ => none
/-- One key. -/
def keyF (old : Bool) (till : Int) (id : Bs) (j : J) : Option Ky :=
  if isNm id then
    match j with
    | .obj m => (strF (lookK kKey m)).bind fun k => if old then (momF (lookK kExp m)).map fun t => ⟨id, k, true, t⟩ else some ⟨id, k, false, till⟩
    | _ => none
  else none
def keysF (old : Bool) (till : Int) : List (Bs × J) → Option (List Ky)
  | [] => some []
  | (id, j) :: l => (keyF old till id j).bind fun k => (keysF old till l).map fun r => k :: r
/-- Both lists as one, in the order of the names; none: a name is in both. -/
def joinF (a b : List Ky) : Option (List Ky) :=
  if (((a ++ b).map (·.id)).Nodup) then some ((ofL ((a ++ b).map fun k => (k.id, k))).map (·.2)) else none
def oldF (l : List (Bs × J)) : Option (List Ky) := match lookK kOld l with | none => some [] | some (.obj m) => keysF true 0 m | some _ => none
def docF (l : List (Bs × J)) : Option (Bs × Int × List Ky) :=
  (nameF (lookK kSrv l)).bind fun s => (momF (lookK kUnt l)).bind fun u =>
    match lookK kVer l with
    | some (.obj m) => if 1 ≤ m.length ∧ m.length ≤ 4 then (keysF false u m).bind fun a => (oldF l).bind fun b => (joinF a b).map fun ks => (s, u, ks) else none
    | _ => none
theorem keysF_ids {old : Bool} {till : Int} : ∀ {l : List (Bs × J)} {r : List Ky}, keysF old till l = some r → r.map (·.id) = l.map (·.1) ∧ ∀ k ∈ r, k.old = old ∧ isNm k.id = true
  | [], r, h => by
    simp only [keysF, Option.some.injEq] at h
    subst h
    exact ⟨rfl, by simp⟩
  | (id, j) :: l, r, h => by
    simp only [keysF, Option.bind_eq_some_iff, Option.map_eq_some_iff] at h
    obtain ⟨k, hk, q, hq, rfl⟩ := h
    obtain ⟨h1, h2⟩ := keysF_ids hq
    have hk' : k.id = id ∧ k.old = old ∧ isNm id = true := by
      unfold keyF at hk
      split at hk
      · rename_i hn
        split at hk
        · simp only [Option.bind_eq_some_iff] at hk
          obtain ⟨a, _, hk⟩ := hk
          split at hk
          · rename_i ho
            simp only [Option.map_eq_some_iff] at hk
            obtain ⟨t, _, rfl⟩ := hk
            exact ⟨rfl, by simp [ho], hn⟩
          · rename_i ho
            simp only [Option.some.injEq] at hk
            subst hk
            exact ⟨rfl, by simpa using ho, hn⟩
        · cases hk
      · cases hk
    refine ⟨by simp [h1, hk'.1], ?_⟩
    intro x hx
    rcases List.mem_cons.1 hx with rfl | hx
    · exact ⟨hk'.2.1, by rw [hk'.1]; exact hk'.2.2⟩
    · exact h2 x hx
end Go.Proofs.YtocligpfmfmihabGreatDoor
namespace Go.Proofs.YtocligpfmfmihabGreatDoor
open Go Go.RowKit Go.Maps

/-- What stands at a pointer. -/
def PoJ (w : World) (po : Option Addr) (o : Option J) : Prop :=
  (po = none ∧ o = none) ∨ ∃ b j, po = some ⟨b, 0, none⟩ ∧ o = some j ∧ (cJ j).length ≤ 600 ∧ RR w (fun c => c < w.heap.size) j b
theorem PoJ.kp {w w' : World} {po : Option Addr} {o : Option J} (h : PoJ w po o) (hk : Kp (fun _ => False) w w') : PoJ w' po o := by
  rcases h with h | ⟨b, j, h1, h2, h0, h3⟩
  · exact Or.inl h
  · exact Or.inr ⟨b, j, h1, h2, h0, h3.frame (fun k hk2 => hk.block k hk2 (by simp)) (fun k hk2 => Nat.lt_of_lt_of_le hk2 hk.size)⟩
/-- The member of a key. -/
def memF (key : Bs) : Option J → Option J | some (.obj l) => lookK key l | _ => none
end Go.Proofs.YtocligpfmfmihabGreatDoor
namespace Go.Proofs.YtocligpfmfmihabGreatDoor
open Go Go.RowKit Go.Maps

theorem infoKey : (Tryz.prog.info? 148).map (fun i => (i.zero, i.size, i.bytes)) = some (some (.agg #[.string ⟨#[]⟩, .string ⟨#[]⟩, .bool false, .int .i64 0]), 4, 48) := by kernel_rfl
/-- The cells of a key. -/
def kyC (k : Ky) : List Value := [.string ⟨k.id.toArray⟩, .string ⟨k.key.toArray⟩, .bool k.old, .int .i64 k.till]
theorem keysF_snoc (old : Bool) (till : Int) (l : List (Bs × J)) (id : Bs) (j : J) : keysF old till (l ++ [(id, j)]) = (keysF old till l).bind fun r => (keyF old till id j).map fun k => r ++ [k] := by
  induction l with
  | nil => cases h : keyF old till id j <;> simp [keysF, h]
  | cons p l ih =>
    obtain ⟨a, q⟩ := p
    simp only [List.cons_append, keysF, ih]
    cases keyF old till a q with
    | none => rfl
    | some k =>
      simp only [Option.bind_some]
      cases keysF old till l with
      | none => rfl
      | some r => cases keyF old till id j <;> simp
theorem kyC_len (l : List Ky) : (l.flatMap kyC).length = l.length * 4 := by
  induction l with
  | nil => rfl
  | cons k l ih =>
    simp only [List.flatMap_cons, List.length_append, List.length_cons, ih, kyC, List.length_nil]
    omega
/-- One key, by its parts. -/
theorem keyF_parts (old : Bool) (till : Int) (id : Bs) (j : J) : keyF old till id j =
    if isNm id = true then (strF (memF kKey (some j))).bind fun k => if old then (momF (memF kExp (some j))).map fun t => ⟨id, k, true, t⟩ else some ⟨id, k, false, till⟩ else none := by
  unfold keyF
  by_cases h : isNm id = true
  · rw [if_pos h, if_pos h]
    cases j with
    | obj m => rfl
    | _ => rfl
  · rw [if_neg h, if_neg h]
end Go.Proofs.YtocligpfmfmihabGreatDoor
namespace Go.Proofs.YtocligpfmfmihabGreatDoor
open Go Go.RowKit Go.Maps

theorem flat_at (ks : List Ky) (i : Nat) (k : Ky) (h : ks[i]? = some k) (f : Nat) (hf : f < 4) : (ks.flatMap kyC)[i * 4 + f]? = (kyC k)[f]? := by
  induction ks generalizing i with
  | nil => cases h
  | cons a l ih =>
    cases i with
    | zero =>
      simp at h
      subst h
      rw [List.flatMap_cons, List.getElem?_append_left (by simp [kyC]; omega)]
      simp
    | succ i =>
      rw [List.flatMap_cons, List.getElem?_append_right (by simp [kyC]; omega)]
      have : (i + 1) * 4 + f - (kyC a).length = i * 4 + f := by simp [kyC]; omega
      rw [this]
      exact ih i (by simpa using h)
theorem ky_cells {w : World} {B : Nat} {g n c : Nat} {ks : List Ky} (h : w.ownsRow B 148 4 (.slice (some ⟨g, 0, none⟩) n c) n (ks.flatMap kyC)) (i : Nat) (k : Ky) (hk : ks[i]? = some k) :
    w.cell? ⟨g, i * 4, none⟩ = some (.string ⟨k.id.toArray⟩) ∧ w.cell? ⟨g, i * 4 + 1, none⟩ = some (.string ⟨k.key.toArray⟩) ∧ w.cell? ⟨g, i * 4 + 2, none⟩ = some (.bool k.old) ∧ w.cell? ⟨g, i * 4 + 3, none⟩ = some (.int .i64 k.till) := by
  have hc := h.cells (g := g) rfl
  have q : ∀ f u, f < 4 → (kyC k)[f]? = some u → w.cell? ⟨g, i * 4 + f, none⟩ = some u := by
    intro f u hf hu
    have := hc (i * 4 + f) u (by rw [flat_at ks i k hk f hf]; exact hu)
    rw [Addr.add_lit] at this
    simpa using this
  exact ⟨q 0 _ (by omega) rfl, q 1 _ (by omega) rfl, q 2 _ (by omega) rfl, q 3 _ (by omega) rfl⟩
theorem own_slice4 {w : World} {B : Nat} {e : TypeId} {v : Value} {n : Nat} {xs : List Value} (h : w.ownsRow B e 4 v n xs) : ∃ a c, v = .slice a n c ∧ (0 < n → ∃ g, a = some ⟨g, 0, none⟩ ∧ g < w.heap.size) := by
  have h2 := h
  obtain ⟨_, ⟨rfl, rfl⟩ | ⟨g, cap, cur, rfl, _⟩⟩ := h
  · exact ⟨_, _, rfl, fun h => absurd h (by omega)⟩
  · exact ⟨_, _, rfl, fun _ => ⟨g, rfl, (h2.lt g rfl).2⟩⟩
theorem ofL_lenK (ks : List Ky) (h : (ks.map (·.id)).Nodup) : ((ofL (ks.map fun k => (k.id, k))).map (·.2)).length = ks.length := by
  have hn : Nod (ks.map fun k => (k.id, k)) := by
    unfold Nod
    rw [List.map_map]
    exact h
  have := congrArg List.length (ordIx_ofL _ hn ks.length (by simp))
  rw [List.length_map, List.length_map, ordIx_len, List.take_of_length_le (by simp)] at this
  rw [List.length_map]
  exact this.symm
end Go.Proofs.YtocligpfmfmihabGreatDoor
namespace Go.Proofs.YtocligpfmfmihabGreatDoor
open Go Go.RowKit Go.Maps

theorem own_base {w : World} {B B' : Nat} {e : TypeId} {sz n : Nat} {v : Value} {xs : List Value} (hb : B ≤ B') (h : w.ownsRow B' e sz v n xs) : w.ownsRow B e sz v n xs := by
  obtain ⟨h1, h2⟩ := h
  refine ⟨h1, ?_⟩
  rcases h2 with h2 | ⟨g, cap, cur, rfl, hg, r⟩
  · exact Or.inl h2
  · exact Or.inr ⟨g, cap, cur, rfl, Nat.le_trans hb hg, r⟩
end Go.Proofs.YtocligpfmfmihabGreatDoor
namespace Go.Proofs.YtocligpfmfmihabGreatDoor
open Go.Lib

theorem insK_perm {α : Type} (k : Bs) (v : α) : ∀ (l : List (Bs × α)), lookK k l = none → (insK k v l).Perm ((k, v) :: l)
  | [], _ => List.Perm.refl _
  | (a, x) :: l, h => by
    have hne : a ≠ k := by
      intro e
      simp [lookK, e] at h
    have h' : lookK k l = none := by simpa [lookK, hne] using h
    unfold insK
    split
    · exact List.Perm.refl _
    · exact ((insK_perm k v l h').cons (a, x)).trans (List.Perm.swap _ _ _)
theorem ofL_perm_self {α : Type} (m : List (Bs × α)) (h : Nod m) : (ofL m).Perm m := by
  have : ∀ n (m : List (Bs × α)), m.length = n → Nod m → (ofL m).Perm m := by
    intro n
    induction n with
    | zero => intro m hm _; obtain rfl := List.eq_nil_of_length_eq_zero hm; exact List.Perm.refl _
    | succ n ih =>
      intro m hm hn
      have hne : m ≠ [] := by intro e; subst e; simp at hm
      obtain ⟨l, p, rfl⟩ : ∃ l p, m = l ++ [p] := ⟨m.dropLast, m.getLast hne, (List.dropLast_concat_getLast hne).symm⟩
      obtain ⟨a, x⟩ := p
      obtain ⟨h1, h2⟩ := (nod_snoc l a x).1 hn
      rw [ofL_snoc]
      have hl : lookK a (ofL l) = none := by rw [lookK_ofL _ _ h1]; exact h2
      refine (insK_perm a x _ hl).trans ?_
      refine ((ih l (by simpa using hm) h1).cons (a, x)).trans ?_
      exact (List.perm_append_singleton (a, x) l).symm
  exact this m.length m rfl h
theorem ofL_perm {α : Type} {a b : List (Bs × α)} (h : a.Perm b) (hn : Nod a) : ofL a = ofL b := by
  have hnb : Nod b := by
    unfold Nod at *
    exact ((h.map _).nodup_iff).1 hn
  have hp : (ofL a).Perm (ofL b) := ((ofL_perm_self a hn).trans h).trans (ofL_perm_self b hnb).symm
  refine List.Perm.eq_of_pairwise ?_ (srt_ofL a) (srt_ofL b) hp
  intro x y _ _ h1 h2
  exact absurd (lt_tr h1 h2) (lt_irr _)
end Go.Proofs.YtocligpfmfmihabGreatDoor

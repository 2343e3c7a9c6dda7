import Derived.Test.YtocligpfmfmihaaGreatDoorRef17G
import Derived.Test.YtocligpfmfmihaaGreatDoorRef12G
import Derived.Test.YtocligpfmfmihaaGreatDoorCanG
import Derived.Deep.CutRange
namespace Go.Proofs.YtocligpfmfmihaaGreatDoor
open Go Go.RowKit Go.Maps

end Go.Proofs.YtocligpfmfmihaaGreatDoor
namespace Go.Proofs.YtocligpfmfmihaaGreatDoor
open Go Go.RowKit Go.Maps

/-- The sign of a tree's kind. -/
def rkind : J → Nat | .null => 110 | .bool true => 116 | .bool false => 102 | .num _ => 35 | .str _ => 34 | .arr _ => 91 | .obj _ => 123
theorem RR.kind {w : World} {F : Nat → Prop} {j : J} {b : Nat} (h : RR w F j b) : ∃ n t K L, w.heap[b]? = some (vCells (rkind j) n t K L) := by
  cases h with
  | null hF h => exact ⟨_, _, _, _, h⟩
  | tt hF h => exact ⟨_, _, _, _, h⟩
  | ff hF h => exact ⟨_, _, _, _, h⟩
  | num n hn hF h => exact ⟨_, _, _, _, h⟩
  | str t hF h => exact ⟨_, _, _, _, h⟩
  | arr x L hF h => exact ⟨_, _, _, _, h⟩
  | obj x K L hF h => exact ⟨_, _, _, _, h⟩
/-- What the reference's Object tells. -/
def RoR (w : World) (l : Bs) (e : Ending) (w' : World) : Prop :=
  Kp (fun _ => False) w w' ∧ ((∃ n : Nat, n ≠ 0 ∧ objectF l = .error n ∧ e = .returned (.tuple #[.pointer none, .int .i64 (n : Int)])) ∨
    (∃ o b, objectF l = .ok o ∧ (cJ (.obj o)).length ≤ 600 ∧ e = .returned (.tuple #[.pointer (some ⟨b, 0, none⟩), .int .i64 0]) ∧ RR w' (fun c => w.heap.size ≤ c ∧ c < w'.heap.size) (.obj o) b))
set_option maxRecDepth 20000 in
theorem robject_c (W : World) (hG : GL W) (s : ByteArray) (w : World) (ho : Below W.heap.size W w) :
    Calls Tryz.prog 41 #[.string s] w fun e w' => RoR w s.data.toList e w' := by
  go_enter Tryz.func41, Tryz.ntmps41
  go_wp2_with fail
  refine (rparse_c W hG s w ho).mono ?_
  have hsl : s.data.toList.length = s.size := Array.length_toList
  rintro e w1 ⟨K1, (⟨h6, rfl⟩ | ⟨h6, hp, rfl⟩ | ⟨h6, j, b, hp, rfl, hr⟩)⟩
  · have HC : Hid (objectF s.data.toList = .error 1) := by show _ = _; unfold objectF valueF; rw [if_pos (by omega)]
    clear hsl
    go_wp2
    go_ret2
    exact ⟨K1, Or.inl ⟨1, by decide, HC.out, rfl⟩⟩
  · have HC : Hid (objectF s.data.toList = .error 2) := by show _ = _; unfold objectF valueF; rw [if_neg (by omega), hp]
    clear hsl hp
    go_wp2
    go_ret2
    exact ⟨K1, Or.inl ⟨2, by decide, HC.out, rfl⟩⟩
  · have hle := (parse_ok hp).2
    have hv : valueF s.data.toList = .ok j := by unfold valueF; rw [if_neg (by omega), hp]
    obtain ⟨n, t, K, L, hb⟩ := hr.kind
    by_cases hk : rkind j = 123
    · obtain ⟨o, rfl⟩ : ∃ o, j = .obj o := by
        cases j with
        | obj o => exact ⟨o, rfl⟩
        | bool b => cases b <;> cases hk
        | _ => cases hk
      have HC : Hid (objectF s.data.toList = .ok o) := by show _ = _; unfold objectF; rw [hv]
      have HH := hide (And.intro hr (And.intro hle hsl))
      rw [hk] at hb
      obtain ⟨v0, v1, v2, v3, v4, z0, z1, z2, z3, z4, hvb⟩ := vfacts hb
      clear hv hp hr hle hsl hk
      go_wp2
      go_ret2
      exact ⟨K1, Or.inr ⟨o, b, HC.out, by have := HH.out.2; omega, rfl, HH.out.1⟩⟩
    · have HC : Hid (objectF s.data.toList = .error 3) := by
        show _ = _
        unfold objectF
        rw [hv]
        cases j with
        | obj o => exact absurd rfl hk
        | _ => rfl
      obtain ⟨v0, v1, v2, v3, v4, z0, z1, z2, z3, z4, hvb⟩ := vfacts hb
      have hkn : (((rkind j : Nat) : Int) != 123) = true := by simp; omega
      clear hv hp hr hle hsl hb
      generalize rkind j = kd at *
      go_wp2
      go_ret2
      exact ⟨K1, Or.inl ⟨3, by decide, HC.out, rfl⟩⟩

theorem delK_insK_ne {α : Type} (k a : Bs) (v : α) (h : a ≠ k) : ∀ (l : List (Bs × α)), Srt l → delK k (insK a v l) = insK a v (delK k l)
  | [], _ => by simp [insK, delK, h]
  | (c, x) :: l, hs => by
    obtain ⟨h1, h2⟩ := List.pairwise_cons.1 hs
    have ih := delK_insK_ne k a v h l h2
    unfold delK at ih ⊢
    rw [insK]
    by_cases hac : a < c
    · rw [if_pos hac]
      by_cases hc : c = k
      · subst hc
        simp only [List.filter_cons, h, decide_false, Bool.not_false, if_true, decide_true, Bool.not_true, Bool.false_eq_true, if_false]
        cases hl : l.filter (fun p => !decide (p.1 = c)) with
        | nil => rfl
        | cons p q =>
          have hp : p ∈ l := (List.mem_filter.1 (by rw [hl]; simp)).1
          rw [insK, if_pos (lt_tr hac (h1 p hp))]
      · simp only [List.filter_cons, h, hc, decide_false, Bool.not_false, if_true]
        rw [insK, if_pos hac]
    · rw [if_neg hac]
      by_cases hca : c = a
      · rw [if_pos hca]
        subst hca
        simp only [List.filter_cons, h, decide_false, Bool.not_false, if_true]
        rw [insK, if_neg hac, if_pos rfl]
      · rw [if_neg hca]
        by_cases hc : c = k
        · simp only [List.filter_cons, hc, decide_true, Bool.not_true, Bool.false_eq_true, if_false]
          exact ih
        · simp only [List.filter_cons, hc, decide_false, Bool.not_false, if_true]
          rw [insK, if_neg hac, if_neg hca, ih]
theorem ofL_filter {α : Type} (k : Bs) (m : List (Bs × α)) : ofL (m.filter fun p => !decide (p.1 = k)) = delK k (ofL m) := by
  have : ∀ n (m : List (Bs × α)), m.length = n → ofL (m.filter fun p => !decide (p.1 = k)) = delK k (ofL m) := by
    intro n
    induction n with
    | zero => intro m hm; obtain rfl := List.eq_nil_of_length_eq_zero hm; rfl
    | succ n ih =>
      intro m hm
      have hne : m ≠ [] := by intro e; subst e; simp at hm
      obtain ⟨l, p, rfl⟩ : ∃ l p, m = l ++ [p] := ⟨m.dropLast, m.getLast hne, (List.dropLast_concat_getLast hne).symm⟩
      obtain ⟨a, x⟩ := p
      have ih := ih l (by simpa using hm)
      rw [ofL_snoc, List.filter_append]
      by_cases h : a = k
      · subst h
        rw [delK_insK, ← ih]
        simp
      · rw [delK_insK_ne k a x h _ (srt_ofL _), ← ih, ← ofL_snoc]
        simp [h]
  exact this m.length m rfl

/-- An object under work, at block vb. -/
structure BaI (lo vb : Nat) (y : List (Bs × Nat)) (K L : Value) (w : World) : Prop where
  blk : w.heap[vb]? = some (vCells 123 0 [] K L)
  rowK : w.ownsRow lo 9 1 K y.length (y.map fun p => .string ⟨p.1.toArray⟩)
  rowL : w.ownsRow lo 66 1 L y.length (y.map fun p => ptr p.2)
  ownK : ∀ k, K.ownBlock = some k → k ≠ vb
  ownL : ∀ k, L.ownBlock = some k → k ≠ vb
  kl : ∀ k, K.ownBlock = some k → L.ownBlock ≠ some k
structure BaK (lo vb : Nat) (y : List (Bs × Nat)) (a : Bs) (K L : Value) (w : World) : Prop where
  blk : w.heap[vb]? = some (vCells 123 0 [] K L)
  rowK : w.ownsRow lo 9 1 K (y.length + 1) ((y.map fun p => .string ⟨p.1.toArray⟩) ++ [.string ⟨a.toArray⟩])
  rowL : w.ownsRow lo 66 1 L y.length (y.map fun p => ptr p.2)
  ownK : ∀ k, K.ownBlock = some k → k ≠ vb
  ownL : ∀ k, L.ownBlock = some k → k ≠ vb
  kl : ∀ k, K.ownBlock = some k → L.ownBlock ≠ some k
theorem BaI.key {lo vb : Nat} {y : List (Bs × Nat)} {a : Bs} {K L K' : Value} {w5 w6 : World} (h : BaI lo vb y K L w5) (B : Kp (fun k => K.ownBlock = some k) w5 w6)
    (y1 : w6.ownsRow lo 9 1 K' (y.length + 1) ((y.map fun p => .string ⟨p.1.toArray⟩) ++ [.string ⟨a.toArray⟩])) (y3 : K'.ownBlock = K.ownBlock ∨ ∃ q, w5.heap.size ≤ q ∧ K'.ownBlock = some q) :
    BaK lo vb y a K' L (w6.setCell ⟨vb, 3, none⟩ K') := by
  have hvb := lt_heap h.blk
  have own' : ∀ k, K'.ownBlock = some k → k ≠ vb ∧ L.ownBlock ≠ some k := by
    intro k hk
    rcases y3 with e | ⟨q, hq, e⟩
    · rw [e] at hk
      exact ⟨h.ownK k hk, h.kl k hk⟩
    · rw [e] at hk
      injection hk with hk
      exact ⟨by omega, fun hl => by have := (h.rowL.lt k hl).2; omega⟩
  have h6 : w6.heap[vb]? = some (vCells 123 0 [] K L) := (B.block vb hvb (fun e => h.ownK _ e rfl)).trans h.blk
  refine ⟨?_, ?_, ?_, fun k hk => (own' k hk).1, h.ownL, fun k hk => (own' k hk).2⟩
  · simp [World.setCell, Array.getElem?_modify, h6, vCells]
  · exact ownsRow_heap y1 fun k hk => heap_set_other (own' k hk).1
  · refine ownsRow_heap h.rowL fun k hk => ?_
    rw [heap_set_other (h.ownL k hk), B.block k (h.rowL.lt k hk).2 (fun e => h.kl k e hk)]
theorem BaK.more {lo vb b : Nat} {y : List (Bs × Nat)} {a : Bs} {K L L' : Value} {w7 w8 : World} (h : BaK lo vb y a K L w7) (B : Kp (fun k => L.ownBlock = some k) w7 w8)
    (y1 : w8.ownsRow lo 66 1 L' (y.length + 1) ((y.map fun p => ptr p.2) ++ [ptr b])) (y3 : L'.ownBlock = L.ownBlock ∨ ∃ q, w7.heap.size ≤ q ∧ L'.ownBlock = some q) :
    BaI lo vb (y ++ [(a, b)]) K L' (w8.setCell ⟨vb, 4, none⟩ L') := by
  have hvb := lt_heap h.blk
  have own' : ∀ k, L'.ownBlock = some k → k ≠ vb ∧ K.ownBlock ≠ some k := by
    intro k hk
    rcases y3 with e | ⟨q, hq, e⟩
    · rw [e] at hk
      exact ⟨h.ownL k hk, fun e => h.kl k e hk⟩
    · rw [e] at hk
      injection hk with hk
      exact ⟨by omega, fun e => by have := (h.rowK.lt k e).2; omega⟩
  have h8 : w8.heap[vb]? = some (vCells 123 0 [] K L) := (B.block vb hvb (fun e => h.ownL _ e rfl)).trans h.blk
  refine ⟨?_, ?_, ?_, h.ownK, fun k hk => (own' k hk).1, fun k hk e => (own' k e).2 hk⟩
  · simp [World.setCell, Array.getElem?_modify, h8, vCells]
  · rw [List.length_append, List.map_append]
    refine ownsRow_heap h.rowK fun k hk => ?_
    rw [heap_set_other (h.ownK k hk), B.block k (h.rowK.lt k hk).2 (fun e => h.kl k hk e)]
  · rw [List.length_append, List.map_append]
    exact ownsRow_heap y1 fun k hk => heap_set_other (own' k hk).1
end Go.Proofs.YtocligpfmfmihaaGreatDoor
namespace Go.Proofs.YtocligpfmfmihaaGreatDoor
open Go Go.RowKit Go.Maps

set_option maxRecDepth 20000 in
/-- Get, of none or of what is no object. -/
theorem get_no (w : World) (key : Bs) (po : Option Addr) (hpo : po = none ∨ ∃ b kind n t K L, po = some ⟨b, 0, none⟩ ∧ w.heap[b]? = some (vCells kind n t K L) ∧ kind ≠ 123) :
    Calls Tryz.prog 45 #[.pointer po, .string ⟨key.toArray⟩] w fun e w' => e = .returned (.pointer none) ∧ w' = w := by
  rcases hpo with rfl | ⟨b, kind, n, t, K, L, rfl, h, hk⟩
  · go_enter Tryz.func45, Tryz.ntmps45
    go_wp2
    go_ret
    exact ⟨rfl, rfl⟩
  · obtain ⟨v0, v1, v2, v3, v4, z0, z1, z2, z3, z4, hvb⟩ := vfacts h
    have hkn : ((kind : Int) != 123) = true := by simp; omega
    go_enter Tryz.func45, Tryz.ntmps45
    go_wp2
    go_ret
    exact ⟨rfl, rfl⟩
theorem insK_delK {α : Type} (k : Bs) (v : α) : ∀ (l : List (Bs × α)), Srt l → insK k v (delK k l) = insK k v l
  | [], _ => rfl
  | (c, x) :: l, hs => by
    obtain ⟨h1, h2⟩ := List.pairwise_cons.1 hs
    have ih := insK_delK k v l h2
    unfold delK at ih ⊢
    by_cases hc : c = k
    · subst hc
      simp only [List.filter_cons, decide_true, Bool.not_true, Bool.false_eq_true, if_false]
      have hf : l.filter (fun p => !decide (p.1 = c)) = l := by
        rw [List.filter_eq_self]
        intro p hp
        have : p.1 ≠ c := fun e => by have := h1 p hp; rw [e] at this; exact lt_irr _ this
        simp [this]
      rw [hf, insK, if_neg (lt_irr c), if_pos rfl]
      cases l with
      | nil => rfl
      | cons p q => rw [insK, if_pos (h1 p (by simp))]
    · simp only [List.filter_cons, hc, decide_false, Bool.not_false, if_true]
      rw [insK, insK]
      by_cases hk : k < c
      · rw [if_pos hk, if_pos hk]
        have hf : l.filter (fun p => !decide (p.1 = k)) = l := by
          rw [List.filter_eq_self]
          intro p hp
          have : p.1 ≠ k := fun e => by have := h1 p hp; rw [e] at this; exact lt_irr _ (lt_tr hk this)
          simp [this]
        rw [hf]
      · rw [if_neg hk, if_neg hk, if_neg hc, if_neg hc, ih]
/-- The member of a key, in the list of an object's members and in that of their places. -/
theorem look_both (key : Bs) (x : List (Bs × J × Nat)) : (lookK key (x.map fun p => (p.1, p.2.2)) = none ∧ lookK key (x.map fun p => (p.1, p.2.1)) = none) ∨
    ∃ j c, (key, j, c) ∈ x ∧ lookK key (x.map fun p => (p.1, p.2.2)) = some c ∧ lookK key (x.map fun p => (p.1, p.2.1)) = some j := by
  induction x with
  | nil => exact Or.inl ⟨rfl, rfl⟩
  | cons p x ih =>
    obtain ⟨a, j, c⟩ := p
    simp only [List.map_cons, lookK]
    by_cases h : a = key
    · subst h
      exact Or.inr ⟨j, c, by simp, by simp, by simp⟩
    · simp only [if_neg h]
      rcases ih with ih | ⟨j', c', h1, h2⟩
      · exact Or.inl ih
      · exact Or.inr ⟨j', c', by simp [h1], h2⟩
/-- The new object, with one more member. -/
theorem put_tree {w w' : World} {F G : Nat → Prop} {lo xb : Nat} {key : Bs} {jx : J} {x : List (Bs × J × Nat)} {K L : Value} (hN : Nod (x.map fun p => (p.1, p.2.1)))
    (A : BaI lo lo ((x.map fun p => (p.1, p.2.2)).filter (fun p => !decide (p.1 = key)) ++ [(key, xb)]) K L w') (hx : ∀ a j c, (a, j, c) ∈ x → RR w F j c) (ht : RR w G jx xb) (hF : ∀ k, F k → w'.heap[k]? = w.heap[k]? ∧ k < w'.heap.size) (hG : ∀ k, G k → w'.heap[k]? = w.heap[k]? ∧ k < w'.heap.size) :
    RR w' (fun c => c < w'.heap.size) (.obj (insK key jx (ofL (x.map fun p => (p.1, p.2.1))))) lo := by
  have hm : ((x.map fun p => (p.1, p.2.2)).filter (fun p => !decide (p.1 = key)) ++ [(key, xb)]) = ((x.filter fun p => !decide (p.1 = key)) ++ [(key, jx, xb)]).map fun p => (p.1, p.2.2) := by
    rw [List.filter_map, List.map_append]
    rfl
  have hj : ofL (((x.filter fun p => !decide (p.1 = key)) ++ [(key, jx, xb)]).map fun p => (p.1, p.2.1)) = insK key jx (ofL (x.map fun p => (p.1, p.2.1))) := by
    rw [List.map_append, List.map_cons, List.map_nil, ofL_snoc]
    have : (x.filter fun p => !decide (p.1 = key)).map (fun p => (p.1, p.2.1)) = (x.map fun p => (p.1, p.2.1)).filter (fun p => !decide (p.1 = key)) := by
      rw [List.filter_map]
      rfl
    rw [this, ofL_filter, insK_delK _ _ _ (srt_ofL _)]
  rw [← hj]
  rw [hm] at A
  refine .obj _ K L (lt_heap A.blk) A.blk ?_ ?_ (fun k hk => (A.rowK.lt k hk).2) (fun k hk => (A.rowL.lt k hk).2) ?_ ?_
  · have := ownsRow_zero A.rowK
    simpa only [List.length_map, List.map_map, Function.comp_def] using this
  · have := ownsRow_zero A.rowL
    simpa only [List.length_map, List.map_map, Function.comp_def] using this
  · rw [List.map_append, List.map_cons, List.map_nil]
    refine (nod_snoc _ key jx).2 ⟨?_, ?_⟩
    · have hsub : ((x.filter fun p => !decide (p.1 = key)).map fun p => (p.1, p.2.1)).Sublist (x.map fun p => (p.1, p.2.1)) := List.filter_sublist.map _
      unfold Nod at hN ⊢
      exact (hsub.map (fun q : Bs × J => q.1)).nodup hN
    · rw [lookK_none]
      intro p hp
      obtain ⟨q, hq, rfl⟩ := List.mem_map.1 hp
      have := (List.mem_filter.1 hq).2
      simpa using this
  · intro a j c hmem
    rcases List.mem_append.1 hmem with h | h
    · exact (hx a j c (List.mem_filter.1 h).1).frame (fun k hk => (hF k hk).1) (fun k hk => (hF k hk).2)
    · obtain ⟨rfl, rfl, rfl⟩ : a = key ∧ j = jx ∧ c = xb := by simpa using h
      exact ht.frame (fun k hk => (hG k hk).1) (fun k hk => (hG k hk).2)
end Go.Proofs.YtocligpfmfmihaaGreatDoor
namespace Go.Proofs.YtocligpfmfmihaaGreatDoor
open Go Go.RowKit Go.Maps

def keepB (p : Bs × Nat) : Bool := !decide (p.1 = kSig) && !decide (p.1 = kUns)
set_option maxRecDepth 20000 in
set_option maxHeartbeats 4000000 in
/-- Bare, to where the text is asked for. -/
theorem rbare_c (w : World) (b : Nat) (x : List (Bs × Nat)) (K L : Value) (h : w.heap[b]? = some (vCells 123 0 [] K L))
    (hK : w.ownsRow 0 9 1 K x.length (x.map fun p => .string ⟨p.1.toArray⟩)) (hL : w.ownsRow 0 66 1 L x.length (x.map fun p => ptr p.2)) (hxl : x.length ≤ 1000000)
    (j : J) (ht : ∀ K' L' w1, Kp (fun _ => False) w w1 → BaI w.heap.size w.heap.size (x.filter keepB) K' L' w1 → Calls Tryz.prog 38 #[.pointer (some ⟨w.heap.size, 0, none⟩)] w1 fun e w2 => e = .returned (.string ⟨(cJ j).toArray⟩) ∧ Kp (fun _ => False) w1 w2) :
    Calls Tryz.prog 42 #[.pointer (some ⟨b, 0, none⟩)] w fun e w' => e = .returned (.string ⟨(cJ j).toArray⟩) ∧ Kp (fun _ => False) w w' := by
  obtain ⟨i0, hi, hz0, hz1, hz2⟩ := info_parts infoPtr
  obtain ⟨i1, hj, hy0, hy1, hy2⟩ := info_parts infoStr
  have hbl := lt_heap h
  have HT := hide ht
  clear ht
  have I0 := heap_alloc_new w (vCells 123 0 [] (.slice none 0 0) (.slice none 0 0))
  have A0 : BaI w.heap.size w.heap.size [] (.slice none 0 0) (.slice none 0 0) (w.alloc (vCells 123 0 [] (.slice none 0 0) (.slice none 0 0))) :=
    ⟨I0, World.ownsRow_nil _ _ _ _, World.ownsRow_nil _ _ _ _, fun k hk => (by simp [Value.ownBlock] at hk), fun k hk => (by simp [Value.ownBlock] at hk), fun k hk => (by simp [Value.ownBlock] at hk)⟩
  have K0 : Kp (fun _ => False) w (w.alloc (vCells 123 0 [] (.slice none 0 0) (.slice none 0 0))) := (Kp.refl _ _).alloc _
  obtain ⟨ka, kc, rfl⟩ := own_slice hK
  obtain ⟨la, lc, rfl⟩ := own_slice hL
  have hck : ∀ i p, x[i]? = some p → ∃ g, ka = some ⟨g, 0, none⟩ ∧ g < w.heap.size ∧ w.cell? ⟨g, i, none⟩ = some (.string ⟨p.1.toArray⟩) := by
    intro i p hp
    have hlt := (List.getElem?_eq_some_iff.1 hp).1
    obtain ⟨_, ⟨e, e0⟩ | ⟨g, cap, cur, e, _⟩⟩ := id hK
    · omega
    · injection e with e1 e2 e3
      subst e1
      exact ⟨g, rfl, (hK.lt g rfl).2, own_cell hK i _ (by rw [List.getElem?_map, hp]; rfl)⟩
  have hcl : ∀ i p, x[i]? = some p → ∃ g, la = some ⟨g, 0, none⟩ ∧ g < w.heap.size ∧ w.cell? ⟨g, i, none⟩ = some (ptr p.2) := by
    intro i p hp
    have hlt := (List.getElem?_eq_some_iff.1 hp).1
    obtain ⟨_, ⟨e, e0⟩ | ⟨g, cap, cur, e, _⟩⟩ := id hL
    · omega
    · injection e with e1 e2 e3
      subst e1
      exact ⟨g, rfl, (hL.lt g rfl).2, own_cell hL i _ (by rw [List.getElem?_map, hp]; rfl)⟩
  have CK := hide (And.intro hck hcl)
  clear hck hcl hK hL I0
  go_enter Tryz.func42, Tryz.ntmps42
  go_wp2_with fail
  go_loopg [4] x.length (fun gg a wr => ∃ (i : Nat) (K' L' : Value), gg = x.length - i ∧ i ≤ x.length ∧ a = .int .i64 (i : Int) ∧ Kp (fun _ => False) w wr ∧ BaI w.heap.size w.heap.size ((x.take i).filter keepB) K' L' wr)
  case atStart => exact ⟨0, _, _, rfl, by omega, rfl, K0, A0⟩
  case round =>
    clear A0 K0
    obtain ⟨i, K', L', hg, hin, rfl, K1, A1⟩ := hrel
    have HG := hide hg
    clear hg
    obtain ⟨o0, o1, o2, o3, o4, p0, p1, p2, p3, p4, hob⟩ := vfacts (vkp h K1)
    by_cases hlt : i < x.length
    · have hlt' : (i : Int) < (x.length : Int) := by omega
      obtain ⟨p, hp⟩ : ∃ p, x[i]? = some p := ⟨x[i], List.getElem?_eq_getElem hlt⟩
      obtain ⟨kg, rfl, hkg, ck⟩ := CK.out.1 i p hp
      obtain ⟨lg, rfl, hlg, cl⟩ := CK.out.2 i p hp
      have ck1 := (K1.cell (p := ⟨kg, i, none⟩) hkg (by simp)).trans ck
      have cl1 := (K1.cell (p := ⟨lg, i, none⟩) hlg (by simp)).trans cl
      have htk : x.take (i + 1) = x.take i ++ [p] := by rw [List.take_succ_eq_append_getElem hlt, (List.getElem?_eq_some_iff.1 hp).2]
      have HP := hide (And.intro hp htk)
      clear hp htk
      by_cases hs : p.1 = kSig
      · have hs' : (p.1 == [115, 105, 103, 110, 97, 116, 117, 114, 101, 115]) = true := by simpa [kSig] using hs
        have HS := hide hs
        clear hs
        go_wp2
        go_roundg (x.length - (i + 1))
        case measure => rw [HG.out]; omega
        case rel =>
          refine ⟨i + 1, K', L', rfl, by omega, int_i64 (by omega), K1, ?_⟩
          rw [HP.out.2, List.filter_append]
          have : keepB p = false := by simp [keepB, HS.out]
          simpa [this] using A1
      · have hs' : (p.1 == [115, 105, 103, 110, 97, 116, 117, 114, 101, 115]) = false := by simpa [kSig] using hs
        have HS := hide hs
        clear hs
        by_cases hu : p.1 = kUns
        · have hu' : (p.1 == [117, 110, 115, 105, 103, 110, 101, 100]) = true := by simpa [kUns] using hu
          have HU := hide hu
          clear hu
          go_wp2
          go_roundg (x.length - (i + 1))
          case measure => rw [HG.out]; omega
          case rel =>
            refine ⟨i + 1, K', L', rfl, by omega, int_i64 (by omega), K1, ?_⟩
            rw [HP.out.2, List.filter_append]
            have : keepB p = false := by simp [keepB, HU.out]
            simpa [this] using A1
        · have hu' : (p.1 == [117, 110, 115, 105, 103, 110, 101, 100]) = false := by simpa [kUns] using hu
          have HU := hide hu
          clear hu
          have hyl : ((x.take i).filter keepB).length ≤ 1000000 := Nat.le_trans (List.length_filter_le _ _) (by rw [List.length_take]; omega)
          generalize hyy : (x.take i).filter keepB = y at *
          have HY := hide hyy
          clear hyy
          obtain ⟨n0, n1, n2, n3, n4, q0, q1, q2, q3, q4, hnb⟩ := vfacts A1.blk
          have hsw := K1.size
          go_upto_region 6 with fail
          go_cut [] from 7 to 65 (fun wx => ∃ g' cap', BaK w.heap.size w.heap.size y p.1 (.slice (some ⟨g', 0, none⟩) (y.length + 1) cap') L' wx ∧ Kp (fun _ => False) w wx)
          case first =>
           go_region_law (refine step_append_own rfl (.tmp 38) (.tmp 46) 36 rfl w.heap.size 9 i1 (.string ⟨#[]⟩) 1 16 Tryz.underlying36 hj hy0 hy1 hy2 rfl (by decide) K' y.length (y.map fun p => .string ⟨p.1.toArray⟩) (by simp [Act.eval]) (by exact World.ownsRow.alloc A1.rowK _) ⟨wr.heap.size, 0, none⟩ 1 1 [.string ⟨p.1.toArray⟩] (by simp [Act.eval]) rfl (by exact cell_one_new wr _ _) (by intro u hu; simp at hu; subst hu; rfl) (by unfold maxLen; omega) (by omega) (by simp; omega) ?_; intro v' w3 y1 y2 y3; obtain ⟨g', cap', rfl⟩ := own_shape y1; have B3 : Kp (fun k => K'.ownBlock = some k) wr w3 := (((Kp.refl _ wr).drew).alloc _).grown y2 (fun k hk _ => hk); have i3 : w3.heap[w.heap.size]? = some (vCells 123 0 [] K' L') := (B3.block _ hnb (fun e => A1.ownK _ e rfl)).trans A1.blk; obtain ⟨m0, m1, m2, m3, m4, r0, r1, r2, r3, r4, hmb⟩ := vfacts i3)
           all_goals
             have hy3 : (Value.slice (some ⟨g', 0, none⟩) (y.length + 1) cap').ownBlock = K'.ownBlock ∨ ∃ q, wr.heap.size ≤ q ∧ (Value.slice (some ⟨g', 0, none⟩) (y.length + 1) cap').ownBlock = some q := by
               rcases y3 with e | e
               · exact Or.inl e
               · exact Or.inr ⟨_, by simp, e⟩
             have A3 := A1.key B3 y1 hy3
             have K3 : Kp (fun _ => False) w (w3.setCell ⟨w.heap.size, 3, none⟩ (.slice (some ⟨g', 0, none⟩) (y.length + 1) cap')) :=
               Kp.setCell (p := ⟨w.heap.size, 3, none⟩) (K1.and B3 (fun i hi e => by have := (A1.rowK.lt i e).1; omega)) (fun hlt => by exact absurd hlt (by show ¬ w.heap.size < _; omega)) _
             clear hy3 y1 y2 y3 B3 i3 n0 n1 n2 n3 n4 q0 q1 q2 q3 q4 hnb o0 o1 o2 o3 o4 p0 p1 p2 p3 p4 hob ck1 cl1 m0 m1 m2 m3 m4 r0 r1 r2 r3 r4 hmb
             go_wp2_with fail
             go_meet
             exact ⟨g', cap', A3, K3⟩
          case rest =>
            obtain ⟨g', cap', A3, K3⟩ := hcut
            clear n0 n1 n2 n3 n4 q0 q1 q2 q3 q4 hnb o0 o1 o2 o3 o4 p0 p1 p2 p3 p4 hob ck1 cl1
            obtain ⟨o0, o1, o2, o3, o4, p0, p1, p2, p3, p4, hob⟩ := vfacts (vkp h K3)
            have cl4 := (K3.cell (p := ⟨lg, i, none⟩) hlg (by simp)).trans cl
            unfold ptr at cl4
            obtain ⟨n0, n1, n2, n3, n4, q0, q1, q2, q3, q4, hnb⟩ := vfacts A3.blk
            have hswc := K3.size
            go_wp2_with fail
            go_region_law (refine step_append_own rfl (.tmp 54) (.tmp 62) 78 rfl w.heap.size 66 i0 (.pointer none) 1 8 Tryz.underlying78 hi hz0 hz1 hz2 rfl (by decide) L' y.length (y.map fun p => ptr p.2) (by simp [Act.eval]) (by exact World.ownsRow.alloc A3.rowL _) ⟨wc.heap.size, 0, none⟩ 1 1 [ptr p.2] (by simp [Act.eval]) rfl (by exact cell_one_new wc _ _) (by intro u hu; simp at hu; subst hu; rfl) (by unfold maxLen; omega) (by omega) (by simp; omega) ?_; intro v' w5 y1 y2 y3; obtain ⟨g2, cap2, rfl⟩ := own_shape y1; have B5 : Kp (fun k => L'.ownBlock = some k) wc w5 := (((Kp.refl _ wc).drew).alloc _).grown y2 (fun k hk _ => hk); have i5 : w5.heap[w.heap.size]? = some (vCells 123 0 [] (.slice (some ⟨g', 0, none⟩) (y.length + 1) cap') L') := (B5.block _ hnb (fun e => A3.ownL _ e rfl)).trans A3.blk; obtain ⟨m0, m1, m2, m3, m4, r0, r1, r2, r3, r4, hmb⟩ := vfacts i5)
            all_goals
              have hy3 : (Value.slice (some ⟨g2, 0, none⟩) (y.length + 1) cap2).ownBlock = L'.ownBlock ∨ ∃ q, wc.heap.size ≤ q ∧ (Value.slice (some ⟨g2, 0, none⟩) (y.length + 1) cap2).ownBlock = some q := by
                rcases y3 with e | e
                · exact Or.inl e
                · exact Or.inr ⟨_, by simp, e⟩
              have A5 := A3.more B5 y1 hy3
              have K5 : Kp (fun _ => False) w (w5.setCell ⟨w.heap.size, 4, none⟩ (.slice (some ⟨g2, 0, none⟩) (y.length + 1) cap2)) :=
                Kp.setCell (p := ⟨w.heap.size, 4, none⟩) (K3.and B5 (fun i hi e => by have := (A3.rowL.lt i e).1; omega)) (fun hlt => by exact absurd hlt (by show ¬ w.heap.size < _; omega)) _
              have Z := hide (And.intro A5 K5)
              clear hy3 y1 y2 y3 B5 i5 A5 K5 n0 n1 n2 n3 n4 q0 q1 q2 q3 q4 hnb o0 o1 o2 o3 o4 p0 p1 p2 p3 p4 hob cl4 m0 m1 m2 m3 m4 r0 r1 r2 r3 r4 hmb
              go_wp2
              go_roundg (x.length - (i + 1))
              case measure => rw [HG.out]; omega
              case rel =>
                refine ⟨i + 1, .slice (some ⟨g', 0, none⟩) (y.length + 1) cap', .slice (some ⟨g2, 0, none⟩) (y.length + 1) cap2, rfl, by omega, int_i64 (by omega), Z.out.2, ?_⟩
                rw [HP.out.2, List.filter_append, HY.out]
                have : keepB p = true := by simp [keepB, HS.out, HU.out]
                simp only [List.filter_cons, this, if_true, List.filter_nil]
                exact Z.out.1
    · have hlt' : ¬ (i : Int) < (x.length : Int) := by omega
      rw [List.take_of_length_le (by omega)] at A1
      go_wp2_with fail
      refine (HT.out _ _ _ K1 A1).mono ?_
      rintro e w2 ⟨rfl, K2⟩
      go_wp2
      go_ret
      exact ⟨rfl, K1.trans K2⟩
end Go.Proofs.YtocligpfmfmihaaGreatDoor

import Derived.Test.YtocligpfmfmihaaGreatDoorRef20
namespace Go.Proofs.YtocligpfmfmihaaGreatDoor
open Go Go.RowKit Go.Maps

/-- The sign of a tree's kind. -/
def rkind : J → Nat | .null => 110 | .bool true => 116 | .bool false => 102 | .num _ => 35 | .str _ => 34 | .arr _ => 91 | .obj _ => 123
theorem RR.kind {w : World} {F : Nat → Prop} {j : J} {b : Nat} (h : RR w F j b) : ∃ n t K L, w.heap[b]? = some (vCells (rkind j) n t K L) := by
  cases h with
  | null hF h => exact ⟨_, _, _, _, h⟩
  | tt hF h => exact ⟨_, _, _, _, h⟩
  | ff hF h => exact ⟨_, _, _, _, h⟩
  | num n hn hF h => exact ⟨_, _, _, _, h⟩
  | str t hF h => exact ⟨_, _, _, _, h⟩
  | arr x L hF h => exact ⟨_, _, _, _, h⟩
  | obj x K L hF h => exact ⟨_, _, _, _, h⟩
/-- What the reference's Object tells. -/
def RoR (w : World) (l : Bs) (e : Ending) (w' : World) : Prop :=
  Kp (fun _ => False) w w' ∧ ((∃ n : Nat, n ≠ 0 ∧ objectF l = .error n ∧ e = .returned (.tuple #[.pointer none, .int .i64 (n : Int)])) ∨
    (∃ o b, objectF l = .ok o ∧ (cJ (.obj o)).length ≤ 600 ∧ e = .returned (.tuple #[.pointer (some ⟨b, 0, none⟩), .int .i64 0]) ∧ RR w' (fun c => w.heap.size ≤ c ∧ c < w'.heap.size) (.obj o) b))
set_option maxRecDepth 20000 in
theorem robject_c (W : World) (hG : GL W) (s : ByteArray) (w : World) (ho : Below W.heap.size W w) :
    Calls Tryz.prog 41 #[.string s] w fun e w' => RoR w s.data.toList e w' := by
  go_enter Tryz.func41, Tryz.ntmps41
  go_wp2_with fail
  refine (rparse_c W hG s w ho).mono ?_
  have hsl : s.data.toList.length = s.size := Array.length_toList
  rintro e w1 ⟨K1, (⟨h6, rfl⟩ | ⟨h6, hp, rfl⟩ | ⟨h6, j, b, hp, rfl, hr⟩)⟩
  · have HC : Hid (objectF s.data.toList = .error 1) := by show _ = _; unfold objectF valueF; rw [if_pos (by omega)]
    clear hsl
    go_wp2
    go_ret2
    exact ⟨K1, Or.inl ⟨1, by decide, HC.out, rfl⟩⟩
  · have HC : Hid (objectF s.data.toList = .error 2) := by show _ = _; unfold objectF valueF; rw [if_neg (by omega), hp]
    clear hsl hp
    go_wp2
    go_ret2
    exact ⟨K1, Or.inl ⟨2, by decide, HC.out, rfl⟩⟩
  · have hle := (parse_ok hp).2
    have hv : valueF s.data.toList = .ok j := by unfold valueF; rw [if_neg (by omega), hp]
    obtain ⟨n, t, K, L, hb⟩ := hr.kind
    by_cases hk : rkind j = 123
    · obtain ⟨o, rfl⟩ : ∃ o, j = .obj o := by
        cases j with
        | obj o => exact ⟨o, rfl⟩
        | bool b => cases b <;> cases hk
        | _ => cases hk
      have HC : Hid (objectF s.data.toList = .ok o) := by show _ = _; unfold objectF; rw [hv]
      have HH := hide (And.intro hr (And.intro hle hsl))
      rw [hk] at hb
      obtain ⟨v0, v1, v2, v3, v4, z0, z1, z2, z3, z4, hvb⟩ := vfacts hb
      clear hv hp hr hle hsl hk
      go_wp2
      go_ret2
      exact ⟨K1, Or.inr ⟨o, b, HC.out, by have := HH.out.2; omega, rfl, HH.out.1⟩⟩
    · have HC : Hid (objectF s.data.toList = .error 3) := by
        show _ = _
        unfold objectF
        rw [hv]
        cases j with
        | obj o => exact absurd rfl hk
        | _ => rfl
      obtain ⟨v0, v1, v2, v3, v4, z0, z1, z2, z3, z4, hvb⟩ := vfacts hb
      have hkn : (((rkind j : Nat) : Int) != 123) = true := by simp; omega
      clear hv hp hr hle hsl hb
      generalize rkind j = kd at *
      go_wp2
      go_ret2
      exact ⟨K1, Or.inl ⟨3, by decide, HC.out, rfl⟩⟩

theorem delK_insK_ne {α : Type} (k a : Bs) (v : α) (h : a ≠ k) : ∀ (l : List (Bs × α)), Srt l → delK k (insK a v l) = insK a v (delK k l)
  | [], _ => by simp [insK, delK, h]
  | (c, x) :: l, hs => by
    obtain ⟨h1, h2⟩ := List.pairwise_cons.1 hs
    have ih := delK_insK_ne k a v h l h2
    unfold delK at ih ⊢
    rw [insK]
    by_cases hac : a < c
    · rw [if_pos hac]
      by_cases hc : c = k
      · subst hc
        simp only [List.filter_cons, h, decide_false, Bool.not_false, if_true, decide_true, Bool.not_true, Bool.false_eq_true, if_false]
        cases hl : l.filter (fun p => !decide (p.1 = c)) with
        | nil => rfl
        | cons p q =>
          have hp : p ∈ l := (List.mem_filter.1 (by rw [hl]; simp)).1
          rw [insK, if_pos (lt_tr hac (h1 p hp))]
      · simp only [List.filter_cons, h, hc, decide_false, Bool.not_false, if_true]
        rw [insK, if_pos hac]
    · rw [if_neg hac]
      by_cases hca : c = a
      · rw [if_pos hca]
        subst hca
        simp only [List.filter_cons, h, decide_false, Bool.not_false, if_true]
        rw [insK, if_neg hac, if_pos rfl]
      · rw [if_neg hca]
        by_cases hc : c = k
        · simp only [List.filter_cons, hc, decide_true, Bool.not_true, Bool.false_eq_true, if_false]
          exact ih
        · simp only [List.filter_cons, hc, decide_false, Bool.not_false, if_true]
          rw [insK, if_neg hac, if_neg hca, ih]
theorem ofL_filter {α : Type} (k : Bs) (m : List (Bs × α)) : ofL (m.filter fun p => !decide (p.1 = k)) = delK k (ofL m) := by
  have : ∀ n (m : List (Bs × α)), m.length = n → ofL (m.filter fun p => !decide (p.1 = k)) = delK k (ofL m) := by
    intro n
    induction n with
    | zero => intro m hm; obtain rfl := List.eq_nil_of_length_eq_zero hm; rfl
    | succ n ih =>
      intro m hm
      have hne : m ≠ [] := by intro e; subst e; simp at hm
      obtain ⟨l, p, rfl⟩ : ∃ l p, m = l ++ [p] := ⟨m.dropLast, m.getLast hne, (List.dropLast_concat_getLast hne).symm⟩
      obtain ⟨a, x⟩ := p
      have ih := ih l (by simpa using hm)
      rw [ofL_snoc, List.filter_append]
      by_cases h : a = k
      · subst h
        rw [delK_insK, ← ih]
        simp
      · rw [delK_insK_ne k a x h _ (srt_ofL _), ← ih, ← ofL_snoc]
        simp [h]
  exact this m.length m rfl

/-- An object under work, at block vb. -/
structure BaI (lo vb : Nat) (y : List (Bs × Nat)) (K L : Value) (w : World) : Prop where
  blk : w.heap[vb]? = some (vCells 123 0 [] K L)
  rowK : w.ownsRow lo 9 1 K y.length (y.map fun p => .string ⟨p.1.toArray⟩)
  rowL : w.ownsRow lo 66 1 L y.length (y.map fun p => ptr p.2)
  ownK : ∀ k, K.ownBlock = some k → k ≠ vb
  ownL : ∀ k, L.ownBlock = some k → k ≠ vb
  kl : ∀ k, K.ownBlock = some k → L.ownBlock ≠ some k
structure BaK (lo vb : Nat) (y : List (Bs × Nat)) (a : Bs) (K L : Value) (w : World) : Prop where
  blk : w.heap[vb]? = some (vCells 123 0 [] K L)
  rowK : w.ownsRow lo 9 1 K (y.length + 1) ((y.map fun p => .string ⟨p.1.toArray⟩) ++ [.string ⟨a.toArray⟩])
  rowL : w.ownsRow lo 66 1 L y.length (y.map fun p => ptr p.2)
  ownK : ∀ k, K.ownBlock = some k → k ≠ vb
  ownL : ∀ k, L.ownBlock = some k → k ≠ vb
  kl : ∀ k, K.ownBlock = some k → L.ownBlock ≠ some k
theorem BaI.key {lo vb : Nat} {y : List (Bs × Nat)} {a : Bs} {K L K' : Value} {w5 w6 : World} (h : BaI lo vb y K L w5) (B : Kp (fun k => K.ownBlock = some k) w5 w6)
    (y1 : w6.ownsRow lo 9 1 K' (y.length + 1) ((y.map fun p => .string ⟨p.1.toArray⟩) ++ [.string ⟨a.toArray⟩])) (y3 : K'.ownBlock = K.ownBlock ∨ ∃ q, w5.heap.size ≤ q ∧ K'.ownBlock = some q) :
    BaK lo vb y a K' L (w6.setCell ⟨vb, 3, none⟩ K') := by
  have hvb := lt_heap h.blk
  have own' : ∀ k, K'.ownBlock = some k → k ≠ vb ∧ L.ownBlock ≠ some k := by
    intro k hk
    rcases y3 with e | ⟨q, hq, e⟩
    · rw [e] at hk
      exact ⟨h.ownK k hk, h.kl k hk⟩
    · rw [e] at hk
      injection hk with hk
      exact ⟨by omega, fun hl => by have := (h.rowL.lt k hl).2; omega⟩
  have h6 : w6.heap[vb]? = some (vCells 123 0 [] K L) := (B.block vb hvb (fun e => h.ownK _ e rfl)).trans h.blk
  refine ⟨?_, ?_, ?_, fun k hk => (own' k hk).1, h.ownL, fun k hk => (own' k hk).2⟩
  · simp [World.setCell, Array.getElem?_modify, h6, vCells]
  · exact ownsRow_heap y1 fun k hk => heap_set_other (own' k hk).1
  · refine ownsRow_heap h.rowL fun k hk => ?_
    rw [heap_set_other (h.ownL k hk), B.block k (h.rowL.lt k hk).2 (fun e => h.kl k e hk)]
theorem BaK.more {lo vb b : Nat} {y : List (Bs × Nat)} {a : Bs} {K L L' : Value} {w7 w8 : World} (h : BaK lo vb y a K L w7) (B : Kp (fun k => L.ownBlock = some k) w7 w8)
    (y1 : w8.ownsRow lo 66 1 L' (y.length + 1) ((y.map fun p => ptr p.2) ++ [ptr b])) (y3 : L'.ownBlock = L.ownBlock ∨ ∃ q, w7.heap.size ≤ q ∧ L'.ownBlock = some q) :
    BaI lo vb (y ++ [(a, b)]) K L' (w8.setCell ⟨vb, 4, none⟩ L') := by
  have hvb := lt_heap h.blk
  have own' : ∀ k, L'.ownBlock = some k → k ≠ vb ∧ K.ownBlock ≠ some k := by
    intro k hk
    rcases y3 with e | ⟨q, hq, e⟩
    · rw [e] at hk
      exact ⟨h.ownL k hk, fun e => h.kl k e hk⟩
    · rw [e] at hk
      injection hk with hk
      exact ⟨by omega, fun e => by have := (h.rowK.lt k e).2; omega⟩
  have h8 : w8.heap[vb]? = some (vCells 123 0 [] K L) := (B.block vb hvb (fun e => h.ownL _ e rfl)).trans h.blk
  refine ⟨?_, ?_, ?_, h.ownK, fun k hk => (own' k hk).1, fun k hk e => (own' k e).2 hk⟩
  · simp [World.setCell, Array.getElem?_modify, h8, vCells]
  · rw [List.length_append, List.map_append]
    refine ownsRow_heap h.rowK fun k hk => ?_
    rw [heap_set_other (h.ownK k hk), B.block k (h.rowK.lt k hk).2 (fun e => h.kl k hk e)]
  · rw [List.length_append, List.map_append]
    exact ownsRow_heap y1 fun k hk => heap_set_other (own' k hk).1
end Go.Proofs.YtocligpfmfmihaaGreatDoor

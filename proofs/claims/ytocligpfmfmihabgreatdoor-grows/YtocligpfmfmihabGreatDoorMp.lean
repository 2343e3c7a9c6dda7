import Derived.Test.YtocligpfmfmihabGreatDoorCoreG
import Derived.Test.YtocligpfmfmihabGreatDoorLenG
import Derived.Maps.OwnSet
import Derived.Maps.Own
namespace Go.Proofs.YtocligpfmfmihabGreatDoor
open Go Go.RowKit Go.Maps

/-- An element is kept as it is. -/
def Rv (v : Value) : Option (DataW Value × List MemPlace) := some (.held v, [])
def dm (m : List (Bs × Value)) : DataW Value := .map (m.map fun p => (.string p.1, .held p.2))

theorem before_lt (a b : List UInt8) : bytesBefore a b = decide (a < b) := by
  induction a generalizing b with
  | nil => cases b <;> simp [bytesBefore]
  | cons x a ih =>
    cases b with
    | nil => simp [bytesBefore]
    | cons y b =>
      rw [bytesBefore, ih, Bool.eq_iff_iff]
      simp only [Bool.or_eq_true, decide_eq_true_eq, Bool.and_eq_true, beq_iff_eq]
      rw [List.cons_lt_cons_iff]
theorem same_str (a b : List UInt8) : (Lit.string a).sameKey (.string b) = decide (a = b) := by
  rw [Lit.sameKey, Bool.eq_iff_iff]; simp

def dE (p : Bs × Value) : Lit × DataW Value := (.string p.1, .held p.2)
theorem dm_eq (m : List (Bs × Value)) : dm m = .map (m.map dE) := rfl
theorem filter_srt {k : Bs} (m : List (Bs × Value)) (h : ∀ p ∈ m, p.1 ≠ k) : (m.map dE).filter (fun p => !p.1.sameKey (.string k)) = m.map dE := by
  rw [List.filter_eq_self]
  intro p hp
  obtain ⟨q, hq, rfl⟩ := List.mem_map.1 hp
  simp only [dE, same_str]
  simp [h q hq]
theorem dm_put (k : Bs) (v : Value) : ∀ (m : List (Bs × Value)), Srt m → (dm m).put (.string k) (.held v) = dm (insK k v m) := by
  intro m hm
  show DataW.map (DataW.insert (dE (k, v)) ((m.map dE).filter fun p => !p.1.sameKey (.string k))) = DataW.map ((insK k v m).map dE)
  congr 1
  induction m with
  | nil => rfl
  | cons p l ih =>
    obtain ⟨a, x⟩ := p
    obtain ⟨h1, h2⟩ := List.pairwise_cons.1 hm
    have hins : ∀ (q : Bs × Value) (r : List (Lit × DataW Value)), DataW.insert (dE (k, v)) (dE q :: r) = if k < q.1 then dE (k, v) :: dE q :: r else dE q :: DataW.insert (dE (k, v)) r := by
      intro q r
      rw [DataW.insert]
      simp only [dE, Lit.before, before_lt, decide_eq_true_eq]
    unfold insK
    by_cases hlt : k < a
    · rw [if_pos hlt, filter_srt _ (by
        intro p hp e
        rcases List.mem_cons.1 hp with rfl | hp
        · subst e; exact lt_irr _ hlt
        · have := h1 p hp
          rw [e] at this
          exact lt_irr _ (lt_tr hlt this))]
      simp only [List.map_cons]
      rw [hins, if_pos hlt]
    · rw [if_neg hlt]
      by_cases he : a = k
      · subst he
        rw [if_pos rfl]
        have e0 : (((a, x) :: l).map dE).filter (fun p => !p.1.sameKey (.string a)) = l.map dE := by
          rw [List.map_cons, List.filter_cons_of_neg (by simp [dE, same_str])]
          exact filter_srt l (fun p hp e => by have := h1 p hp; rw [e] at this; exact lt_irr _ this)
        rw [e0]
        cases l with
        | nil => rfl
        | cons q r =>
          simp only [List.map_cons]
          rw [hins, if_pos (h1 q (by simp))]
      · rw [if_neg he]
        rw [List.map_cons, List.filter_cons_of_pos (by simp [dE, same_str, he]), hins, if_neg hlt, ih h2]
        rfl
theorem dm_has (k : Bs) (m : List (Bs × Value)) : Maps.has (dm m) (.string k) = (lookK k m).isSome := by
  rw [dm_eq, has_eq]
  induction m with
  | nil => rfl
  | cons p l ih =>
    obtain ⟨a, x⟩ := p
    rw [List.map_cons, List.any_cons, ih]
    simp only [dE, same_str, lookK]
    by_cases h : a = k <;> simp [h]
theorem dm_at (k : Bs) (m : List (Bs × Value)) (z : DataW Value) : (dm m).atKey (.string k) z = match lookK k m with | some v => .held v | none => z := by
  rw [dm_eq]
  induction m with
  | nil => rfl
  | cons p l ih =>
    obtain ⟨a, x⟩ := p
    simp only [DataW.atKey] at ih ⊢
    rw [List.map_cons, List.find?_cons]
    simp only [dE, same_str, lookK]
    by_cases h : a = k
    · simp [h]
    · simp only [h, decide_false]
      exact ih
theorem dm_del (k : Bs) (m : List (Bs × Value)) : (dm m).del (.string k) = dm (delK k m) := by
  show DataW.map ((m.map dE).filter fun p => !p.1.sameKey (.string k)) = DataW.map ((delK k m).map dE)
  rw [delK, List.filter_map]
  congr 2
  apply List.filter_congr
  intro p _
  simp [dE, same_str]
theorem dm_size (m : List (Bs × Value)) : Maps.size (dm m) = m.length := by simp [dm, Maps.size]

theorem keyed : Keyed Tryz.prog 9 := string_keyed Tryz.underlying9
theorem ownsMap_tight {w : World} {b n : Nat} {m : List (Bs × Value)} (h : w.ownsMap Tryz.prog 9 Rv b n (dm m)) : w.ownsMap Tryz.prog 9 Rv b m.length (dm m) := by
  obtain ⟨es, clock, h1, h2, h3, h4⟩ := h
  refine ⟨es, clock, h1, h2, ?_, h4⟩
  have e1 : Maps.size (dm m) = es.size := by
    rw [h4]
    simp only [Maps.size]
    exact length_read es
  rw [dm_size] at e1
  omega

mutual
/-- The value v of the program, in the world w, stands for j; its blocks are among F. -/
def Rep (w : World) (F : Nat → Prop) : J → Value → Prop
  | .null, v => v = .iface 194 (.agg #[])
  | .bool b, v => v = .iface 195 (.bool b)
  | .num n, v => v = .iface 197 (.int .i64 n)
  | .str s, v => v = .iface 167 (.string ⟨s.toArray⟩)
  | .arr l, v => ∃ sv vs, v = .iface 201 sv ∧ w.ownsRow 0 137 1 sv l.length vs ∧ (∀ b, sv.ownBlock = some b → F b) ∧ Reps w F l vs
  | .obj l, v => ∃ b m, v = .iface 76 (.map (some b)) ∧ F b ∧ w.ownsMap Tryz.prog 9 Rv b m.length (dm m) ∧ Repm w F l m
def Reps (w : World) (F : Nat → Prop) : List J → List Value → Prop
  | [], vs => vs = []
  | x :: l, vs => ∃ v r, vs = v :: r ∧ Rep w F x v ∧ Reps w F l r
def Repm (w : World) (F : Nat → Prop) : List (Bs × J) → List (Bs × Value) → Prop
  | [], m => m = []
  | (k, x) :: l, m => ∃ v r, m = (k, v) :: r ∧ Rep w F x v ∧ Repm w F l r
end

theorem ownsRow_heap {w w' : World} {B : Nat} {e : TypeId} {sz n : Nat} {v : Value} {xs : List Value} (h : w.ownsRow B e sz v n xs) (hk : ∀ k, v.ownBlock = some k → w'.heap[k]? = w.heap[k]?) : w'.ownsRow B e sz v n xs := by
  obtain ⟨h1, h2⟩ := h
  refine ⟨h1, ?_⟩
  rcases h2 with h2 | ⟨g, cap, cur, rfl, hg, hh, r⟩
  · exact Or.inl h2
  · exact Or.inr ⟨g, cap, cur, rfl, hg, by rw [hk g rfl]; exact hh, r⟩
theorem ownsMap_heap {w w' : World} {b n : Nat} {D : DataW Value} (h : w.ownsMap Tryz.prog 9 Rv b n D) (hk : w'.heap[b]? = w.heap[b]?) : w'.ownsMap Tryz.prog 9 Rv b n D := by
  obtain ⟨es, clock, h1, h2⟩ := h
  exact ⟨es, clock, hk.trans h1, h2⟩

mutual
theorem Rep.frame {w w' : World} {F : Nat → Prop} (h : ∀ k, F k → w'.heap[k]? = w.heap[k]?) : ∀ (j : J) {v : Value}, Rep w F j v → Rep w' F j v
  | .null, _, hj => by rw [Rep] at hj ⊢; exact hj
  | .bool _, _, hj => by rw [Rep] at hj ⊢; exact hj
  | .num _, _, hj => by rw [Rep] at hj ⊢; exact hj
  | .str _, _, hj => by rw [Rep] at hj ⊢; exact hj
  | .arr l, _, hj => by
    rw [Rep] at hj ⊢
    obtain ⟨sv, vs, e, h1, h2, h3⟩ := hj
    exact ⟨sv, vs, e, ownsRow_heap h1 (fun k hk => h k (h2 k hk)), h2, Reps.frame h l h3⟩
  | .obj l, _, hj => by
    rw [Rep] at hj ⊢
    obtain ⟨b, m, e, h1, h2, h3⟩ := hj
    exact ⟨b, m, e, h1, ownsMap_heap h2 (h b h1), Repm.frame h l h3⟩
theorem Reps.frame {w w' : World} {F : Nat → Prop} (h : ∀ k, F k → w'.heap[k]? = w.heap[k]?) : ∀ (l : List J) {vs : List Value}, Reps w F l vs → Reps w' F l vs
  | [], _, hj => by rw [Reps] at hj ⊢; exact hj
  | x :: l, _, hj => by
    rw [Reps] at hj ⊢
    obtain ⟨v, r, e, h1, h2⟩ := hj
    exact ⟨v, r, e, Rep.frame h x h1, Reps.frame h l h2⟩
theorem Repm.frame {w w' : World} {F : Nat → Prop} (h : ∀ k, F k → w'.heap[k]? = w.heap[k]?) : ∀ (l : List (Bs × J)) {m : List (Bs × Value)}, Repm w F l m → Repm w' F l m
  | [], _, hj => by rw [Repm] at hj ⊢; exact hj
  | (k, x) :: l, _, hj => by
    rw [Repm] at hj ⊢
    obtain ⟨v, r, e, h1, h2⟩ := hj
    exact ⟨v, r, e, Rep.frame h x h1, Repm.frame h l h2⟩
end
mutual
theorem Rep.mono {w : World} {F G : Nat → Prop} (h : ∀ k, F k → G k) : ∀ (j : J) {v : Value}, Rep w F j v → Rep w G j v
  | .null, _, hj => by rw [Rep] at hj ⊢; exact hj
  | .bool _, _, hj => by rw [Rep] at hj ⊢; exact hj
  | .num _, _, hj => by rw [Rep] at hj ⊢; exact hj
  | .str _, _, hj => by rw [Rep] at hj ⊢; exact hj
  | .arr l, _, hj => by
    rw [Rep] at hj ⊢
    obtain ⟨sv, vs, e, h1, h2, h3⟩ := hj
    exact ⟨sv, vs, e, h1, fun k hk => h k (h2 k hk), Reps.mono h l h3⟩
  | .obj l, _, hj => by
    rw [Rep] at hj ⊢
    obtain ⟨b, m, e, h1, h2, h3⟩ := hj
    exact ⟨b, m, e, h b h1, h2, Repm.mono h l h3⟩
theorem Reps.mono {w : World} {F G : Nat → Prop} (h : ∀ k, F k → G k) : ∀ (l : List J) {vs : List Value}, Reps w F l vs → Reps w G l vs
  | [], _, hj => by rw [Reps] at hj ⊢; exact hj
  | x :: l, _, hj => by
    rw [Reps] at hj ⊢
    obtain ⟨v, r, e, h1, h2⟩ := hj
    exact ⟨v, r, e, Rep.mono h x h1, Reps.mono h l h2⟩
theorem Repm.mono {w : World} {F G : Nat → Prop} (h : ∀ k, F k → G k) : ∀ (l : List (Bs × J)) {m : List (Bs × Value)}, Repm w F l m → Repm w G l m
  | [], _, hj => by rw [Repm] at hj ⊢; exact hj
  | (k, x) :: l, _, hj => by
    rw [Repm] at hj ⊢
    obtain ⟨v, r, e, h1, h2⟩ := hj
    exact ⟨v, r, e, Rep.mono h x h1, Repm.mono h l h2⟩
end
theorem Reps.snoc {w : World} {F : Nat → Prop} {x : J} {v : Value} (hx : Rep w F x v) : ∀ (l : List J) (vs : List Value), Reps w F l vs → Reps w F (l ++ [x]) (vs ++ [v])
  | [], vs, h => by
    rw [Reps] at h
    subst h
    simp only [List.nil_append]
    rw [Reps]
    exact ⟨v, [], rfl, hx, by rw [Reps]⟩
  | y :: l, vs, h => by
    rw [Reps] at h
    obtain ⟨u, r, rfl, h1, h2⟩ := h
    simp only [List.cons_append]
    rw [Reps]
    exact ⟨u, r ++ [v], rfl, h1, Reps.snoc hx l r h2⟩
theorem Repm.ins {w : World} {F : Nat → Prop} {k : Bs} {x : J} {v : Value} (hx : Rep w F x v) : ∀ (l : List (Bs × J)) (m : List (Bs × Value)), Repm w F l m → Repm w F (insK k x l) (insK k v m)
  | [], m, h => by
    rw [Repm] at h
    subst h
    simp only [insK]
    rw [Repm]
    exact ⟨v, [], rfl, hx, by rw [Repm]⟩
  | (a, y) :: l, m, h => by
    have h0 := h
    rw [Repm] at h
    obtain ⟨u, r, rfl, h1, h2⟩ := h
    simp only [insK]
    by_cases hlt : k < a
    · rw [if_pos hlt, if_pos hlt, Repm]
      exact ⟨v, _, rfl, hx, h0⟩
    · rw [if_neg hlt, if_neg hlt]
      by_cases he : a = k
      · rw [if_pos he, if_pos he, Repm]
        exact ⟨v, r, rfl, hx, h2⟩
      · rw [if_neg he, if_neg he, Repm]
        exact ⟨u, _, rfl, h1, Repm.ins hx l r h2⟩
theorem Repm.keys {w : World} {F : Nat → Prop} : ∀ (l : List (Bs × J)) (m : List (Bs × Value)), Repm w F l m → m.map (·.1) = l.map (·.1)
  | [], m, h => by rw [Repm] at h; subst h; rfl
  | (a, y) :: l, m, h => by
    rw [Repm] at h
    obtain ⟨u, r, rfl, h1, h2⟩ := h
    simp only [List.map_cons]
    rw [Repm.keys l r h2]
theorem srt_keys {α β : Type} {l : List (Bs × α)} {m : List (Bs × β)} (h : m.map (·.1) = l.map (·.1)) (hl : Srt l) : Srt m := by
  have h1 : (l.map (·.1)).Pairwise (· < ·) := List.pairwise_map.2 hl
  rw [← h] at h1
  exact List.pairwise_map.1 h1
theorem Repm.look {w : World} {F : Nat → Prop} (k : Bs) : ∀ (l : List (Bs × J)) (m : List (Bs × Value)), Repm w F l m → (lookK k m = none ∧ lookK k l = none) ∨ ∃ v x, lookK k m = some v ∧ lookK k l = some x ∧ Rep w F x v
  | [], m, h => by rw [Repm] at h; subst h; exact Or.inl ⟨rfl, rfl⟩
  | (a, y) :: l, m, h => by
    rw [Repm] at h
    obtain ⟨u, r, rfl, h1, h2⟩ := h
    simp only [lookK]
    by_cases he : a = k
    · rw [if_pos he, if_pos he]
      exact Or.inr ⟨u, y, rfl, rfl, h1⟩
    · rw [if_neg he, if_neg he]
      exact Repm.look k l r h2
end Go.Proofs.YtocligpfmfmihabGreatDoor

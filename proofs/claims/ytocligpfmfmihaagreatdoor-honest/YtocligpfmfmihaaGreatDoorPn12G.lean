import Derived.Test.YtocligpfmfmihaaGreatDoorPn8G
import Derived.Test.YtocligpfmfmihaaGreatDoorRef16
import Derived.Test.YtocligpfmfmihaaGreatDoorRea8G
import Derived.Test.YtocligpfmfmihaaGreatDoorLokG
import Derived.Test.YtocligpfmfmihaaGreatDoorPn4G
import Derived.Laws.OwnMore
namespace Go.Proofs.YtocligpfmfmihaaGreatDoor
open Go Go.RowKit Go.Maps Go.WideMaps Go.MuLone
attribute [local go_sem] Oper.semAt_some
theorem nilS (w : World) : (binOp .eql 36 (.slice none 0 0) (.slice none 0 0)).run Tryz.prog w = .ok (.bool true) w := by kernel_rfl
theorem someS (ad : Addr) (n c : Nat) (w : World) : (binOp .eql 36 (.slice (some ad) n c) (.slice none 0 0)).run Tryz.prog w = .ok (.bool false) w := by kernel_rfl
set_option maxRecDepth 20000 in
set_option maxHeartbeats 4000000 in
theorem clone_c (w : World) (B : Nat) (v : Value) (xs : List Bs) (row : w.ownsRow B 9 1 v xs.length (xs.map fun s => .string ⟨s.toArray⟩)) (hn : xs.length ≤ 1100000000) :
  Calls Tryz.prog 54 #[v] w fun e w' => ∃ v', e = .returned v' ∧ Kp (fun _ => False) w w' ∧ w'.ownsRow w.heap.size 9 1 v' xs.length (xs.map fun s => .string ⟨s.toArray⟩) := by
 obtain ⟨va, vc, rfl⟩ := own_slice row
 cases va with
 | none =>
  have hz : xs = [] ∧ vc = 0 := by
   rcases row.2 with ⟨e1, e⟩ | ⟨g, cap, cur, e, _⟩
   ·injection e1 with _ _ e1
    exact ⟨List.length_eq_zero_iff.1 e, e1⟩
   ·injection e with e; cases e
  obtain ⟨rfl, rfl⟩ := hz
  clear row
  have hq := nilS
  go_enter Tryz.func54, Tryz.ntmps54
  go_wp2
  go_ret
  exact ⟨_, rfl, Kp.refl _ _, World.ownsRow_nil _ _ _ _⟩
 | some ad =>
  have hq := someS ad xs.length vc
  go_enter Tryz.func54, Tryz.ntmps54
  obtain ⟨i0, hi, hz0, hz1, hz2⟩ := info_parts infoStr
  obtain ⟨g, rfl⟩ : ∃ g, ad = ⟨g, 0, none⟩ := by
   rcases row.2 with ⟨e1, _⟩ | ⟨g, cap, cur, e, _⟩
   ·injection e1 with e1; cases e1
   ·injection e with e
    injection e with e
    exact ⟨g, e⟩
  have hnew : ∀ ad, some (⟨g, 0, none⟩ : Addr) = some ad → ∀ j u, (xs.map fun s => Value.string ⟨s.toArray⟩)[j]? = some u → (w.alloc (.cells #[] 9)).cell? (ad.add j) = some u := by
   intro ad h j u hu
   injection h with h
   subst h
   exact (row.alloc (.cells #[] 9)).cells (g := g) rfl j u hu
  have hone : ∀ u ∈ (xs.map fun s => Value.string ⟨s.toArray⟩), u.oneCell' = true := by
   intro u hu
   obtain ⟨s, _, rfl⟩ := List.mem_map.1 hu
   rfl
  have r0 := World.ownsRow_lit (base := w.heap.size) (e := 9) (size := 1) w #[] 0 (Nat.le_refl _) (Nat.zero_le _) rfl
  have HN := hide (And.intro hnew (And.intro hone r0))
  clear hnew hone r0 row
  go_wp2_with (at_builtin; (refine wpList_append_any _ rfl _ _ 36 rfl w.heap.size 9 i0 (.string ⟨#[]⟩) 1 16 Tryz.underlying36 hi hz0 hz1 hz2 rfl (by decide) _ _ _ rfl HN.out.2.2 (some ⟨g, 0, none⟩) xs.length vc (xs.map fun s => Value.string ⟨s.toArray⟩) rfl (by simp) (fun h => by cases h) HN.out.1 HN.out.2.1 (by unfold maxLen; omega) (by omega) (by simp) ?_))
  intro v' w' y1 y2 y3
  have K2 : Kp (fun _ => False) w w' := ((Kp.refl _ w).alloc _).gr y2 (fun r e => by have := Option.some.inj (show some w.heap.size = some r from e); omega)
  have HY := hide (And.intro y1 K2)
  clear y1 y2 y3 K2
  go_wp2
  go_ret
  refine ⟨_, rfl, HY.out.2, ?_⟩
  exact HY.out.1
set_option maxRecDepth 20000 in
theorem newKnown_c (w : World) : Calls Tryz.prog 55 #[] w fun e w' => ∃ F kb, e = .returned (.pointer (some ⟨kb, 0, none⟩)) ∧ Kp (fun _ => False) w w' ∧ KN w' F kb Ldg.zero 0 ∧ (∀ k, F k → w.heap.size ≤ k ∧ k < w'.heap.size) := by
 have hm1 : ∀ (w : World), (Instr.makeMap 168 none).run Tryz.prog w = .ok (.map (some w.heap.size)) (w.alloc (.map #[] 0)) := by
  intro w
  simp [Instr.makeMap, Result.andThen]
 have hm2 : ∀ (w : World), (Instr.makeMap 169 none).run Tryz.prog w = .ok (.map (some w.heap.size)) (w.alloc (.map #[] 0)) := by
  intro w
  simp [Instr.makeMap, Result.andThen]
 go_enter Tryz.func55, Tryz.ntmps55
 go_wp2
 go_ret
 obtain ⟨i1, i2, i3⟩ := three_new w (.map #[] 0) (.map #[] 0) (.cells #[.int .i32 0, .int .u32 0, .map (some w.heap.size), .map (some (w.heap.size + 1))] 177)
 have o1 : (w.alloc (.map #[] 0)).ownsMap Tryz.prog 9 Rv w.heap.size 0 (dm []) := by simpa [dm] using World.ownsMap_made w Tryz.prog 9 Rv
 have o2 : ((w.alloc (.map #[] 0)).alloc (.map #[] 0)).ownsMap Tryz.prog 9 Rv (w.heap.size + 1) 0 (dm []) := by
  have h := World.ownsMap_made (w.alloc (.map #[] 0)) Tryz.prog 9 Rv
  rw [World.size_alloc] at h
  simpa [dm] using h
 have Kf : Kp (fun _ => False) w (((w.alloc (.map #[] 0)).alloc (.map #[] 0)).alloc (.cells #[.int .i32 0, .int .u32 0, .map (some w.heap.size), .map (some (w.heap.size + 1))] 177)) := (((Kp.refl _ _).alloc _).alloc _).alloc _
 have hsz : (((w.alloc (.map #[] 0)).alloc (.map #[] 0)).alloc (.cells #[.int .i32 0, .int .u32 0, .map (some w.heap.size), .map (some (w.heap.size + 1))] 177)).heap.size = w.heap.size + 3 := by simp
 refine ⟨fun k => k = w.heap.size ∨ k = w.heap.size + 1 ∨ k = w.heap.size + 1 + 1, w.heap.size + 1 + 1, rfl, Kf, ⟨w.heap.size, w.heap.size + 1, [], [], fun _ => 0, fun _ => 0, fun _ => [], ?_⟩, ?_⟩
 ·refine ⟨i3, ?_, ?_, List.Pairwise.nil, List.Pairwise.nil, fun _ => rfl, fun _ => rfl, fun _ _ h => (by cases h), fun _ _ _ => rfl, fun _ _ _ _ h => (by cases h), fun _ _ h => (by cases h), (by omega), Nat.le_refl _, Nat.le_refl _, Or.inr (Or.inr rfl), Or.inl rfl, Or.inr (Or.inl rfl), fun _ _ h => by cases h⟩
  ·refine ownsMap_heap o1 ?_
   rw [i1, heap_alloc_new]
  ·refine ownsMap_heap o2 ?_
   rw [i2]
   have h := heap_alloc_new (w.alloc (.map #[] 0)) (.map #[] 0)
   rw [World.size_alloc] at h
   exact h.symm
 ·rintro k (rfl | rfl | rfl)
  all_goals rw [hsz]
  all_goals omega
set_option maxRecDepth 20000 in
set_option maxHeartbeats 4000000 in
theorem new_c (w : World) (nm id ky : Bs) (B : Nat) (v : Value) (xs : List Bs) (row : w.ownsRow B 9 1 v xs.length (xs.map fun s => .string ⟨s.toArray⟩)) (hn : xs.length ≤ 1100000000) :
  Calls Tryz.prog 28 #[.string ⟨nm.toArray⟩, .string ⟨id.toArray⟩, .string ⟨ky.toArray⟩, v] w fun e w' => ∃ F nb, e = .returned (.pointer (some ⟨nb, 0, none⟩)) ∧ Kp (fun _ => False) w w' ∧ PN w' F nb nm id ky xs Ldg.zero 0 ∧ (∀ k, F k → w.heap.size ≤ k) := by
 have HC : Hid (∀ X, Kp (fun _ => False) w X → Calls Tryz.prog 54 #[v] X fun e w' => ∃ v', e = .returned v' ∧ Kp (fun _ => False) X w' ∧ w'.ownsRow X.heap.size 9 1 v' xs.length (xs.map fun s => .string ⟨s.toArray⟩)) := fun X hX => clone_c X B v xs (ownsRow_kp row hX (by simp)) hn
 obtain ⟨va, vc, rfl⟩ := own_slice row
 clear row
 go_enter Tryz.func28, Tryz.ntmps28
 go_wp2_with fail
 refine (HC.out w (Kp.refl _ _)).mono ?_
 rintro e w1 ⟨v1, rfl, K1, row1⟩
 obtain ⟨v1a, v1c, rfl⟩ := own_slice row1
 have HR := hide row1
 have HK1 := hide K1
 clear row1 K1 HC
 go_wp2_with fail
 refine (newKnown_c w1).mono ?_
 rintro e w2 ⟨Fk, kb, rfl, K2, hkn, hFk⟩
 have HN := hide (And.intro K2 (And.intro hkn hFk))
 clear K2 hkn hFk
 go_wp2
 go_ret
 have K3 : Kp (fun _ => False) w2 (w2.alloc (.cells #[.string ⟨nm.toArray⟩, .string ⟨id.toArray⟩, .string ⟨ky.toArray⟩, .slice v1a xs.length v1c, .pointer (some ⟨kb, 0, none⟩)] 100)) := (Kp.refl _ _).alloc _
 have row3 := ownsRow_kp HR.out (HN.out.1.trans K3) (by simp)
 have hs1 := HK1.out.size
 have hs2 := HN.out.1.size
 refine ⟨fun k => Fk k ∨ k = w2.heap.size ∨ (Value.slice v1a xs.length v1c).ownBlock = some k, w2.heap.size, rfl, (HK1.out.trans HN.out.1).trans K3, ⟨Fk, kb, .slice v1a xs.length v1c, ?_⟩, ?_⟩
 ·refine ⟨heap_alloc_new w2 _, HN.out.2.1.kp (fun k h => (HN.out.2.2 k h).2) K3, own_base (Nat.zero_le _) row3, Or.inr (Or.inl rfl), ?_, fun _ h => Or.inl h, ?_, ?_⟩
  ·intro k e
   refine ⟨Or.inr (Or.inr e), fun hf => ?_⟩
   have h1 := (HN.out.2.2 k hf).1
   have h2 := (HR.out.lt k e).2
   omega
  ·intro hf
   have := (HN.out.2.2 _ hf).2
   omega
  ·rw [World.size_alloc]
   rintro k (hf | rfl | e)
   ·have := (HN.out.2.2 k hf).2
    omega
   ·omega
   ·have := (HR.out.lt k e).2
    omega
 ·rintro k (hf | rfl | e)
  ·have := (HN.out.2.2 k hf).1
   omega
  ·omega
  ·exact (HR.out.lt k e).1
end Go.Proofs.YtocligpfmfmihaaGreatDoor
namespace Go.Proofs.YtocligpfmfmihaaGreatDoor
structure LOk (T : List Bs) (st : Ldg) : Prop where
 keys : ∀ s i p, st.keys s i = some p → p.1.length ≤ 600 ∧ ∃ t u ks k, t ∈ T ∧ readF t = .ok (s, u, ks) ∧ k ∈ ks ∧ k.id = i
 docs : ∀ s t, st.docs s = some t → t ∈ T ∧ ∃ u ks, readF t = .ok (s, u, ks)
 asked : ∀ s x, st.asked s = some x → (-9223372036854775808 ≤ x ∧ x ≤ 9223372036854775807) ∧ ∃ t cs c, t ∈ T ∧ takeF t = .ok cs ∧ c ∈ cs ∧ c.server = s
theorem LOk.zero (T : List Bs) : LOk T Ldg.zero := ⟨fun _ _ _ h => (by cases h), fun _ _ h => (by cases h), fun _ _ h => (by cases h)⟩
theorem LOk.upd {T : List Bs} {st : Ldg} (h : LOk T st) {t sn : Bs} {u : Int} {ks : List Ky} (ht : t ∈ T) (hr : readF t = .ok (sn, u, ks)) (now : Int) : ∀ l : List Ky, (∀ k ∈ l, k ∈ ks) → ∀ st', LOk T st' → LOk T (l.foldl (updK sn now) st')
 | [], _, st', h' => h'
 | k :: l, hl, st', h' => by
  refine LOk.upd h ht hr now l (fun q hq => hl q (List.mem_cons_of_mem _ hq)) _ ⟨?_, h'.docs, h'.asked⟩
  intro s i p hp
  have hk := hl k List.mem_cons_self
  simp only [updK] at hp
  split at hp
  ·rename_i he
   injection hp with hp
   subst hp
   exact ⟨((readF_ok hr).2.1 k hk).2, t, u, ks, k, ht, by rw [he.1]; exact hr, hk, he.2.symm⟩
  ·exact h'.keys s i p hp
theorem LOk.take {T : List Bs} {st : Ldg} (h : LOk T st) {t sn : Bs} {u : Int} {ks : List Ky} (ht : t ∈ T) (hr : readF t = .ok (sn, u, ks)) (now : Int) : LOk T (takeS st sn ks t now).2 := by
 unfold takeS
 split
 ·exact h
 ·have h1 := LOk.upd h ht hr now ks (fun _ h => h) st h
  refine ⟨h1.keys, ?_, h1.asked⟩
  intro s x hx
  simp only [keptS] at hx
  split at hx
  ·rename_i he
   injection hx with hx
   subst hx
   exact ⟨ht, u, ks, by rw [he]; exact hr⟩
  ·exact h1.docs s x hx
theorem LOk.learn {T : List Bs} {st : Ldg} (h : LOk T st) {t : Bs} (ht : t ∈ T) (now : Int) : LOk T (learnS st t now).2 := by
 unfold learnS
 cases hr : readF t with
 | error n => exact h
 | ok d =>
  obtain ⟨sn, u, ks⟩ := d
  exact h.take ht hr now
theorem fetF_mem {rs : List Rpl} {a b t : Bs} (h : fetF rs a b = some t) : ∃ r ∈ rs, r.text = t := by
 unfold fetF at h
 simp only [Option.bind_eq_some_iff] at h
 obtain ⟨r, h1, h2⟩ := h
 split at h2
 ·cases h2
 ·injection h2 with h2
  exact ⟨r, List.mem_of_find?_eq_some h1, h2⟩
theorem LOk.from {T : List Bs} {st : Ldg} (h : LOk T st) {rs : List Rpl} (hT : ∀ r ∈ rs, r.text ∈ T) (now : Int) (srv src : Bs) : LOk T (fromS rs now srv st src).2 := by
 unfold fromS
 cases hf : fetF rs src srv with
 | none => exact h
 | some t =>
  obtain ⟨r, hr, rfl⟩ := fetF_mem hf
  simp only []
  cases hd : readF r.text with
  | error n => exact h
  | ok d =>
   obtain ⟨sn, u, ks⟩ := d
   simp only []
   split
   ·exact h.take (hT r hr) hd now
   ·exact h
theorem LOk.ask {T : List Bs} {rs : List Rpl} (hT : ∀ r ∈ rs, r.text ∈ T) (now : Int) (c : Clm) : ∀ (l : List Bs) (st : Ldg) (n : Nat), LOk T st → LOk T (askL rs now c st l n).2.2
 | [], st, n, h => h
 | a :: l, st, n, h => by
  have h1 := h.from hT now c.server a
  simp only [askL]
  split
  ·exact h1
  ·exact LOk.ask hT now c l _ _ h1
theorem LOk.vain {T : List Bs} {st : Ldg} (h : LOk T st) {t : Bs} {cs : List Clm} {c : Clm} (ht : t ∈ T) (hc : takeF t = .ok cs) (hm : c ∈ cs) {now : Int} (h0 : -9223372036854775808 ≤ now) (h1 : now ≤ 9223372036854775807) : LOk T (vainS st c.server now) := by
 refine ⟨h.keys, h.docs, ?_⟩
 intro s x hx
 simp only [vainS] at hx
 split at hx
 ·rename_i he
  injection hx with hx
  subst hx
  exact ⟨⟨h0, h1⟩, t, cs, c, ht, hc, hm, he.symm⟩
 ·exact h.asked s x hx
theorem LOk.one {T : List Bs} {st : Ldg} (h : LOk T st) {rs : List Rpl} (hT : ∀ r ∈ rs, r.text ∈ T) {t : Bs} {cs : List Clm} {c : Clm} (ht : t ∈ T) (hc : takeF t = .ok cs) (hm : c ∈ cs) {now : Int} (h0 : -9223372036854775808 ≤ now) (h1 : now ≤ 9223372036854775807) (sources : List Bs) : LOk T (oneS rs now sources st c).2 := by
 unfold oneS
 split
 ·have h2 := LOk.ask hT now c (srcsF c.server sources) st 0 h
  unfold fetchS
  split
  ·exact h2
  ·exact h2.vain ht hc hm h0 h1
 ·exact h
theorem nodup_le {α : Type} [DecidableEq α] : ∀ {l : List α}, l.Nodup → ∀ {u : List α}, (∀ x ∈ l, x ∈ u) → l.length ≤ u.length
 | [], _, _, _ => by simp
 | x :: l, hn, u, h => by
  obtain ⟨h1, h2⟩ := List.nodup_cons.1 hn
  have hx := h x List.mem_cons_self
  have := nodup_le h2 (u := u.erase x) (fun y hy => (List.mem_erase_of_ne (by rintro rfl; exact h1 hy)).2 (h y (List.mem_cons_of_mem _ hy)))
  rw [List.length_erase_of_mem hx] at this
  have := List.length_pos_of_mem hx
  simp only [List.length_cons]
  omega
def namesT (t : Bs) : List (Bs × Bs) := match readF t with | .ok (s, _, ks) => ks.map fun k => (s, k.id) | .error _ => []
def srvsT (t : Bs) : List Bs := match readF t with | .ok (s, _, _) => [s] | .error _ => []
def asksT (t : Bs) : List Bs := match takeF t with | .ok cs => cs.map (·.server) | .error _ => []
theorem flat_le {α β : Type} (f : α → List β) (n : Nat) (h : ∀ x, (f x).length ≤ n) : ∀ l : List α, (l.flatMap f).length ≤ n * l.length
 | [] => by simp
 | x :: l => by
  have h1 := flat_le f n h l
  have h2 := h x
  simp only [List.flatMap_cons, List.length_append, List.length_cons, Nat.mul_add]
  omega
theorem namesT_len (t : Bs) : (namesT t).length ≤ 1100 := by
 unfold namesT
 cases hr : readF t with
 | error n => simp
 | ok d =>
  obtain ⟨s, u, ks⟩ := d
  simp only [List.length_map]
  exact (readF_ok hr).2.2.2.1
theorem srvsT_len (t : Bs) : (srvsT t).length ≤ 1 := by
 unfold srvsT
 cases readF t <;> simp
theorem clmF_len {l : List (Bs × J)} {cs : List Clm} (h : clmF l = some cs) : cs.length ≤ 2 := by
 unfold clmF at h
 simp only [Option.bind_eq_some_iff, Option.map_eq_some_iff] at h
 obtain ⟨ss, h1, t, h2, rfl⟩ := h
 rw [List.length_map]
 unfold srvF at h1
 simp only [Option.bind_eq_some_iff] at h1
 obtain ⟨o, _, h1⟩ := h1
 split at h1
 ·injection h1 with h1
  subst h1
  simp
 ·simp only [Option.map_eq_some_iff] at h1
  obtain ⟨s, _, rfl⟩ := h1
  split <;> simp
theorem takeF_len {t : Bs} {cs : List Clm} (h : takeF t = .ok cs) : cs.length ≤ 2 := by
 unfold takeF at h
 split at h
 ·cases h
 ·split at h
  ·cases h
  ·rename_i hc
   injection h with h
   subst h
   exact clmF_len hc
theorem asksT_len (t : Bs) : (asksT t).length ≤ 2 := by
 unfold asksT
 cases hr : takeF t with
 | error n => simp
 | ok cs =>
  simp only [List.length_map]
  exact takeF_len hr
theorem LOk.keys_le {T : List Bs} {st : Ldg} (h : LOk T st) {l : List (Bs × Bs)} (hn : l.Nodup) (hl : ∀ x ∈ l, st.keys x.1 x.2 ≠ none) : l.length ≤ 1100 * T.length := by
 refine Nat.le_trans (nodup_le hn (u := T.flatMap namesT) ?_) (flat_le namesT 1100 namesT_len T)
 intro x hx
 obtain ⟨p, hp⟩ := Option.ne_none_iff_exists'.1 (hl x hx)
 obtain ⟨_, t, u, ks, k, ht, hr, hk, hi⟩ := h.keys x.1 x.2 p hp
 refine List.mem_flatMap.2 ⟨t, ht, ?_⟩
 unfold namesT
 rw [hr]
 exact List.mem_map.2 ⟨k, hk, by rw [hi]⟩
theorem LOk.docs_le {T : List Bs} {st : Ldg} (h : LOk T st) {l : List Bs} (hn : l.Nodup) (hl : ∀ x ∈ l, st.docs x ≠ none) : l.length ≤ T.length := by
 have h1 := nodup_le hn (u := T.flatMap srvsT) (by
   intro x hx
   obtain ⟨p, hp⟩ := Option.ne_none_iff_exists'.1 (hl x hx)
   obtain ⟨ht, u, ks, hr⟩ := h.docs x p hp
   refine List.mem_flatMap.2 ⟨p, ht, ?_⟩
   unfold srvsT
   rw [hr]
   exact List.mem_singleton.2 rfl)
 have h2 := flat_le srvsT 1 srvsT_len T
 omega
theorem LOk.asked_le {T : List Bs} {st : Ldg} (h : LOk T st) {l : List Bs} (hn : l.Nodup) (hl : ∀ x ∈ l, st.asked x ≠ none) : l.length ≤ 2 * T.length := by
 refine Nat.le_trans (nodup_le hn (u := T.flatMap asksT) ?_) (flat_le asksT 2 asksT_len T)
 intro x hx
 obtain ⟨p, hp⟩ := Option.ne_none_iff_exists'.1 (hl x hx)
 obtain ⟨_, t, cs, c, ht, hr, hc, hs⟩ := h.asked x p hp
 refine List.mem_flatMap.2 ⟨t, ht, ?_⟩
 unfold asksT
 rw [hr]
 exact List.mem_map.2 ⟨c, hc, hs⟩
end Go.Proofs.YtocligpfmfmihaaGreatDoor
namespace Go.Proofs.YtocligpfmfmihaaGreatDoor
open Go Go.RowKit Go.Maps
def knC (k : Kn) : List Value := [.string ⟨k.srv.toArray⟩, .string ⟨k.id.toArray⟩, .string ⟨k.key.toArray⟩, .int .i64 k.till]
def hdC (p : Bs × Bs) : List Value := [.string ⟨p.1.toArray⟩, .string ⟨p.2.toArray⟩]
def akC (p : Bs × Int) : List Value := [.string ⟨p.1.toArray⟩, .int .i64 p.2]
theorem flat_get {α : Type} (f : α → List Value) (k : Nat) (hf : ∀ x, (f x).length = k) (ks : List α) (i : Nat) (x : α) (h : ks[i]? = some x) (j : Nat) (hj : j < k) : (ks.flatMap f)[i * k + j]? = (f x)[j]? := by
 induction ks generalizing i with
 | nil => cases h
 | cons a l ih =>
  cases i with
  | zero =>
   simp at h
   subst h
   rw [List.flatMap_cons, List.getElem?_append_left (by rw [hf]; omega)]
   simp
  | succ i =>
   rw [List.flatMap_cons, List.getElem?_append_right (by rw [hf, Nat.succ_mul]; omega)]
   have : (i + 1) * k + j - (f a).length = i * k + j := by rw [hf, Nat.succ_mul]; omega
   rw [this]
   exact ih i (by simpa using h)
theorem row_cell {α : Type} {f : α → List Value} {k : Nat} (hf : ∀ x, (f x).length = k) {w : World} {B g n c : Nat} {T : TypeId} {ks : List α} (h : w.ownsRow B T k (.slice (some ⟨g, 0, none⟩) n c) n (ks.flatMap f)) (i : Nat) (x : α) (hx : ks[i]? = some x) (j : Nat) (hj : j < k) (u : Value) (hu : (f x)[j]? = some u) : w.cell? ⟨g, i * k + j, none⟩ = some u := by
 have hc := h.cells (g := g) rfl
 have := hc (i * k + j) u (by rw [flat_get f k hf ks i x hx j hj]; exact hu)
 rw [Addr.add_lit] at this
 simpa using this
theorem own_sl {w : World} {B : Nat} {e : TypeId} {m : Nat} {v : Value} {n : Nat} {xs : List Value} (h : w.ownsRow B e m v n xs) : ∃ a c, v = .slice a n c ∧ n ≤ 9223372036854775807 ∧ (0 < n → ∃ g, a = some ⟨g, 0, none⟩ ∧ g < w.heap.size) := by
 have h2 := h
 obtain ⟨_, ⟨rfl, rfl⟩ | ⟨g, cap, cur, rfl, _, _, h3, h4, _⟩⟩ := h
 ·exact ⟨_, _, rfl, by omega, fun h => absurd h (by omega)⟩
 ·exact ⟨_, _, rfl, by unfold maxLen at h4; omega, fun _ => ⟨g, rfl, (h2.lt g rfl).2⟩⟩
def rnCells (nm id ky : Bs) (so l d a : Value) : Obj := .cells #[.string ⟨nm.toArray⟩, .string ⟨id.toArray⟩, .string ⟨ky.toArray⟩, so, l, d, a] 157
end Go.Proofs.YtocligpfmfmihaaGreatDoor
namespace Go.Proofs.YtocligpfmfmihaaGreatDoor
open Go Go.RowKit Go.Maps
structure RNs (w : World) (b : Nat) (nm id ky : Bs) (so l d a : Value) (L : List Kn) (D : List (Bs × Bs)) (A : List (Bs × Int)) : Prop where
 blk : w.heap[b]? = some (rnCells nm id ky so l d a)
 rl : w.ownsRow 0 255 4 l L.length (L.flatMap knC)
 rd : w.ownsRow 0 257 2 d D.length (D.flatMap hdC)
 ra : w.ownsRow 0 321 2 a A.length (A.flatMap akC)
def NdL (L : List Kn) : Prop := (L.map fun k => (k.srv, k.id)).Nodup
structure Abs (st : Ldg) (L : List Kn) (D : List (Bs × Bs)) (A : List (Bs × Int)) : Prop where
 keys : ∀ s i, st.keys s i = knAt L s i
 docs : ∀ s, st.docs s = asc D s
 asked : ∀ s, st.asked s = asc A s
 nl : NdL L
 nd : (D.map (·.1)).Nodup
 na : (A.map (·.1)).Nodup
def RNf (F : Nat → Prop) (b : Nat) (l d a : Value) : Prop := F b ∧ ∀ k, l.ownBlock = some k ∨ d.ownBlock = some k ∨ a.ownBlock = some k → F k
def RN (w : World) (F : Nat → Prop) (b : Nat) (nm id ky : Bs) (so : Value) (st : Ldg) (c : Nat) : Prop :=
 ∃ l d a L D A, RNs w b nm id ky so l d a L D A ∧ Abs st L D A ∧ L.length ≤ c ∧ D.length ≤ c ∧ A.length ≤ c ∧ RNf F b l d a
theorem RN.frame {w w' : World} {F : Nat → Prop} {b : Nat} {nm id ky : Bs} {so : Value} {st : Ldg} {c : Nat} (h : RN w F b nm id ky so st c) (hk : ∀ k, F k → w'.heap[k]? = w.heap[k]?) : RN w' F b nm id ky so st c := by
 obtain ⟨l, d, a, L, D, A, ⟨h1, h2, h3, h4⟩, h5, h6, h7, h8, h9, h10⟩ := h
 exact ⟨l, d, a, L, D, A, ⟨(hk b h9).trans h1, ownsRow_heap h2 (fun k e => hk k (h10 k (Or.inl e))), ownsRow_heap h3 (fun k e => hk k (h10 k (Or.inr (Or.inl e)))), ownsRow_heap h4 (fun k e => hk k (h10 k (Or.inr (Or.inr e))))⟩, h5, h6, h7, h8, h9, h10⟩
theorem row_blk {w : World} {B : Nat} {e : TypeId} {m : Nat} {v : Value} {n : Nat} {xs : List Value} (h : w.ownsRow B e m v n xs) {k : Nat} (hk : v.ownBlock = some k) : ∃ c, w.heap[k]? = some (.cells c e) := by
 rcases h.2 with ⟨rfl, _⟩ | ⟨g, cap, cur, rfl, hB, hh, _⟩
 ·cases hk
 ·injection hk with hk
  subst hk
  exact ⟨cur, hh⟩
theorem row_apart {w : World} {B B' : Nat} {e e' : TypeId} {m m' : Nat} {v v' : Value} {n n' : Nat} {xs xs' : List Value} (h : w.ownsRow B e m v n xs) (h' : w.ownsRow B' e' m' v' n' xs') (hne : e ≠ e') {k : Nat} (hk : v.ownBlock = some k) : v'.ownBlock ≠ some k := by
 intro hk'
 obtain ⟨c, hc⟩ := row_blk h hk
 obtain ⟨c', hc'⟩ := row_blk h' hk'
 rw [hc] at hc'
 injection hc' with hc'
 injection hc' with _ h2 _
 exact hne h2
theorem row_off {w : World} {B : Nat} {e T : TypeId} {m : Nat} {v : Value} {n b : Nat} {xs : List Value} {cs : Array Value} (h : w.ownsRow B e m v n xs) (hb : w.heap[b]? = some (.cells cs T)) (hne : e ≠ T) : v.ownBlock ≠ some b := by
 intro hk
 obtain ⟨c, hc⟩ := row_blk h hk
 rw [hb] at hc
 injection hc with hc
 injection hc with _ h2 _
 exact hne h2.symm
end Go.Proofs.YtocligpfmfmihaaGreatDoor
namespace Go.Proofs.YtocligpfmfmihaaGreatDoor
open Go Go.RowKit Go.Maps
theorem kn_set (L : List Kn) (n : Nat) (kn : Kn) (h : L[n]? = some kn) (t : Int) : (L.flatMap knC).set (n * 4 + 3) (.int .i64 t) = (L.set n { kn with till := t }).flatMap knC := by
 induction L generalizing n with
 | nil => cases h
 | cons a l ih =>
  cases n with
  | zero =>
   have : a = kn := by simpa using h
   subst this
   rfl
  | succ n =>
   rw [List.set_cons_succ, List.flatMap_cons, List.flatMap_cons, ← ih n (by simpa using h), List.set_append_right _ _ (by simp [knC]; omega)]
   have : (n + 1) * 4 + 3 - (knC a).length = n * 4 + 3 := by simp [knC]; omega
   rw [this]
theorem hd_set (L : List (Bs × Bs)) (n : Nat) (p : Bs × Bs) (h : L[n]? = some p) (t : Bs) : (L.flatMap hdC).set (n * 2 + 1) (.string ⟨t.toArray⟩) = (L.set n (p.1, t)).flatMap hdC := by
 induction L generalizing n with
 | nil => cases h
 | cons a l ih =>
  cases n with
  | zero =>
   have : a = p := by simpa using h
   subst this
   rfl
  | succ n =>
   rw [List.set_cons_succ, List.flatMap_cons, List.flatMap_cons, ← ih n (by simpa using h), List.set_append_right _ _ (by simp [hdC]; omega)]
   have : (n + 1) * 2 + 1 - (hdC a).length = n * 2 + 1 := by simp [hdC]; omega
   rw [this]
theorem RNs.kp {w w' : World} {b : Nat} {nm id ky : Bs} {so l d a : Value} {L : List Kn} {D : List (Bs × Bs)} {A : List (Bs × Int)} (h : RNs w b nm id ky so l d a L D A) (hk : Kp (fun _ => False) w w') : RNs w' b nm id ky so l d a L D A :=
 ⟨hk.heap h.blk, ownsRow_kp h.rl hk (by simp), ownsRow_kp h.rd hk (by simp), ownsRow_kp h.ra hk (by simp)⟩
theorem RNs.till {w : World} {b g lc : Nat} {nm id ky : Bs} {so d a : Value} {L : List Kn} {D : List (Bs × Bs)} {A : List (Bs × Int)} (h : RNs w b nm id ky so (.slice (some ⟨g, 0, none⟩) L.length lc) d a L D A) (n : Nat) (kn : Kn) (hk : L[n]? = some kn) (t : Int) :
  RNs (w.setCell ⟨g, n * 4 + 3, none⟩ (.int .i64 t)) b nm id ky so (.slice (some ⟨g, 0, none⟩) (L.set n { kn with till := t }).length lc) d a (L.set n { kn with till := t }) D A := by
 have hs := (h.rl.stored (n * 4 + 3) (.int .i64 t)).1
 rw [kn_set L n kn hk t] at hs
 have e : (Value.slice (some ⟨g, 0, none⟩) L.length lc).ownBlock = some g := rfl
 refine ⟨?_, by rw [List.length_set]; exact hs, ownsRow_heap h.rd (fun k hk' => heap_set_other ?_), ownsRow_heap h.ra (fun k hk' => heap_set_other ?_)⟩
 ·rw [heap_set_other (by
    show b ≠ g
    rintro rfl
    exact row_off h.rl h.blk (by decide) e), List.length_set]
  exact h.blk
 ·show k ≠ g
  rintro rfl
  exact row_apart h.rl h.rd (by decide) e hk'
 ·show k ≠ g
  rintro rfl
  exact row_apart h.rl h.ra (by decide) e hk'
theorem RNs.more {w w9 : World} {b : Nat} {nm id ky : Bs} {so l d a v9 : Value} {L : List Kn} {D : List (Bs × Bs)} {A : List (Bs × Int)} {X : Obj} {kn : Kn} (h : RNs w b nm id ky so l d a L D A) (o9 : w9.ownsRow 0 255 4 v9 (L.length + 1) (L.flatMap knC ++ knC kn)) (g9 : (w.alloc X).drew.grownBy w9 l.ownBlock) (a9 : v9.ownBlock = l.ownBlock ∨ v9.ownBlock = some (w.heap.size + 1)) :
  w9.heap[b]? = some (rnCells nm id ky so l d a) ∧ RNs (w9.setCell ⟨b, 4, none⟩ v9) b nm id ky so v9 d a (L ++ [kn]) D A := by
 have hb : w9.heap[b]? = some (rnCells nm id ky so l d a) := by
  rw [g9.block b (by show b < (w.alloc X).heap.size; have := lt_heap h.blk; simp; omega) (fun e => row_off h.rl h.blk (by decide) e.symm)]
  exact (Below.heap_alloc w X b (lt_heap h.blk)).trans h.blk
 have hbv : v9.ownBlock ≠ some b := by
  rcases a9 with e | e
  ·rw [e]; exact row_off h.rl h.blk (by decide)
  ·rw [e]
   intro e2
   injection e2 with e2
   have := lt_heap h.blk
   omega
 have kept : ∀ {T : TypeId} {m n : Nat} {v : Value} {xs : List Value}, w.ownsRow 0 T m v n xs → 255 ≠ T → T ≠ 157 → (w9.setCell ⟨b, 4, none⟩ v9).ownsRow 0 T m v n xs := by
  intro T m n v xs hr hT hT2
  refine ownsRow_heap hr ?_
  intro k hk
  have h1 := (hr.lt k hk).2
  rw [heap_set_other (by
    show k ≠ b
    rintro rfl
    exact row_off hr h.blk hT2 hk), g9.block k (by show k < (w.alloc X).heap.size; simp; omega) (fun e => row_apart h.rl hr hT e.symm hk)]
  exact Below.heap_alloc w X k h1
 refine ⟨hb, ?_, ?_, kept h.rd (by decide) (by decide), kept h.ra (by decide) (by decide)⟩
 ·unfold rnCells at *
  simp [World.setCell, Array.getElem?_modify, hb]
 ·have e9 : (L ++ [kn]).flatMap knC = L.flatMap knC ++ knC kn := by simp
  rw [e9, List.length_append]
  refine ownsRow_heap o9 (fun k hk => heap_set_other ?_)
  show k ≠ b
  rintro rfl
  exact hbv hk
end Go.Proofs.YtocligpfmfmihaaGreatDoor
namespace Go.Proofs.YtocligpfmfmihaaGreatDoor
open Go Go.RowKit Go.Maps
theorem RNs.doc {w : World} {b g lc : Nat} {nm id ky : Bs} {so l a : Value} {L : List Kn} {D : List (Bs × Bs)} {A : List (Bs × Int)} (h : RNs w b nm id ky so l (.slice (some ⟨g, 0, none⟩) D.length lc) a L D A) (n : Nat) (p : Bs × Bs) (hk : D[n]? = some p) (t : Bs) :
  RNs (w.setCell ⟨g, n * 2 + 1, none⟩ (.string ⟨t.toArray⟩)) b nm id ky so l (.slice (some ⟨g, 0, none⟩) (D.set n (p.1, t)).length lc) a L (D.set n (p.1, t)) A := by
 have hs := (h.rd.stored (n * 2 + 1) (.string ⟨t.toArray⟩)).1
 rw [hd_set D n p hk t] at hs
 have e : (Value.slice (some ⟨g, 0, none⟩) D.length lc).ownBlock = some g := rfl
 refine ⟨?_, ownsRow_heap h.rl (fun k hk' => heap_set_other ?_), by rw [List.length_set]; exact hs, ownsRow_heap h.ra (fun k hk' => heap_set_other ?_)⟩
 ·rw [heap_set_other (by
    show b ≠ g
    rintro rfl
    exact row_off h.rd h.blk (by decide) e), List.length_set]
  exact h.blk
 ·show k ≠ g
  rintro rfl
  exact row_apart h.rd h.rl (by decide) e hk'
 ·show k ≠ g
  rintro rfl
  exact row_apart h.rd h.ra (by decide) e hk'
end Go.Proofs.YtocligpfmfmihaaGreatDoor

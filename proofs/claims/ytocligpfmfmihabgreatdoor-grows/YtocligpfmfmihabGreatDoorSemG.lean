import Derived.Test.YtocligpfmfmihabGreatDoorMixG
import Derived.Test.YtocligpfmfmihabGreatDoorPn8G
import Derived.Test.YtocligpfmfmihabGreatDoorHon5G
import Derived.Test.YtocligpfmfmihabGreatDoorRea10G
import Derived.Laws.OwnMore
import Derived.Deep.RegionHeld
import Derived.Test.YtocligpfmfmihabGreatDoorPr2G
import Derived.Test.YtocligpfmfmihabGreatDoorPr5
import Derived.Test.YtocligpfmfmihabGreatDoorPr12G
namespace Go.Proofs.YtocligpfmfmihabGreatDoor

/-- All that is known comes out of some texts. -/
structure LOk (T : List Bs) (st : Ldg) : Prop where
  keys : ∀ s i p, st.keys s i = some p → p.1.length ≤ 600 ∧ ∃ t u ks k, t ∈ T ∧ readF t = .ok (s, u, ks) ∧ k ∈ ks ∧ k.id = i
  docs : ∀ s t, st.docs s = some t → t ∈ T ∧ ∃ u ks, readF t = .ok (s, u, ks)
  asked : ∀ s x, st.asked s = some x → (-9223372036854775808 ≤ x ∧ x ≤ 9223372036854775807) ∧ ∃ t cs c, t ∈ T ∧ takeF t = .ok cs ∧ c ∈ cs ∧ c.server = s
theorem LOk.zero (T : List Bs) : LOk T Ldg.zero := ⟨fun _ _ _ h => (by cases h), fun _ _ h => (by cases h), fun _ _ h => (by cases h)⟩
theorem LOk.upd {T : List Bs} {st : Ldg} (h : LOk T st) {t sn : Bs} {u : Int} {ks : List Ky} (ht : t ∈ T) (hr : readF t = .ok (sn, u, ks)) (now : Int) : ∀ l : List Ky, (∀ k ∈ l, k ∈ ks) → ∀ st', LOk T st' → LOk T (l.foldl (updK sn now) st')
  | [], _, st', h' => h'
  | k :: l, hl, st', h' => by
    refine LOk.upd h ht hr now l (fun q hq => hl q (List.mem_cons_of_mem _ hq)) _ ⟨?_, h'.docs, h'.asked⟩
    intro s i p hp
    have hk := hl k List.mem_cons_self
    simp only [updK] at hp
    split at hp
    · rename_i he
      injection hp with hp
      subst hp
      exact ⟨((readF_ok hr).2.1 k hk).2, t, u, ks, k, ht, by rw [he.1]; exact hr, hk, he.2.symm⟩
    · exact h'.keys s i p hp
theorem LOk.take {T : List Bs} {st : Ldg} (h : LOk T st) {t sn : Bs} {u : Int} {ks : List Ky} (ht : t ∈ T) (hr : readF t = .ok (sn, u, ks)) (now : Int) : LOk T (takeS st sn ks t now).2 := by
  unfold takeS
  split
  · exact h
  · have h1 := LOk.upd h ht hr now ks (fun _ h => h) st h
    refine ⟨h1.keys, ?_, h1.asked⟩
    intro s x hx
    simp only [keptS] at hx
    split at hx
    · rename_i he
      injection hx with hx
      subst hx
      exact ⟨ht, u, ks, by rw [he]; exact hr⟩
    · exact h1.docs s x hx
theorem LOk.learn {T : List Bs} {st : Ldg} (h : LOk T st) {t : Bs} (ht : t ∈ T) (now : Int) : LOk T (learnS st t now).2 := by
  unfold learnS
  cases hr : readF t with
  | error n => exact h
  | ok d =>
    obtain ⟨sn, u, ks⟩ := d
    exact h.take ht hr now
theorem fetF_mem {rs : List Rpl} {a b t : Bs} (h : fetF rs a b = some t) : ∃ r ∈ rs, r.text = t := by
  unfold fetF at h
  simp only [Option.bind_eq_some_iff] at h
  obtain ⟨r, h1, h2⟩ := h
  split at h2
  · cases h2
  · injection h2 with h2
    exact ⟨r, List.mem_of_find?_eq_some h1, h2⟩
theorem LOk.from {T : List Bs} {st : Ldg} (h : LOk T st) {rs : List Rpl} (hT : ∀ r ∈ rs, r.text ∈ T) (now : Int) (srv src : Bs) : LOk T (fromS rs now srv st src).2 := by
  unfold fromS
  cases hf : fetF rs src srv with
  | none => exact h
  | some t =>
    obtain ⟨r, hr, rfl⟩ := fetF_mem hf
    simp only []
    cases hd : readF r.text with
    | error n => exact h
    | ok d =>
      obtain ⟨sn, u, ks⟩ := d
      simp only []
      split
      · exact h.take (hT r hr) hd now
      · exact h
theorem LOk.ask {T : List Bs} {rs : List Rpl} (hT : ∀ r ∈ rs, r.text ∈ T) (now : Int) (c : Clm) : ∀ (l : List Bs) (st : Ldg) (n : Nat), LOk T st → LOk T (askL rs now c st l n).2.2
  | [], st, n, h => h
  | a :: l, st, n, h => by
    have h1 := h.from hT now c.server a
    simp only [askL]
    split
    · exact h1
    · exact LOk.ask hT now c l _ _ h1
theorem LOk.vain {T : List Bs} {st : Ldg} (h : LOk T st) {t : Bs} {cs : List Clm} {c : Clm} (ht : t ∈ T) (hc : takeF t = .ok cs) (hm : c ∈ cs) {now : Int} (h0 : -9223372036854775808 ≤ now) (h1 : now ≤ 9223372036854775807) : LOk T (vainS st c.server now) := by
  refine ⟨h.keys, h.docs, ?_⟩
  intro s x hx
  simp only [vainS] at hx
  split at hx
  · rename_i he
    injection hx with hx
    subst hx
    exact ⟨⟨h0, h1⟩, t, cs, c, ht, hc, hm, he.symm⟩
  · exact h.asked s x hx
theorem LOk.one {T : List Bs} {st : Ldg} (h : LOk T st) {rs : List Rpl} (hT : ∀ r ∈ rs, r.text ∈ T) {t : Bs} {cs : List Clm} {c : Clm} (ht : t ∈ T) (hc : takeF t = .ok cs) (hm : c ∈ cs) {now : Int} (h0 : -9223372036854775808 ≤ now) (h1 : now ≤ 9223372036854775807) (sources : List Bs) : LOk T (oneS rs now sources st c).2 := by
  unfold oneS
  split
  · have h2 := LOk.ask hT now c (srcsF c.server sources) st 0 h
    unfold fetchS
    split
    · exact h2
    · exact h2.vain ht hc hm h0 h1
  · exact h
/-! ### how much can be known -/
theorem nodup_le {α : Type} [DecidableEq α] : ∀ {l : List α}, l.Nodup → ∀ {u : List α}, (∀ x ∈ l, x ∈ u) → l.length ≤ u.length
  | [], _, _, _ => by simp
  | x :: l, hn, u, h => by
    obtain ⟨h1, h2⟩ := List.nodup_cons.1 hn
    have hx := h x List.mem_cons_self
    have := nodup_le h2 (u := u.erase x) (fun y hy => (List.mem_erase_of_ne (by rintro rfl; exact h1 hy)).2 (h y (List.mem_cons_of_mem _ hy)))
    rw [List.length_erase_of_mem hx] at this
    have := List.length_pos_of_mem hx
    simp only [List.length_cons]
    omega
/-- The names of servers and keys that a text can bring. -/
def namesT (t : Bs) : List (Bs × Bs) := match readF t with | .ok (s, _, ks) => ks.map fun k => (s, k.id) | .error _ => []
def srvsT (t : Bs) : List Bs := match readF t with | .ok (s, _, _) => [s] | .error _ => []
def asksT (t : Bs) : List Bs := match takeF t with | .ok cs => cs.map (·.server) | .error _ => []
theorem flat_le {α β : Type} (f : α → List β) (n : Nat) (h : ∀ x, (f x).length ≤ n) : ∀ l : List α, (l.flatMap f).length ≤ n * l.length
  | [] => by simp
  | x :: l => by
    have h1 := flat_le f n h l
    have h2 := h x
    simp only [List.flatMap_cons, List.length_append, List.length_cons, Nat.mul_add]
    omega
theorem namesT_len (t : Bs) : (namesT t).length ≤ 1100 := by
  unfold namesT
  cases hr : readF t with
  | error n => simp
  | ok d =>
    obtain ⟨s, u, ks⟩ := d
    simp only [List.length_map]
    exact (readF_ok hr).2.2.2.1
theorem srvsT_len (t : Bs) : (srvsT t).length ≤ 1 := by
  unfold srvsT
  cases readF t <;> simp
theorem clmF_len {l : List (Bs × J)} {cs : List Clm} (h : clmF l = some cs) : cs.length ≤ 2 := by
  unfold clmF at h
  simp only [Option.bind_eq_some_iff, Option.map_eq_some_iff] at h
  obtain ⟨ss, h1, t, h2, rfl⟩ := h
  rw [List.length_map]
  unfold srvF at h1
  simp only [Option.bind_eq_some_iff] at h1
  obtain ⟨o, _, h1⟩ := h1
  split at h1
  · injection h1 with h1
    subst h1
    simp
  · simp only [Option.map_eq_some_iff] at h1
    obtain ⟨s, _, rfl⟩ := h1
    split <;> simp
theorem takeF_len {t : Bs} {cs : List Clm} (h : takeF t = .ok cs) : cs.length ≤ 2 := by
  unfold takeF at h
  split at h
  · cases h
  · split at h
    · cases h
    · rename_i hc
      injection h with h
      subst h
      exact clmF_len hc
theorem asksT_len (t : Bs) : (asksT t).length ≤ 2 := by
  unfold asksT
  cases hr : takeF t with
  | error n => simp
  | ok cs =>
    simp only [List.length_map]
    exact takeF_len hr
/-- Lists of names without a name twice are not longer than what the texts can bring. -/
theorem LOk.keys_le {T : List Bs} {st : Ldg} (h : LOk T st) {l : List (Bs × Bs)} (hn : l.Nodup) (hl : ∀ x ∈ l, st.keys x.1 x.2 ≠ none) : l.length ≤ 1100 * T.length := by
  refine Nat.le_trans (nodup_le hn (u := T.flatMap namesT) ?_) (flat_le namesT 1100 namesT_len T)
  intro x hx
  obtain ⟨p, hp⟩ := Option.ne_none_iff_exists'.1 (hl x hx)
  obtain ⟨_, t, u, ks, k, ht, hr, hk, hi⟩ := h.keys x.1 x.2 p hp
  refine List.mem_flatMap.2 ⟨t, ht, ?_⟩
  unfold namesT
  rw [hr]
  exact List.mem_map.2 ⟨k, hk, by rw [hi]⟩
theorem LOk.docs_le {T : List Bs} {st : Ldg} (h : LOk T st) {l : List Bs} (hn : l.Nodup) (hl : ∀ x ∈ l, st.docs x ≠ none) : l.length ≤ T.length := by
  have h1 := nodup_le hn (u := T.flatMap srvsT) (by
    intro x hx
    obtain ⟨p, hp⟩ := Option.ne_none_iff_exists'.1 (hl x hx)
    obtain ⟨ht, u, ks, hr⟩ := h.docs x p hp
    refine List.mem_flatMap.2 ⟨p, ht, ?_⟩
    unfold srvsT
    rw [hr]
    exact List.mem_singleton.2 rfl)
  have h2 := flat_le srvsT 1 srvsT_len T
  omega
theorem LOk.asked_le {T : List Bs} {st : Ldg} (h : LOk T st) {l : List Bs} (hn : l.Nodup) (hl : ∀ x ∈ l, st.asked x ≠ none) : l.length ≤ 2 * T.length := by
  refine Nat.le_trans (nodup_le hn (u := T.flatMap asksT) ?_) (flat_le asksT 2 asksT_len T)
  intro x hx
  obtain ⟨p, hp⟩ := Option.ne_none_iff_exists'.1 (hl x hx)
  obtain ⟨_, t, cs, c, ht, hr, hc, hs⟩ := h.asked x p hp
  refine List.mem_flatMap.2 ⟨t, ht, ?_⟩
  unfold asksT
  rw [hr]
  exact List.mem_map.2 ⟨c, hc, hs⟩
end Go.Proofs.YtocligpfmfmihabGreatDoor
namespace Go.Proofs.YtocligpfmfmihabGreatDoor
open Go Go.RowKit Go.Maps

/-! ### the reference's notary -/
def knC (k : Kn) : List Value := [.string ⟨k.srv.toArray⟩, .string ⟨k.id.toArray⟩, .string ⟨k.key.toArray⟩, .int .i64 k.till]
def hdC (p : Bs × Bs) : List Value := [.string ⟨p.1.toArray⟩, .string ⟨p.2.toArray⟩]
def akC (p : Bs × Int) : List Value := [.string ⟨p.1.toArray⟩, .int .i64 p.2]
/-- The notary's own cells. -/
def rnCells (nm id ky : Bs) (so l d a : Value) : Obj := .cells #[.string ⟨nm.toArray⟩, .string ⟨id.toArray⟩, .string ⟨ky.toArray⟩, so, l, d, a] 0
end Go.Proofs.YtocligpfmfmihabGreatDoor
namespace Go.Proofs.YtocligpfmfmihabGreatDoor
open Go Go.RowKit Go.Maps

/-- What the reference's notary holds. -/
structure RNs (w : World) (b : Nat) (nm id ky : Bs) (so l d a : Value) (L : List Kn) (D : List (Bs × Bs)) (A : List (Bs × Int)) : Prop where
  blk : w.heap[b]? = some (rnCells nm id ky so l d a)
  rl : w.ownsRow 0 0 4 l L.length (L.flatMap knC)
  rd : w.ownsRow 0 0 2 d D.length (D.flatMap hdC)
  ra : w.ownsRow 0 0 2 a A.length (A.flatMap akC)
/-- No key stands twice. -/
def NdL (L : List Kn) : Prop := (L.map fun k => (k.srv, k.id)).Nodup
/-- It is what is known. -/
structure Abs (st : Ldg) (L : List Kn) (D : List (Bs × Bs)) (A : List (Bs × Int)) : Prop where
  keys : ∀ s i, st.keys s i = knAt L s i
  docs : ∀ s, st.docs s = asc D s
  asked : ∀ s, st.asked s = asc A s
  nl : NdL L
  nd : (D.map (·.1)).Nodup
  na : (A.map (·.1)).Nodup
end Go.Proofs.YtocligpfmfmihabGreatDoor
namespace Go.Proofs.YtocligpfmfmihabGreatDoor
open Go Go.RowKit Go.Maps

theorem srt_nd {α : Type} {m : List (Bs × α)} (h : Srt m) : (m.map (·.1)).Nodup := by
  unfold List.Nodup
  rw [List.pairwise_map]
  refine List.Pairwise.imp ?_ h
  intro a b hab e
  rw [e] at hab
  exact lt_irr _ hab
theorem look_some {α : Type} {m : List (Bs × α)} (h : Srt m) {x : Bs} (hx : x ∈ m.map (·.1)) : lookK x m ≠ none := by
  obtain ⟨p, hp, rfl⟩ := List.mem_map.1 hx
  obtain ⟨j, hj, he⟩ := List.mem_iff_getElem.1 hp
  rw [look_nthJ m h j p (by rw [List.getElem?_eq_getElem hj, he])]
  simp
/-- How much can be known. -/
def capT (T : List Bs) : Nat := 1100 * T.length
theorem KN.tight {w : World} {F : Nat → Prop} {kb : Nat} {st : Ldg} {c : Nat} (h : KN w F kb st c) {T : List Bs} (hT : LOk T st) : KN w F kb st (capT T) := by
  obtain ⟨mb, ib, sm, im, Bf, Qf, qm, h⟩ := h
  refine ⟨mb, ib, sm, im, Bf, Qf, qm, ⟨h.kblk, h.ms, h.mi, h.ss, h.si, h.look, h.vain, fun s t hs => ⟨(h.srv s t hs).1, ?_⟩, h.non, h.inj, h.off, h.mbib, ?_, ?_, h.fk, h.fm, h.fi, h.fs⟩⟩
  · have hv := (h.srv s t hs).1
    have := hT.keys_le (l := ((qm s).map (·.1)).map fun i => (s, i)) (by
      unfold List.Nodup
      rw [List.pairwise_map]
      refine List.Pairwise.imp ?_ (srt_nd hv.srt)
      intro a b hab e
      injection e with _ e
      exact hab e) (by
      intro x hx
      obtain ⟨i, hi, rfl⟩ := List.mem_map.1 hx
      have h1 := look_some hv.srt hi
      rw [hv.look i] at h1
      intro e
      simp only [] at e
      rw [e] at h1
      exact h1 rfl)
    rw [List.length_map, List.length_map] at this
    exact this
  · have := hT.docs_le (srt_nd h.ss) (by
      intro x hx
      have h1 := look_some h.ss hx
      rw [h.look x] at h1
      intro e
      rw [e] at h1
      exact h1 rfl)
    rw [List.length_map] at this
    unfold capT
    omega
  · have := hT.asked_le (srt_nd h.si) (by
      intro x hx
      have h1 := look_some h.si hx
      rw [h.vain x] at h1
      intro e
      rw [e] at h1
      exact h1 rfl)
    rw [List.length_map] at this
    unfold capT
    omega
theorem PNs.tight {w : World} {F Fk : Nat → Prop} {nb kb : Nat} {nm id ky : Bs} {so : Value} {srcs : List Bs} {st : Ldg} {c : Nat} (h : PNs w F Fk nb kb nm id ky so srcs st c) {T : List Bs} (hT : LOk T st) : PNs w F Fk nb kb nm id ky so srcs st (capT T) := ⟨h.nblk, h.kn.tight hT, h.rso, h.fn, h.fso, h.fk, h.nf, h.lt⟩
end Go.Proofs.YtocligpfmfmihabGreatDoor
namespace Go.Proofs.YtocligpfmfmihabGreatDoor
open Go Go.RowKit Go.Maps Go.WideMaps Go.MuLone
attribute [local go_sem] Oper.semAt_some

/-- The cells of a signature. -/
def sgC (p : Bs × Bs) : List Value := [.string ⟨p.1.toArray⟩, .string ⟨p.2.toArray⟩]
def clObj (c : Clm) (sv : Value) : Obj := .cells #[.string ⟨c.server.toArray⟩, .int .i64 c.ts, .string ⟨c.msg.toArray⟩, sv] 67
/-- What a claim is not longer than. -/
structure ClK (c : Clm) : Prop where
  srv : c.server.length ≤ 1000
  msg : c.msg.length ≤ 1000
  ids : ∀ p ∈ c.sigs, p.1.length ≤ 1000
  num : c.sigs.length ≤ 1000
end Go.Proofs.YtocligpfmfmihabGreatDoor
namespace Go.Proofs.YtocligpfmfmihabGreatDoor
open Go Go.RowKit Go.Maps Go.WideMaps Go.Sort Go.Shelf
/-- What a round must keep: rows that are no keys but for one variable; maps that were there. -/
def KpS (n0 ob : Nat) (W W' : World) : Prop := W.heap.size ≤ W'.heap.size ∧ (∀ k c t fz, W.heap[k]? = some (.cells c t fz) → t ≠ 120 → k ≠ ob → W'.heap[k]? = W.heap[k]?) ∧ (∀ k es cl, k < n0 → W.heap[k]? = some (.map es cl) → W'.heap[k]? = W.heap[k]?)
theorem KpS.t {n0 ob : Nat} {A B C : World} (h : KpS n0 ob A B) (k : KpS n0 ob B C) : KpS n0 ob A C := by
  refine ⟨Nat.le_trans h.1 k.1, ?_, ?_⟩
  · intro i c t fz h1 h2 h3
    have e := h.2.1 i c t fz h1 h2 h3
    exact (k.2.1 i c t fz (e.trans h1) h2 h3).trans e
  · intro i es cl h0 h1
    have e := h.2.2 i es cl h0 h1
    exact (k.2.2 i es cl h0 (e.trans h1)).trans e
theorem KpS.b {n0 ob : Nat} {w : World} (hn : n0 ≤ w.heap.size) (W : World) (l : Nat) (o o' : Obj) (hl : w.heap.size ≤ l) (h : W.heap[l]? = some o) (hc : o.isCells = false) (_ : o.isWalk = false) : KpS n0 ob W (W.putObj l o') := by
  have hg := grownBy_putObj' W l o'
  refine ⟨hg.size, ?_, ?_⟩
  · intro i c t fz h1 _ _
    refine hg.block i (lt_heap h1) ?_
    intro e
    injection e with e
    subst e
    rw [h] at h1
    injection h1 with h1
    subst h1
    cases hc
  · intro i es cl h0 h1
    exact hg.block i (lt_heap h1) (by intro e; injection e with e; omega)
attribute [local go_sem] Oper.semAt_some
end Go.Proofs.YtocligpfmfmihabGreatDoor

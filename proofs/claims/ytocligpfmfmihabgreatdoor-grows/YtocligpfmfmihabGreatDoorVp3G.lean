import Derived.Test.YtocligpfmfmihabGreatDoorSemG
import Derived.Test.YtocligpfmfmihabGreatDoorMixG
import Derived.Test.YtocligpfmfmihabGreatDoorRea10G
import Derived.Test.YtocligpfmfmihabGreatDoorPr2G
import Derived.Laws.OwnMore
import Derived.Test.YtocligpfmfmihabGreatDoorHon5G
import Derived.Test.YtocligpfmfmihabGreatDoorPn8G
import Derived.Deep.RegionHeld
import Derived.Test.YtocligpfmfmihabGreatDoorPr12G
import Derived.Lib.SliceRun
import Derived.Test.YtocligpfmfmihabGreatDoorChnG
import Derived.Test.YtocligpfmfmihabGreatDoorErr3
namespace Go.Proofs.YtocligpfmfmihabGreatDoor
open Go Go.RowKit Go.Maps Go.WideMaps Go.Sort Go.Shelf
attribute [local go_sem] Oper.semAt_some
/-- The invariant of the rounds. -/
def SIv (X0 : World) (kb : Nat) (m : List (Bs × J)) (n : Nat) (pre : List (Fin n)) (X : World) : Prop :=
  ∃ vv ys, X.heap[kb]? = some (.cells #[vv] 65) ∧ X.ownsRow X0.heap.size 120 2 vv ys.length (ys.flatMap sgC) ∧ (pre.map fun i => nthM m i.val).filterMap sgP = ys ∧ Kp (· = kb) X0 X
theorem SIv.own {X0 : World} {kb : Nat} {m : List (Bs × J)} {n : Nat} : OwnFrom X0.heap.size (SIv X0 kb m n) := by
  rintro pre X Y row ⟨vv, ks, h1, h2, h3, h4⟩ hg hr
  refine ⟨vv, ks, grown_cells hg (fun r e => (hr r e).2) h1, ownsRow_heap h2 ?_, h3, h4.gr hg (fun r e => (hr r e).1)⟩
  intro k e
  obtain ⟨_, ⟨rfl, _⟩ | ⟨g, cap, cur, rfl, _, hh, _⟩⟩ := h2
  · cases e
  · injection e with e
    subst e
    rw [grown_cells hg (fun r e => (hr r e).2) hh, hh]
end Go.Proofs.YtocligpfmfmihabGreatDoor
namespace Go.Proofs.YtocligpfmfmihabGreatDoor
open Go Go.RowKit Go.Maps
attribute [local go_sem] Oper.semAt_some

/-- An event of the reference, in memory. -/
def evC (pv : Option Addr) (sv : Value) (at' : Int) (msg : Bs) : Obj := .cells #[.pointer pv, sv, .int .i64 at', .string ⟨msg.toArray⟩] 0
end Go.Proofs.YtocligpfmfmihabGreatDoor
namespace Go.Proofs.YtocligpfmfmihabGreatDoor
open Go Go.RowKit Go.Maps
attribute [local go_sem] Oper.semAt_some

/-- An event of the reference, with all that it leads to: blocks from lo up to hi. -/
structure REv (w : World) (lo hi eb vb : Nat) (sv : Value) (l : List (Bs × J)) (ss : List Bs) (at' : Int) (msg : Bs) : Prop where
  blk : w.heap[eb]? = some (evC (some ⟨vb, 0, none⟩) sv at' msg)
  tree : RR w (fun c => lo ≤ c ∧ c < hi) (.obj l) vb
  row : w.ownsRow lo 9 1 sv ss.length (ss.map fun s => .string ⟨s.toArray⟩)
  len : (cJ (.obj l)).length ≤ 600
  mlen : msg.length ≤ 1000
  ebl : lo ≤ eb ∧ eb < hi
  svl : ∀ k, sv.ownBlock = some k → k < hi
  hil : hi ≤ w.heap.size
theorem REv.frame {w w' : World} {lo hi eb vb : Nat} {sv : Value} {l : List (Bs × J)} {ss : List Bs} {at' : Int} {msg : Bs} (h : REv w lo hi eb vb sv l ss at' msg) (hs : w.heap.size ≤ w'.heap.size) (hk : ∀ k, lo ≤ k → k < hi → w'.heap[k]? = w.heap[k]?) : REv w' lo hi eb vb sv l ss at' msg :=
  ⟨(hk eb h.ebl.1 h.ebl.2).trans h.blk, h.tree.frame (fun _ hk' => hk _ hk'.1 hk'.2) (fun _ h => h), ownsRow_heap h.row (fun k e => hk k (h.row.lt k e).1 (h.svl k e)), h.len, h.mlen, h.ebl, h.svl, Nat.le_trans h.hil hs⟩
theorem REv.kp {w w' : World} {F : Nat → Prop} {lo hi eb vb : Nat} {sv : Value} {l : List (Bs × J)} {ss : List Bs} {at' : Int} {msg : Bs} (h : REv w lo hi eb vb sv l ss at' msg) (K : Kp F w w') (hF : ∀ k, F k → k < lo ∨ hi ≤ k) : REv w' lo hi eb vb sv l ss at' msg :=
  h.frame K.size (fun k h1 h2 => K.block k (Nat.lt_of_lt_of_le h2 h.hil) (fun hf => by rcases hF k hf with h | h <;> omega))
theorem REv.po {w : World} {lo hi eb vb : Nat} {sv : Value} {l : List (Bs × J)} {ss : List Bs} {at' : Int} {msg : Bs} (h : REv w lo hi eb vb sv l ss at' msg) : PoJ w (some ⟨vb, 0, none⟩) (some (.obj l)) :=
  Or.inr ⟨vb, _, rfl, rfl, h.len, h.tree.frame (fun _ _ => rfl) (fun _ hk => Nat.lt_of_lt_of_le hk.2 h.hil)⟩
end Go.Proofs.YtocligpfmfmihabGreatDoor
namespace Go.Proofs.YtocligpfmfmihabGreatDoor
open Go Go.RowKit Go.Maps
attribute [local go_sem] Oper.semAt_some

/-- The cells of a reply. -/
def rpC (r : Rpl) : List Value := [.string ⟨r.src.toArray⟩, .string ⟨r.srv.toArray⟩, .string ⟨r.text.toArray⟩, .bool r.fails]
/-- Replies that can be read. -/
def RpI (w : World) (rs : List Rpl) (ra : Option Addr) : Prop := ∀ j r, rs[j]? = some r → ∃ g o, ra = some ⟨g, o, none⟩ ∧ ∀ m u, (rpC r)[m]? = some u → w.cell? ⟨g, o + j * 4 + m, none⟩ = some u
theorem RpI.cells {w : World} {rs : List Rpl} {ra : Option Addr} (h : RpI w rs ra) {j : Nat} {r : Rpl} (hr : rs[j]? = some r) : ∃ g o, ra = some ⟨g, o, none⟩ ∧ w.cell? ⟨g, o + j * 4, none⟩ = some (.string ⟨r.src.toArray⟩) ∧ w.cell? ⟨g, o + j * 4 + 1, none⟩ = some (.string ⟨r.srv.toArray⟩) ∧ w.cell? ⟨g, o + j * 4 + 2, none⟩ = some (.string ⟨r.text.toArray⟩) ∧ w.cell? ⟨g, o + j * 4 + 3, none⟩ = some (.bool r.fails) := by
  obtain ⟨g, o, h1, h2⟩ := h j r hr
  exact ⟨g, o, h1, h2 0 _ rfl, h2 1 _ rfl, h2 2 _ rfl, h2 3 _ rfl⟩
end Go.Proofs.YtocligpfmfmihabGreatDoor
namespace Go.Proofs.YtocligpfmfmihabGreatDoor
open Go Go.RowKit Go.Maps Go.WideMaps
attribute [local go_sem] Oper.semAt_some

/-- The cells of a claim. -/
def clC (p : Clm × Value) : List Value := [.string ⟨p.1.server.toArray⟩, .int .i64 p.1.ts, .string ⟨p.1.msg.toArray⟩, p.2]
end Go.Proofs.YtocligpfmfmihabGreatDoor
namespace Go.Proofs.YtocligpfmfmihabGreatDoor
open Go Go.RowKit Go.Maps Go.WideMaps
attribute [local go_sem] Oper.semAt_some

/-- All that a call of fetch finds in memory beside what is known. -/
structure FE (W w : World) (Fk : Nat → Prop) (nb kb : Nat) (nm id ky : Bs) (so : Value) (xs : List Bs) (rs : List Rpl) (ra : Option Addr) (rc cb : Nat) : Prop where
  bl : Below W.heap.size W w
  fl : ∀ k, Fk k → W.heap.size ≤ k ∧ k < w.heap.size
  nblk : w.heap[nb]? = some (ntObj nm id ky so kb)
  nf : ¬ Fk nb
  rso : w.ownsRow 0 9 1 so xs.length (xs.map fun s => .string ⟨s.toArray⟩)
  fso : ∀ k, so.ownBlock = some k → ¬ Fk k ∧ k < w.heap.size
  hcb : w.heap[cb]? = some (.cells #[.slice ra rs.length rc] 37)
  cf : ¬ Fk cb
  hI : RpI w rs ra
  rf : rs ≠ [] → ∀ g o, ra = some ⟨g, o, none⟩ → ¬ Fk g ∧ g < w.heap.size
/-- What the asking whether it is enough finds in memory. -/
structure CE (w : World) (Fk : Nat → Prop) (nb pb ib : Nat) (cl : Clm) (sv : Value) : Prop where
  pblk : w.heap[pb]? = some (.cells #[.pointer (some ⟨nb, 0, none⟩)] 27)
  pf : ¬ Fk pb
  iblk : w.heap[ib]? = some (clObj cl sv)
  nf : ¬ Fk ib
  row : w.ownsRow 0 120 2 sv cl.sigs.length (cl.sigs.flatMap sgC)
  sf : ∀ k, sv.ownBlock = some k → ¬ Fk k ∧ k < w.heap.size
theorem RpI.kps {w w' : World} {S : Nat → Prop} {rs : List Rpl} {ra : Option Addr} (h : RpI w rs ra) (K : Kp S w w') (hS : rs ≠ [] → ∀ g o, ra = some ⟨g, o, none⟩ → ¬ S g) : RpI w' rs ra := by
  intro j r hr
  obtain ⟨g, o, e, hm⟩ := h j r hr
  exact ⟨g, o, e, fun m u hu => (K.cell (lt_cell (hm m u hu)) (hS (by rintro rfl; cases hr) g o e)).trans (hm m u hu)⟩
theorem below_fq {W w w' : World} {F : Nat → Prop} (h : Below W.heap.size W w) (K : Kp F w w') (hF : ∀ k, F k → W.heap.size ≤ k) : Below W.heap.size W w' :=
  ⟨K.os.trans h.os, K.tape.trans h.tape, K.output.trans h.output, Nat.le_trans h.size K.size, fun k hk => (K.block k (Nat.lt_of_lt_of_le hk h.size) (fun hf => by have := hF k hf; omega)).trans (h.block k hk)⟩
theorem hp_kp {w w' : World} {S : Nat → Prop} {k : Nat} {o : Obj} (h : w.heap[k]? = some o) (K : Kp S w w') (hS : ¬ S k) : w'.heap[k]? = some o := (K.block k (lt_heap h) hS).trans h
theorem FE.kp {W w w' : World} {Fk Fk' : Nat → Prop} {nb kb : Nat} {nm id ky : Bs} {so : Value} {xs : List Bs} {rs : List Rpl} {ra : Option Addr} {rc cb : Nat} (h : FE W w Fk nb kb nm id ky so xs rs ra rc cb) (K : Kp Fk w w') (h1 : ∀ k, Fk' k → Fk k ∨ w.heap.size ≤ k) (h2 : ∀ k, Fk' k → k < w'.heap.size) : FE W w' Fk' nb kb nm id ky so xs rs ra rc cb := by
  have hn : ∀ k, k < w.heap.size → ¬ Fk k → ¬ Fk' k := fun k hk hf hf' => (h1 k hf').elim hf (fun h => by omega)
  refine ⟨below_fq h.bl K (fun k hf => (h.fl k hf).1), fun k hf => ⟨?_, h2 k hf⟩, hp_kp h.nblk K h.nf, hn _ (lt_heap h.nblk) h.nf, ownsRow_kp h.rso K (fun k e => (h.fso k e).1), fun k e => ⟨hn k (h.fso k e).2 (h.fso k e).1, Nat.lt_of_lt_of_le (h.fso k e).2 K.size⟩, hp_kp h.hcb K h.cf, hn _ (lt_heap h.hcb) h.cf, h.hI.kps K (fun h0 g o e => (h.rf h0 g o e).1), fun h0 g o e => ⟨hn g (h.rf h0 g o e).2 (h.rf h0 g o e).1, Nat.lt_of_lt_of_le (h.rf h0 g o e).2 K.size⟩⟩
  rcases h1 k hf with hf | hf
  · exact (h.fl k hf).1
  · exact Nat.le_trans h.bl.size hf
theorem CE.kp {w w' : World} {Fk Fk' : Nat → Prop} {nb pb ib : Nat} {cl : Clm} {sv : Value} (h : CE w Fk nb pb ib cl sv) (K : Kp Fk w w') (h1 : ∀ k, Fk' k → Fk k ∨ w.heap.size ≤ k) : CE w' Fk' nb pb ib cl sv := by
  have hn : ∀ k, k < w.heap.size → ¬ Fk k → ¬ Fk' k := fun k hk hf hf' => (h1 k hf').elim hf (fun h => by omega)
  exact ⟨hp_kp h.pblk K h.pf, hn _ (lt_heap h.pblk) h.pf, hp_kp h.iblk K h.nf, hn _ (lt_heap h.iblk) h.nf, ownsRow_kp h.row K (fun k e => (h.sf k e).1), fun k e => ⟨hn k (h.sf k e).2 (h.sf k e).1, Nat.lt_of_lt_of_le (h.sf k e).2 K.size⟩⟩
end Go.Proofs.YtocligpfmfmihabGreatDoor
namespace Go.Proofs.YtocligpfmfmihabGreatDoor
open Go Go.RowKit Go.Maps Go.WideMaps
attribute [local go_sem] Oper.semAt_some

/-- What fetch and its loop have at hand. -/
structure FI (W w : World) (Fk : Nat → Prop) (nb kb : Nat) (nm id ky : Bs) (so : Value) (xs : List Bs) (rs : List Rpl) (ra : Option Addr) (rc cb pb ib : Nat) (cl : Clm) (sv : Value) (T : List Bs) (st : Ldg) : Prop where
  fe : FE W w Fk nb kb nm id ky so xs rs ra rc cb
  ce : CE w Fk nb pb ib cl sv
  kn : KN w Fk kb st (capT T)
  ok : LOk T st
theorem FI.kp {W w w' : World} {Fk Fk' : Nat → Prop} {nb kb : Nat} {nm id ky : Bs} {so : Value} {xs : List Bs} {rs : List Rpl} {ra : Option Addr} {rc cb pb ib : Nat} {cl : Clm} {sv : Value} {T : List Bs} {st st' : Ldg} (h : FI W w Fk nb kb nm id ky so xs rs ra rc cb pb ib cl sv T st) (K : Kp Fk w w') (h1 : ∀ k, Fk' k → Fk k ∨ w.heap.size ≤ k) (h2 : ∀ k, Fk' k → k < w'.heap.size) (hk : KN w' Fk' kb st' (capT T)) (ho : LOk T st') : FI W w' Fk' nb kb nm id ky so xs rs ra rc cb pb ib cl sv T st' :=
  ⟨h.fe.kp K h1 h2, h.ce.kp K h1, hk, ho⟩
end Go.Proofs.YtocligpfmfmihabGreatDoor
namespace Go.Proofs.YtocligpfmfmihabGreatDoor
open Go Go.RowKit Go.Maps
attribute [local go_sem] Oper.semAt_some

/-- Sources that can be read. -/
def SrI (w : World) (xs : List Bs) (va : Option Addr) : Prop := ∀ j x, xs[j]? = some x → ∃ g o, va = some ⟨g, o, none⟩ ∧ w.cell? ⟨g, o + j, none⟩ = some (.string ⟨x.toArray⟩)
end Go.Proofs.YtocligpfmfmihabGreatDoor
namespace Go.Proofs.YtocligpfmfmihabGreatDoor
open Go Go.RowKit Go.Maps Go.WideMaps
attribute [local go_sem] Oper.semAt_some

/-- What Verify's loop finds in memory, and keeps. -/
structure VE (w wx : World) (Fk : Nat → Prop) (nb : Nat) (ps : List (Clm × Value)) (v : Value) : Prop where
  kw : Kp (fun _ => False) w wx
  fz : ∀ k, Fk k → k < w.heap.size
  pblk : wx.heap[w.heap.size]? = some (.cells #[.pointer (some ⟨nb, 0, none⟩)] 27)
  rblk : wx.heap[w.heap.size + 1]? = some (.cells #[.int .i64 0, .string ⟨#[]⟩] 32)
  row : wx.ownsRow w.heap.size 67 4 v ps.length (ps.flatMap clC)
  sigs : ∀ p ∈ ps, wx.ownsRow w.heap.size 120 2 p.2 p.1.sigs.length (p.1.sigs.flatMap sgC)
/-- The same later on. -/
structure VL (w wx : World) (F1 : Nat → Prop) (nb : Nat) (ps : List (Clm × Value)) (v : Value) : Prop where
  pblk : wx.heap[w.heap.size]? = some (.cells #[.pointer (some ⟨nb, 0, none⟩)] 27)
  pf : ¬ F1 w.heap.size
  rblk : wx.heap[w.heap.size + 1]? = some (.cells #[.int .i64 0, .string ⟨#[]⟩] 32)
  rf : ¬ F1 (w.heap.size + 1)
  row : wx.ownsRow w.heap.size 67 4 v ps.length (ps.flatMap clC)
  sigs : ∀ p ∈ ps, wx.ownsRow 0 120 2 p.2 p.1.sigs.length (p.1.sigs.flatMap sgC) ∧ ∀ k, p.2.ownBlock = some k → ¬ F1 k ∧ k < wx.heap.size
theorem row_mono {w : World} {B B' : Nat} {e : TypeId} {sz n : Nat} {v : Value} {xs : List Value} (h : w.ownsRow B e sz v n xs) (hb : B' ≤ B) : w.ownsRow B' e sz v n xs := by
  obtain ⟨h1, h2⟩ := h
  refine ⟨h1, ?_⟩
  rcases h2 with h2 | ⟨g, cap, cur, rfl, hg, r⟩
  · exact Or.inl h2
  · exact Or.inr ⟨g, cap, cur, rfl, Nat.le_trans hb hg, r⟩
theorem VE.kp {w w5 wx : World} {Fk F1 : Nat → Prop} {nb : Nat} {ps : List (Clm × Value)} {v : Value} (h : VE w w5 Fk nb ps v) (K : Kp Fk w5 wx) (hF : ∀ k, F1 k → Fk k ∨ w5.heap.size ≤ k) : VL w wx F1 nb ps v := by
  have hn : ∀ k, w.heap.size ≤ k → ¬ Fk k := fun k hk hf => by have := h.fz k hf; omega
  have hn1 : ∀ k, w.heap.size ≤ k → k < w5.heap.size → ¬ F1 k := fun k hk hk5 hf => (hF k hf).elim (hn k hk) (fun h => by omega)
  exact ⟨hp_kp h.pblk K (hn _ (Nat.le_refl _)), hn1 _ (Nat.le_refl _) (lt_heap h.pblk), hp_kp h.rblk K (hn _ (Nat.le_succ _)), hn1 _ (Nat.le_succ _) (lt_heap h.rblk), ownsRow_kp h.row K (fun k e => hn k (h.row.lt k e).1), fun p hp => ⟨row_mono (ownsRow_kp (h.sigs p hp) K (fun k e => hn k ((h.sigs p hp).lt k e).1)) (Nat.zero_le _), fun k e => ⟨hn1 k ((h.sigs p hp).lt k e).1 ((h.sigs p hp).lt k e).2, Nat.lt_of_lt_of_le ((h.sigs p hp).lt k e).2 K.size⟩⟩⟩
end Go.Proofs.YtocligpfmfmihabGreatDoor
namespace Go.Proofs.YtocligpfmfmihabGreatDoor
open Go Go.RowKit Go.Maps Go.Lib

theorem pn_kp {w w' : World} {F : Nat → Prop} {nb : Nat} {nm id ky : Bs} {xs : List Bs} {st : Ldg} {c : Nat} (h : PN w F nb nm id ky xs st c) (K : Kp (fun _ => False) w w') : PN w' F nb nm id ky xs st c := by
  obtain ⟨Fk, kb, so, h⟩ := h
  exact ⟨Fk, kb, so, h.kp K⟩
end Go.Proofs.YtocligpfmfmihabGreatDoor
namespace Go.Proofs.YtocligpfmfmihabGreatDoor
open Go Go.Lib

/-- A key that may have signed is still there behind a list of keys none of which is at odds with what was known. -/
theorem upd_may {sn : Bs} {now : Int} {st0 : Ldg} {s i k : Bs} {at' : Int} {p : Bs × Int} (h0 : st0.keys s i = some p) (hk : p.1 = k) : ∀ (l : List Ky) (st : Ldg), (∀ y ∈ l, cnfK st0 sn y = false) → (∃ t, st.keys s i = some (k, t) ∧ ¬ t < at') → ∃ t, (l.foldl (updK sn now) st).keys s i = some (k, t) ∧ ¬ t < at'
  | [], st, _, h => h
  | y :: l, st, hc, ⟨t, h1, h2⟩ => by
    rw [List.foldl_cons]
    refine upd_may h0 hk l _ (fun z hz => hc z (List.mem_cons_of_mem _ hz)) ?_
    by_cases e : s = sn ∧ i = y.id
    · obtain ⟨rfl, rfl⟩ := e
      have hy := hc y (by simp)
      unfold cnfK at hy
      rw [h0] at hy
      simp only [ne_eq, decide_eq_false_iff_not, Classical.not_not] at hy
      rw [updK_same, h1]
      refine ⟨max (tillF now y) t, ?_, by omega⟩
      rw [← hy, hk]
    · rw [updK_other _ _ _ _ _ _ e]
      exact ⟨t, h1, h2⟩
/-- What may have signed once may have signed behind whatever is learned. -/
theorem learn_may {st : Ldg} (text : Bs) (now : Int) {s i k : Bs} {at' : Int} (h : mayS st s i at' = some k) : mayS (learnS st text now).2 s i at' = some k := by
  have hs : ∃ t, st.keys s i = some (k, t) ∧ ¬ t < at' := by
    unfold mayS at h
    cases hp : st.keys s i with
    | none => rw [hp] at h; cases h
    | some p =>
      rw [hp] at h
      simp only [Option.bind_some] at h
      split at h
      · cases h
      · injection h with h
        subst h
        exact ⟨p.2, rfl, by assumption⟩
  unfold learnS
  split
  · exact h
  · unfold takeS
    split
    · exact h
    · rename_i hcf
      obtain ⟨t0, h1, h2⟩ := hs
      rename_i sn u ks _
      have hc : ∀ y ∈ ks, cnfK st sn y = false := by
        intro y hy
        cases hq : cnfK st sn y with
        | false => rfl
        | true => exact absurd (List.any_eq_true.2 ⟨y, hy, hq⟩) hcf
      obtain ⟨t, e, he⟩ := upd_may (now := now) h1 rfl ks st hc ⟨t0, h1, h2⟩
      show ((ks.foldl (updK sn now) st).keys s i).bind _ = _
      rw [e, Option.bind_some, if_neg he]
theorem LOk.learn_if {T : List Bs} {st : Ldg} (h : LOk T st) {t : Bs} (ht : ∀ r, readF t = .ok r → t ∈ T) (now : Int) : LOk T (learnS st t now).2 := by
  cases hr : readF t with
  | error n => unfold learnS; rw [hr]; exact h
  | ok r => exact h.learn (ht r hr) now
end Go.Proofs.YtocligpfmfmihabGreatDoor
namespace Go.Proofs.YtocligpfmfmihabGreatDoor
open Go Go.RowKit Go.Maps Go.Lib

def kNn : Bs := [110, 110]
def kFir : Bs := [102, 105, 114, 115, 116]
def kKk : Bs := [107, 107]
theorem nNn : Nm kNn := ⟨by decide, by decide, by decide⟩
theorem nKk : Nm kKk := ⟨by decide, by decide, by decide⟩
theorem lFir : ∀ c ∈ kFir, 97 ≤ c.toNat ∧ c.toNat ≤ 122 := by decide
/-- What is known behind the one document. -/
theorem grw_learn {D : Bs} {till : Int} (hr : readF D = .ok (kNn, till, [⟨kFir, kKk, false, till⟩])) (h0 : 0 ≤ till) :
    (learnS Ldg.zero D 0).1 = 0 ∧ mayS (learnS Ldg.zero D 0).2 kNn kFir 0 = some kKk := by
  have e : learnS Ldg.zero D 0 = (0, keptS (updK kNn 0 Ldg.zero ⟨kFir, kKk, false, till⟩) kNn D) := by
    simp [learnS, hr, takeS, confF, cnfK, Ldg.zero]
  rw [e]
  refine ⟨rfl, ?_⟩
  have hc : capF 0 = 1000 := rfl
  have hm : ¬ min till 1000 < 0 := by omega
  simp [mayS, keptS, updK, Ldg.zero, tillF, hc, hm]
set_option maxRecDepth 20000 in
set_option maxHeartbeats 8000000 in
theorem grows_c (W : World) (hN : NG3 W) (sv id : Bs) (hsv : sv.length ≤ 9223372036854775807) (hid : id.length ≤ 9223372036854775807) (at' now : Int) (h1 : -9223372036854775808 ≤ at' ∧ at' ≤ 9223372036854775807) (h2 : -9223372036854775808 ≤ now ∧ now ≤ 9223372036854775807) (ds : List Bs) (va : Option Addr) (vc : Nat) (hS : SrI W ds va) (hdl : ds.length ≤ 9000000000000) (T : List Bs) (hT : T.length ≤ 9000000000001) (hTd : ∀ t ∈ ds, ∀ r, readF t = .ok r → t ∈ T) (hTD : sdocF kNn kFir kKk (momS at') ∈ T) :
    Calls Tryz.prog 4 #[.string ⟨sv.toArray⟩, .string ⟨id.toArray⟩, .int .i64 at', .slice va ds.length vc, .int .i64 now] W fun e w' => e = .returned (.bool true) ∧ Kp (fun _ => False) W w' := by
  have HM := hide (fun X => (moment_c X at' h1.1 h1.2).mono fun _ _ h => (⟨h.1, h.2.symm⟩ : _ ∧ _))
  have m0 := (momS_ok at').1
  have m1 := (momS_ok at').2
  generalize momS at' = mo at *
  have HR := hide (doc_read nNn lFir (by decide) (by decide) nKk m0 (by omega))
  have HTD := hide (And.intro hTd hTD)
  have HS := hide hS
  have hcT : capT T ≤ 9900000000001100 := by unfold capT; omega
  clear hTd hTD hS h1
  go_enter Tryz.func4, Tryz.ntmps4
  go_wp2_with fail
  refine (new_c W [109, 101] [109, 105, 110, 101] [115, 101, 99, 114, 101, 116] 0 (.slice none 0 0) [] ⟨rfl, .inl ⟨rfl, rfl⟩⟩ (by simp)).mono ?_
  rintro e w1 ⟨F, nb, rfl, K1, hP, hF⟩
  have H1 := hide (And.intro K1 (And.intro hP hF))
  clear K1 hP hF
  go_wp2_with fail
  refine (HM.out _).mono ?_
  rintro e _ ⟨rfl, rfl⟩
  go_wp2_with fail
  refine (document_c W hN.n2.ng w1 (below_kp (Below.refl _ _) H1.out.1) kNn kFir kKk mo nNn lFir (by decide) (by decide) nKk m0 (by omega)).mono ?_
  rintro e w2 ⟨rfl, K2⟩
  have b2 := below_kp (below_kp (Below.refl _ W) H1.out.1) K2
  have HL := hide (grw_learn (D := sdocF kNn kFir kKk mo) HR.out m0)
  have HT := hide (LOk.learn (LOk.zero T) HTD.out.2 0)
  have HQ := hide (learn_c W hN w2 b2 F H1.out.2.2 nb _ _ _ [] Ldg.zero 0 (pn_kp H1.out.2.1 K2) (sdocF kNn kFir kKk mo) 0 (by omega) (by omega))
  have HB := hide (And.intro b2 H1.out.2.2)
  clear K2 b2 HR H1 HM
  go_wp2_with fail
  refine HQ.out.mono ?_
  rintro e w3 ⟨rfl, hq⟩
  rw [HL.out.1]
  generalize hst : (learnS Ldg.zero (sdocF kNn kFir kKk mo) 0).2 = st at hq HL HT
  clear hst HQ
  obtain ⟨F1, K3, hF1, Fk, kb, so, hP1⟩ := hq
  have H3 : Hid (Below W.heap.size W w3 ∧ (∀ k, F1 k → W.heap.size ≤ k) ∧ PN w3 F1 nb [109, 101] [109, 105, 110, 101] [115, 101, 99, 114, 101, 116] [] st (capT T)) :=
    hide ⟨below_fq HB.out.1 K3 HB.out.2, fun k h => (hF1 k h).elim (HB.out.2 k) (fun h => Nat.le_trans HB.out.1.size h), Fk, kb, so, hP1.tight HT.out⟩
  clear K3 hF1 hP1 HB
  go_wp2_with fail
  go_loopg [15] ds.length (fun gg q wx => ∃ (i : Nat) (st : Ldg) (F : Nat → Prop), gg = ds.length - i ∧ i ≤ ds.length ∧ q = .int .i64 (i : Int) ∧ Below W.heap.size W wx ∧ (∀ k, F k → W.heap.size ≤ k) ∧ PN wx F nb [109, 101] [109, 105, 110, 101] [115, 101, 99, 114, 101, 116] [] st (capT T) ∧ LOk T st ∧ mayS st kNn kFir 0 = some kKk)
  case atStart => exact ⟨0, st, F1, rfl, Nat.zero_le _, rfl, H3.out.1, H3.out.2.1, H3.out.2.2, HT.out, HL.out.2⟩
  case round =>
    obtain ⟨i, s1, F2, hg, hi, rfl, hb, hF, hP, hLk, hmy⟩ := hrel
    have H4 := hide (And.intro hg (And.intro hb (And.intro hF (And.intro hP (And.intro hLk hmy)))))
    clear hg hb hF hP hLk hmy
    by_cases hlt : i < ds.length
    · have hlt' : (i : Int) < (ds.length : Int) := by omega
      obtain ⟨g, o, rfl, hcl⟩ := HS.out i _ (List.getElem?_eq_getElem hlt)
      have HK := hide (key_c wr F2 nb _ _ _ [] s1 _ H4.out.2.2.2.1 sv id hsv hid at')
      go_wp2_with fail
      refine HK.out.mono ?_
      rintro e w4 ⟨rfl, K4⟩
      have c4 := K4.cel (Below.cl H4.out.2.1 hcl)
      have b4 := below_kp H4.out.2.1 K4
      have HQ := hide (learn_c W hN w4 b4 F2 H4.out.2.2.1 nb _ _ _ [] s1 _ (pn_kp H4.out.2.2.2.1 K4) ds[i] now h2.1 (by omega))
      have HB := hide (And.intro b4 H4.out.2.2.1)
      have HL5 := hide (H4.out.2.2.2.2.1.learn_if (HTD.out.1 ds[i] (List.getElem_mem hlt)) now)
      have HM5 := hide (learn_may ds[i] now H4.out.2.2.2.2.2)
      have HMM : Hid (∀ k, mayS s1 sv id at' = some k → mayS (learnS s1 ds[i] now).2 sv id at' = some k) := hide (fun k h => learn_may ds[i] now h)
      clear HK K4 b4
      go_wp2_with fail
      refine HQ.out.mono ?_
      rintro e w5 ⟨rfl, hq⟩
      generalize hst : (learnS s1 ds[i] now).2 = s2 at hq HL5 HM5 HMM
      clear hst HQ
      obtain ⟨F3, K5, hF3, Fk, kb, so, hP5⟩ := hq
      have H5 : Hid (Below W.heap.size W w5 ∧ (∀ k, F3 k → W.heap.size ≤ k) ∧ PN w5 F3 nb [109, 101] [109, 105, 110, 101] [115, 101, 99, 114, 101, 116] [] s2 (capT T)) :=
        hide ⟨below_fq HB.out.1 K5 HB.out.2, fun k h => (hF3 k h).elim (HB.out.2 k) (fun h => Nat.le_trans HB.out.1.size h), Fk, kb, so, hP5.tight HL5.out⟩
      have HK := hide (key_c w5 F3 nb _ _ _ [] s2 _ H5.out.2.2 sv id hsv hid at')
      clear K5 hF3 hP5 HB c4
      go_wp2_with fail
      refine HK.out.mono ?_
      rintro e w6 ⟨rfl, K6⟩
      have H6 := hide (And.intro (below_kp H5.out.1 K6) (pn_kp H5.out.2.2 K6))
      clear K6 HK
      cases hm : mayS s1 sv id at' with
      | none =>
        clear hm HMM
        go_wp2_with fail
        go_roundg (ds.length - (i + 1))
        case measure => rw [H4.out.1]; omega
        case rel => exact ⟨i + 1, s2, F3, rfl, by omega, int_i64 (by omega), H6.out.1, H5.out.2.1, H6.out.2, HL5.out, HM5.out⟩
      | some k =>
        rw [HMM.out k hm]
        clear hm HMM
        go_wp2_with fail
        go_roundg (ds.length - (i + 1))
        case measure => rw [H4.out.1]; omega
        case rel => exact ⟨i + 1, s2, F3, rfl, by omega, int_i64 (by omega), H6.out.1, H5.out.2.1, H6.out.2, HL5.out, HM5.out⟩
    · have hlt' : ¬ (i : Int) < (ds.length : Int) := by omega
      have HK := hide (key_c wr F2 nb _ _ _ [] s1 _ H4.out.2.2.2.1 kNn kFir (by decide) (by decide) 0)
      go_wp2_with fail
      refine HK.out.mono ?_
      rintro e w4 ⟨rfl, K4⟩
      rw [H4.out.2.2.2.2.2]
      have HF := hide (below_kp H4.out.2.1 K4)
      clear K4 HK
      go_wp2_with fail
      go_ret
      exact ⟨rfl, kp_below HF.out⟩
end Go.Proofs.YtocligpfmfmihabGreatDoor

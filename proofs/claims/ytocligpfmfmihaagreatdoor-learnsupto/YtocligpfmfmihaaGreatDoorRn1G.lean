import Derived.Test.YtocligpfmfmihaaGreatDoorRea8G
import Derived.Laws.OwnMore
import Derived.Test.YtocligpfmfmihaaGreatDoorProg
import Derived.Conc.MuData
import Derived.Conc.MuLone
import Derived.KernelRfl
import Derived.Test.YtocligpfmfmihaaGreatDoorMapsG
import Derived.Defers
namespace Go.Proofs.YtocligpfmfmihaaGreatDoor
open Go Go.RowKit Go.Maps
def knC (k : Kn) : List Value := [.string ⟨k.srv.toArray⟩, .string ⟨k.id.toArray⟩, .string ⟨k.key.toArray⟩, .int .i64 k.till]
def hdC (p : Bs × Bs) : List Value := [.string ⟨p.1.toArray⟩, .string ⟨p.2.toArray⟩]
def akC (p : Bs × Int) : List Value := [.string ⟨p.1.toArray⟩, .int .i64 p.2]
theorem flat_get {α : Type} (f : α → List Value) (k : Nat) (hf : ∀ x, (f x).length = k) (ks : List α) (i : Nat) (x : α) (h : ks[i]? = some x) (j : Nat) (hj : j < k) : (ks.flatMap f)[i * k + j]? = (f x)[j]? := by
 induction ks generalizing i with
 | nil => cases h
 | cons a l ih =>
  cases i with
  | zero =>
   simp at h
   subst h
   rw [List.flatMap_cons, List.getElem?_append_left (by rw [hf]; omega)]
   simp
  | succ i =>
   rw [List.flatMap_cons, List.getElem?_append_right (by rw [hf, Nat.succ_mul]; omega)]
   have : (i + 1) * k + j - (f a).length = i * k + j := by rw [hf, Nat.succ_mul]; omega
   rw [this]
   exact ih i (by simpa using h)
theorem row_cell {α : Type} {f : α → List Value} {k : Nat} (hf : ∀ x, (f x).length = k) {w : World} {B g n c : Nat} {T : TypeId} {ks : List α} (h : w.ownsRow B T k (.slice (some ⟨g, 0, none⟩) n c) n (ks.flatMap f)) (i : Nat) (x : α) (hx : ks[i]? = some x) (j : Nat) (hj : j < k) (u : Value) (hu : (f x)[j]? = some u) : w.cell? ⟨g, i * k + j, none⟩ = some u := by
 have hc := h.cells (g := g) rfl
 have := hc (i * k + j) u (by rw [flat_get f k hf ks i x hx j hj]; exact hu)
 rw [Addr.add_lit] at this
 simpa using this
theorem kn_cells {w : World} {B : Nat} {g n c : Nat} {ks : List Kn} (h : w.ownsRow B 255 4 (.slice (some ⟨g, 0, none⟩) n c) n (ks.flatMap knC)) (i : Nat) (k : Kn) (hk : ks[i]? = some k) :
  w.cell? ⟨g, i * 4, none⟩ = some (.string ⟨k.srv.toArray⟩) ∧ w.cell? ⟨g, i * 4 + 1, none⟩ = some (.string ⟨k.id.toArray⟩) ∧ w.cell? ⟨g, i * 4 + 2, none⟩ = some (.string ⟨k.key.toArray⟩) ∧ w.cell? ⟨g, i * 4 + 3, none⟩ = some (.int .i64 k.till) :=
 ⟨row_cell (f := knC) (fun _ => rfl) h i k hk 0 (by omega) _ rfl, row_cell (f := knC) (fun _ => rfl) h i k hk 1 (by omega) _ rfl, row_cell (f := knC) (fun _ => rfl) h i k hk 2 (by omega) _ rfl, row_cell (f := knC) (fun _ => rfl) h i k hk 3 (by omega) _ rfl⟩
theorem hd_cells {w : World} {B : Nat} {g n c : Nat} {ks : List (Bs × Bs)} (h : w.ownsRow B 257 2 (.slice (some ⟨g, 0, none⟩) n c) n (ks.flatMap hdC)) (i : Nat) (k : Bs × Bs) (hk : ks[i]? = some k) :
  w.cell? ⟨g, i * 2, none⟩ = some (.string ⟨k.1.toArray⟩) ∧ w.cell? ⟨g, i * 2 + 1, none⟩ = some (.string ⟨k.2.toArray⟩) :=
 ⟨row_cell (f := hdC) (fun _ => rfl) h i k hk 0 (by omega) _ rfl, row_cell (f := hdC) (fun _ => rfl) h i k hk 1 (by omega) _ rfl⟩
theorem own_sl {w : World} {B : Nat} {e : TypeId} {m : Nat} {v : Value} {n : Nat} {xs : List Value} (h : w.ownsRow B e m v n xs) : ∃ a c, v = .slice a n c ∧ n ≤ 9223372036854775807 ∧ (0 < n → ∃ g, a = some ⟨g, 0, none⟩ ∧ g < w.heap.size) := by
 have h2 := h
 obtain ⟨_, ⟨rfl, rfl⟩ | ⟨g, cap, cur, rfl, _, _, h3, h4, _⟩⟩ := h
 ·exact ⟨_, _, rfl, by omega, fun h => absurd h (by omega)⟩
 ·exact ⟨_, _, rfl, by unfold maxLen at h4; omega, fun _ => ⟨g, rfl, (h2.lt g rfl).2⟩⟩
def rnCells (nm id ky : Bs) (so l d a : Value) : Obj := .cells #[.string ⟨nm.toArray⟩, .string ⟨id.toArray⟩, .string ⟨ky.toArray⟩, so, l, d, a] 157
theorem rn_facts {w : World} {b : Nat} {nm id ky : Bs} {so l d a : Value} (h : w.heap[b]? = some (rnCells nm id ky so l d a)) :
  w.cell? ⟨b, 0, none⟩ = some (.string ⟨nm.toArray⟩) ∧ w.cell? ⟨b, 1, none⟩ = some (.string ⟨id.toArray⟩) ∧ w.cell? ⟨b, 2, none⟩ = some (.string ⟨ky.toArray⟩) ∧ w.cell? ⟨b, 3, none⟩ = some so ∧ w.cell? ⟨b, 4, none⟩ = some l ∧ w.cell? ⟨b, 5, none⟩ = some d ∧ w.cell? ⟨b, 6, none⟩ = some a := by
 unfold rnCells at h
 refine ⟨?_, ?_, ?_, ?_, ?_, ?_, ?_⟩ <;> simp [World.cell?, h]
theorem rn_frozen {w : World} {b : Nat} {nm id ky : Bs} {so l d a : Value} (h : w.heap[b]? = some (rnCells nm id ky so l d a)) :
  w.frozen? ⟨b, 4, none⟩ = false ∧ w.frozen? ⟨b, 5, none⟩ = false ∧ w.frozen? ⟨b, 6, none⟩ = false ∧ b < w.heap.size := by
 have hl := lt_heap h
 unfold rnCells at h
 refine ⟨?_, ?_, ?_, hl⟩ <;> simp [World.frozen?, h]
def ixI (o : Option Nat) : Int := match o with | some k => (k : Int) | none => -1
set_option maxRecDepth 20000 in
set_option maxHeartbeats 4000000 in
theorem rfind_c (w : World) (b : Nat) (nm id ky : Bs) (so l d a : Value) (L : List Kn) (B : Nat) (hb : w.heap[b]? = some (rnCells nm id ky so l d a)) (row : w.ownsRow B 255 4 l L.length (L.flatMap knC)) (s i : Bs) :
  Calls Tryz.prog 140 #[.pointer (some ⟨b, 0, none⟩), .string ⟨s.toArray⟩, .string ⟨i.toArray⟩] w fun e w' => e = .returned (.int .i64 (ixI (ixOf (isK s i) L))) ∧ w' = w := by
 obtain ⟨f0, f1, f2, f3, f4, f5, f6⟩ := rn_facts hb
 obtain ⟨la, lc, rfl, hmax, hla⟩ := own_sl row
 have HR := hide (And.intro hla row)
 clear hla row f0 f1 f2 f3 f5 f6
 go_enter Tryz.func140, Tryz.ntmps140
 go_wp2_with fail
 go_loopg [7] L.length (fun gg a wr => ∃ (n : Nat), gg = L.length - n ∧ n ≤ L.length ∧ a = .int .i64 (n : Int) ∧ wr = w ∧ ∀ (j : Nat) (q : Kn), j < n → L[j]? = some q → isK s i q = false)
 case atStart => exact ⟨0, rfl, by omega, rfl, rfl, fun _ _ h => absurd h (by omega)⟩
 case round =>
  obtain ⟨n, hgg, hin, rfl, rfl, hall⟩ := hrel
  have HG := hide (And.intro hgg hall)
  clear hgg hall
  by_cases hlt : n < L.length
  ·have hlt' : (n : Int) < (L.length : Int) := by omega
   obtain ⟨k, hk⟩ : ∃ k, L[n]? = some k := ⟨L[n], List.getElem?_eq_getElem hlt⟩
   obtain ⟨g, rfl, _⟩ := HR.out.1 (by omega)
   obtain ⟨c0, c1, c2, c3⟩ := kn_cells HR.out.2 n k hk
   have HK := hide hk
   clear hk c2 c3
   have next : isK s i k = false → ∀ (j : Nat) (q : Kn), j < n + 1 → L[j]? = some q → isK s i q = false := by
    intro hne j q hj hq
    rcases Nat.lt_or_ge j n with h | h
    ·exact HG.out.2 j q h hq
    ·have : j = n := by omega
     subst this
     rw [HK.out] at hq
     injection hq with hq
     subst hq
     exact hne
   have HN := hide next
   clear next
   by_cases h1 : k.srv = s
   ·have h1' : (k.srv == s) = true := by simpa using h1
    by_cases h2 : k.id = i
    ·have h2' : (k.id == i) = true := by simpa using h2
     have HZ := hide (ix_hit HK.out (isK_iff.2 ⟨h1, h2⟩) HG.out.2)
     clear h1 h2
     go_wp2
     go_ret
     rw [HZ.out]
     exact ⟨rfl, rfl⟩
    ·have h2' : (k.id == i) = false := by simpa using h2
     have HZ := hide (HN.out (by simp [isK, h2]))
     clear h1 h2
     go_wp2
     go_roundg (L.length - (n + 1))
     case measure => rw [HG.out.1]; omega
     case rel => exact ⟨n + 1, rfl, by omega, int_i64 (by omega), rfl, HZ.out⟩
   ·have h1' : (k.srv == s) = false := by simpa using h1
    have HZ := hide (HN.out (by simp [isK, h1]))
    clear h1
    go_wp2
    go_roundg (L.length - (n + 1))
    case measure => rw [HG.out.1]; omega
    case rel => exact ⟨n + 1, rfl, by omega, int_i64 (by omega), rfl, HZ.out⟩
  ·have hlt' : ¬ (n : Int) < (L.length : Int) := by omega
   have HZ : Hid (ixOf (isK s i) L = none) := by
    refine ix_miss ?_
    intro j q hq
    refine HG.out.2 j q ?_ hq
    rcases Nat.lt_or_ge j L.length with h' | h'
    ·omega
    ·rw [List.getElem?_eq_none h'] at hq; cases hq
   go_wp2
   go_ret
   rw [HZ.out]
   exact ⟨rfl, rfl⟩
end Go.Proofs.YtocligpfmfmihaaGreatDoor
namespace Go.Proofs.YtocligpfmfmihaaGreatDoor
open Go Go.RowKit Go.Maps
structure RNs (w : World) (b : Nat) (nm id ky : Bs) (so l d a : Value) (L : List Kn) (D : List (Bs × Bs)) (A : List (Bs × Int)) : Prop where
 blk : w.heap[b]? = some (rnCells nm id ky so l d a)
 rl : w.ownsRow 0 255 4 l L.length (L.flatMap knC)
 rd : w.ownsRow 0 257 2 d D.length (D.flatMap hdC)
 ra : w.ownsRow 0 321 2 a A.length (A.flatMap akC)
def NdL (L : List Kn) : Prop := (L.map fun k => (k.srv, k.id)).Nodup
structure Abs (st : Ldg) (L : List Kn) (D : List (Bs × Bs)) (A : List (Bs × Int)) : Prop where
 keys : ∀ s i, st.keys s i = knAt L s i
 docs : ∀ s, st.docs s = asc D s
 asked : ∀ s, st.asked s = asc A s
 nl : NdL L
 nd : (D.map (·.1)).Nodup
 na : (A.map (·.1)).Nodup
def RNf (F : Nat → Prop) (b : Nat) (l d a : Value) : Prop := F b ∧ ∀ k, l.ownBlock = some k ∨ d.ownBlock = some k ∨ a.ownBlock = some k → F k
def RN (w : World) (F : Nat → Prop) (b : Nat) (nm id ky : Bs) (so : Value) (st : Ldg) (c : Nat) : Prop :=
 ∃ l d a L D A, RNs w b nm id ky so l d a L D A ∧ Abs st L D A ∧ L.length ≤ c ∧ D.length ≤ c ∧ A.length ≤ c ∧ RNf F b l d a
theorem RN.frame {w w' : World} {F : Nat → Prop} {b : Nat} {nm id ky : Bs} {so : Value} {st : Ldg} {c : Nat} (h : RN w F b nm id ky so st c) (hk : ∀ k, F k → w'.heap[k]? = w.heap[k]?) : RN w' F b nm id ky so st c := by
 obtain ⟨l, d, a, L, D, A, ⟨h1, h2, h3, h4⟩, h5, h6, h7, h8, h9, h10⟩ := h
 exact ⟨l, d, a, L, D, A, ⟨(hk b h9).trans h1, ownsRow_heap h2 (fun k e => hk k (h10 k (Or.inl e))), ownsRow_heap h3 (fun k e => hk k (h10 k (Or.inr (Or.inl e)))), ownsRow_heap h4 (fun k e => hk k (h10 k (Or.inr (Or.inr e))))⟩, h5, h6, h7, h8, h9, h10⟩
theorem row_blk {w : World} {B : Nat} {e : TypeId} {m : Nat} {v : Value} {n : Nat} {xs : List Value} (h : w.ownsRow B e m v n xs) {k : Nat} (hk : v.ownBlock = some k) : ∃ c, w.heap[k]? = some (.cells c e) := by
 rcases h.2 with ⟨rfl, _⟩ | ⟨g, cap, cur, rfl, hB, hh, _⟩
 ·cases hk
 ·injection hk with hk
  subst hk
  exact ⟨cur, hh⟩
theorem row_apart {w : World} {B B' : Nat} {e e' : TypeId} {m m' : Nat} {v v' : Value} {n n' : Nat} {xs xs' : List Value} (h : w.ownsRow B e m v n xs) (h' : w.ownsRow B' e' m' v' n' xs') (hne : e ≠ e') {k : Nat} (hk : v.ownBlock = some k) : v'.ownBlock ≠ some k := by
 intro hk'
 obtain ⟨c, hc⟩ := row_blk h hk
 obtain ⟨c', hc'⟩ := row_blk h' hk'
 rw [hc] at hc'
 injection hc' with hc'
 injection hc' with _ h2 _
 exact hne h2
theorem row_off {w : World} {B : Nat} {e T : TypeId} {m : Nat} {v : Value} {n b : Nat} {xs : List Value} {cs : Array Value} (h : w.ownsRow B e m v n xs) (hb : w.heap[b]? = some (.cells cs T)) (hne : e ≠ T) : v.ownBlock ≠ some b := by
 intro hk
 obtain ⟨c, hc⟩ := row_blk h hk
 rw [hb] at hc
 injection hc with hc
 injection hc with _ h2 _
 exact hne h2.symm
theorem rcapped_c (now : Int) (h0 : -9223372036854775808 ≤ now) (w : World) : Calls Tryz.prog 141 #[.int .i64 now] w fun e w' => e = .returned (.int .i64 (capF now)) ∧ w' = w := by
 unfold capF
 by_cases h : 9223372036854774807 < now
 ·have h' : decide (now > 9223372036854774807) = true := by simpa using h
  rw [if_pos h]
  clear h
  go_enter Tryz.func141, Tryz.ntmps141
  go_wp2
  go_ret
  exact ⟨rfl, rfl⟩
 ·have h' : decide (now > 9223372036854774807) = false := by simpa using h
  rw [if_neg h]
  go_enter Tryz.func141, Tryz.ntmps141
  go_wp2
  go_ret
  exact ⟨rfl, rfl⟩
set_option maxRecDepth 20000 in
theorem rmay_c (w : World) (F : Nat → Prop) (b : Nat) (nm id ky : Bs) (so : Value) (st : Ldg) (c : Nat) (hR : RN w F b nm id ky so st c) (s i : Bs) (at' : Int) :
  Calls Tryz.prog 85 #[.pointer (some ⟨b, 0, none⟩), .string ⟨s.toArray⟩, .string ⟨i.toArray⟩, .int .i64 at'] w fun e w' => e = .returned (.tuple #[.string ⟨((mayS st s i at').getD []).toArray⟩, .bool (mayS st s i at').isSome]) ∧ w' = w := by
 obtain ⟨l, d, a, L, D, A, hs, hA, _⟩ := hR
 have HF := hide (rfind_c w b nm id ky so l d a L 0 hs.blk hs.rl s i)
 obtain ⟨f0, f1, f2, f3, f4, f5, f6⟩ := rn_facts hs.blk
 obtain ⟨la, lc, rfl, hmax, hla⟩ := own_sl hs.rl
 have hst : mayS st s i at' = (knAt L s i).bind fun p => if p.2 < at' then none else some p.1 := by unfold mayS; rw [hA.keys]
 have HR := hide (And.intro hla hs.rl)
 clear hA hs hla f0 f1 f2 f3 f5 f6
 cases hix : ixOf (isK s i) L with
 | none =>
  rw [hix] at HF
  have hz : mayS st s i at' = none := by rw [hst]; unfold knAt; rw [ix_none hix]; rfl
  rw [hz]
  clear hz hst hix
  go_enter Tryz.func85, Tryz.ntmps85
  go_wp2_with fail
  refine HF.out.mono ?_
  rintro e w' ⟨rfl, rfl⟩
  unfold ixI
  go_wp2
  go_ret2
  exact ⟨rfl, rfl⟩
 | some n =>
  rw [hix] at HF
  obtain ⟨k, hk, hp, hf⟩ := ix_some hix
  have hz : mayS st s i at' = if k.till < at' then none else some k.key := by rw [hst]; unfold knAt; rw [hf]; rfl
  have hnl : n < L.length := by
   rcases Nat.lt_or_ge n L.length with h' | h'
   ·exact h'
   ·rw [List.getElem?_eq_none h'] at hk; cases hk
  obtain ⟨g, rfl, _⟩ := HR.out.1 (by omega)
  obtain ⟨c0, c1, c2, c3⟩ := kn_cells HR.out.2 n k hk
  clear hk hp hf hst hix c0 c1
  have hn1 : decide ((n : Int) < 0) = false := by simp
  have hn2 : (n : Int) < (L.length : Int) := by omega
  by_cases ht : k.till < at'
  ·have ht' : decide (at' > k.till) = true := by simpa using ht
   rw [hz, if_pos ht]
   clear hz ht
   go_enter Tryz.func85, Tryz.ntmps85
   go_wp2_with fail
   refine HF.out.mono ?_
   rintro e w' ⟨rfl, rfl⟩
   unfold ixI
   go_wp2
   go_ret2
   exact ⟨rfl, rfl⟩
  ·have ht' : decide (at' > k.till) = false := by simpa using ht
   rw [hz, if_neg ht]
   clear hz ht
   go_enter Tryz.func85, Tryz.ntmps85
   go_wp2_with fail
   refine HF.out.mono ?_
   rintro e w' ⟨rfl, rfl⟩
   unfold ixI
   go_wp2
   go_ret2
   exact ⟨rfl, rfl⟩
end Go.Proofs.YtocligpfmfmihaaGreatDoor
namespace Go.Proofs.YtocligpfmfmihaaGreatDoor
open Go Go.RowKit Go.Maps
theorem infoKn : (Tryz.prog.info? 255).map (fun i => (i.zero, i.size, i.bytes)) = some (some (.agg #[.string ⟨#[]⟩, .string ⟨#[]⟩, .string ⟨#[]⟩, .int .i64 0]), 4, 56) := by kernel_rfl
theorem infoHd : (Tryz.prog.info? 257).map (fun i => (i.zero, i.size, i.bytes)) = some (some (.agg #[.string ⟨#[]⟩, .string ⟨#[]⟩]), 2, 32) := by kernel_rfl
theorem kn_set (L : List Kn) (n : Nat) (kn : Kn) (h : L[n]? = some kn) (t : Int) : (L.flatMap knC).set (n * 4 + 3) (.int .i64 t) = (L.set n { kn with till := t }).flatMap knC := by
 induction L generalizing n with
 | nil => cases h
 | cons a l ih =>
  cases n with
  | zero =>
   have : a = kn := by simpa using h
   subst this
   rfl
  | succ n =>
   rw [List.set_cons_succ, List.flatMap_cons, List.flatMap_cons, ← ih n (by simpa using h), List.set_append_right _ _ (by simp [knC]; omega)]
   have : (n + 1) * 4 + 3 - (knC a).length = n * 4 + 3 := by simp [knC]; omega
   rw [this]
theorem hd_set (L : List (Bs × Bs)) (n : Nat) (p : Bs × Bs) (h : L[n]? = some p) (t : Bs) : (L.flatMap hdC).set (n * 2 + 1) (.string ⟨t.toArray⟩) = (L.set n (p.1, t)).flatMap hdC := by
 induction L generalizing n with
 | nil => cases h
 | cons a l ih =>
  cases n with
  | zero =>
   have : a = p := by simpa using h
   subst this
   rfl
  | succ n =>
   rw [List.set_cons_succ, List.flatMap_cons, List.flatMap_cons, ← ih n (by simpa using h), List.set_append_right _ _ (by simp [hdC]; omega)]
   have : (n + 1) * 2 + 1 - (hdC a).length = n * 2 + 1 := by simp [hdC]; omega
   rw [this]
theorem RNs.kp {w w' : World} {b : Nat} {nm id ky : Bs} {so l d a : Value} {L : List Kn} {D : List (Bs × Bs)} {A : List (Bs × Int)} (h : RNs w b nm id ky so l d a L D A) (hk : Kp (fun _ => False) w w') : RNs w' b nm id ky so l d a L D A :=
 ⟨hk.heap h.blk, ownsRow_kp h.rl hk (by simp), ownsRow_kp h.rd hk (by simp), ownsRow_kp h.ra hk (by simp)⟩
theorem RNs.till {w : World} {b g lc : Nat} {nm id ky : Bs} {so d a : Value} {L : List Kn} {D : List (Bs × Bs)} {A : List (Bs × Int)} (h : RNs w b nm id ky so (.slice (some ⟨g, 0, none⟩) L.length lc) d a L D A) (n : Nat) (kn : Kn) (hk : L[n]? = some kn) (t : Int) :
  RNs (w.setCell ⟨g, n * 4 + 3, none⟩ (.int .i64 t)) b nm id ky so (.slice (some ⟨g, 0, none⟩) (L.set n { kn with till := t }).length lc) d a (L.set n { kn with till := t }) D A := by
 have hs := (h.rl.stored (n * 4 + 3) (.int .i64 t)).1
 rw [kn_set L n kn hk t] at hs
 have e : (Value.slice (some ⟨g, 0, none⟩) L.length lc).ownBlock = some g := rfl
 refine ⟨?_, by rw [List.length_set]; exact hs, ownsRow_heap h.rd (fun k hk' => heap_set_other ?_), ownsRow_heap h.ra (fun k hk' => heap_set_other ?_)⟩
 ·rw [heap_set_other (by
   show b ≠ g
   rintro rfl
   exact row_off h.rl h.blk (by decide) e), List.length_set]
  exact h.blk
 ·show k ≠ g
  rintro rfl
  exact row_apart h.rl h.rd (by decide) e hk'
 ·show k ≠ g
  rintro rfl
  exact row_apart h.rl h.ra (by decide) e hk'
theorem RNs.more {w w9 : World} {b : Nat} {nm id ky : Bs} {so l d a v9 : Value} {L : List Kn} {D : List (Bs × Bs)} {A : List (Bs × Int)} {X : Obj} {kn : Kn} (h : RNs w b nm id ky so l d a L D A) (o9 : w9.ownsRow 0 255 4 v9 (L.length + 1) (L.flatMap knC ++ knC kn)) (g9 : (w.alloc X).drew.grownBy w9 l.ownBlock) (a9 : v9.ownBlock = l.ownBlock ∨ v9.ownBlock = some (w.heap.size + 1)) :
  w9.heap[b]? = some (rnCells nm id ky so l d a) ∧ RNs (w9.setCell ⟨b, 4, none⟩ v9) b nm id ky so v9 d a (L ++ [kn]) D A := by
 have hb : w9.heap[b]? = some (rnCells nm id ky so l d a) := by
  rw [g9.block b (by show b < (w.alloc X).heap.size; have := lt_heap h.blk; simp; omega) (fun e => row_off h.rl h.blk (by decide) e.symm)]
  exact (Below.heap_alloc w X b (lt_heap h.blk)).trans h.blk
 have hbv : v9.ownBlock ≠ some b := by
  rcases a9 with e | e
  ·rw [e]; exact row_off h.rl h.blk (by decide)
  ·rw [e]
   intro e2
   injection e2 with e2
   have := lt_heap h.blk
   omega
 have kept : ∀ {T : TypeId} {m n : Nat} {v : Value} {xs : List Value}, w.ownsRow 0 T m v n xs → 255 ≠ T → T ≠ 157 → (w9.setCell ⟨b, 4, none⟩ v9).ownsRow 0 T m v n xs := by
  intro T m n v xs hr hT hT2
  refine ownsRow_heap hr ?_
  intro k hk
  have h1 := (hr.lt k hk).2
  rw [heap_set_other (by
   show k ≠ b
   rintro rfl
   exact row_off hr h.blk hT2 hk), g9.block k (by show k < (w.alloc X).heap.size; simp; omega) (fun e => row_apart h.rl hr hT e.symm hk)]
  exact Below.heap_alloc w X k h1
 refine ⟨hb, ?_, ?_, kept h.rd (by decide) (by decide), kept h.ra (by decide) (by decide)⟩
 ·unfold rnCells at *
  simp [World.setCell, Array.getElem?_modify, hb]
 ·have e9 : (L ++ [kn]).flatMap knC = L.flatMap knC ++ knC kn := by simp
  rw [e9, List.length_append]
  refine ownsRow_heap o9 (fun k hk => heap_set_other ?_)
  show k ≠ b
  rintro rfl
  exact hbv hk
end Go.Proofs.YtocligpfmfmihaaGreatDoor
namespace Go.Proofs.YtocligpfmfmihaaGreatDoor
open Go Go.RowKit Go.Maps
theorem keys_app {st2 : Ldg} {L2 : List Kn} {sn : Bs} {now : Int} {k : Ky} (hke : ∀ s i, st2.keys s i = knAt L2 s i) (hix : ixOf (isK sn k.id) L2 = none) (s' i' : Bs) : (updK sn now st2 k).keys s' i' = knAt (L2 ++ [⟨sn, k.id, k.key, tillF now k⟩]) s' i' := by
 rw [knAt_app hix]
 unfold updK
 have h0 : st2.keys sn k.id = none := by rw [hke]; unfold knAt; rw [ix_none hix]; rfl
 simp only [h0, hke]
theorem keys_found {st2 : Ldg} {L2 : List Kn} {sn : Bs} {k : Ky} {n : Nat} {kn : Kn} (hke : ∀ s i, st2.keys s i = knAt L2 s i) (hix : ixOf (isK sn k.id) L2 = some n) (hkn : L2[n]? = some kn) : st2.keys sn k.id = some (kn.key, kn.till) := by
 obtain ⟨x, h1, h2, h3⟩ := ix_some hix
 rw [hkn] at h1
 injection h1 with h1
 subst h1
 rw [hke]
 unfold knAt
 rw [h3]
 rfl
theorem keys_same {st st2 : Ldg} {L2 : List Kn} {sn : Bs} {k : Ky} {n : Nat} {kn : Kn} (hke : ∀ s i, st2.keys s i = knAt L2 s i) (hix : ixOf (isK sn k.id) L2 = some n) (hkn : L2[n]? = some kn) (h1 : st2.keys sn k.id = st.keys sn k.id) (h2 : cnfK st sn k = false) : kn.key = k.key := by
 rw [keys_found hke hix hkn] at h1
 unfold cnfK at h2
 rw [← h1] at h2
 simpa using h2
theorem keys_set {st2 : Ldg} {L2 : List Kn} {sn : Bs} {now : Int} {k : Ky} {n : Nat} {kn : Kn} (hke : ∀ s i, st2.keys s i = knAt L2 s i) (hix : ixOf (isK sn k.id) L2 = some n) (hkn : L2[n]? = some kn) (hk : kn.key = k.key) (hT : kn.till < tillF now k) (s' i' : Bs) : (updK sn now st2 k).keys s' i' = knAt (L2.set n { kn with till := tillF now k }) s' i' := by
 rw [knAt_set hix hkn]
 unfold updK
 simp only [keys_found hke hix hkn, hke, hk]
 rw [Int.max_eq_left (by omega)]
theorem keys_keep {st2 : Ldg} {L2 : List Kn} {sn : Bs} {now : Int} {k : Ky} {n : Nat} {kn : Kn} (hke : ∀ s i, st2.keys s i = knAt L2 s i) (hix : ixOf (isK sn k.id) L2 = some n) (hkn : L2[n]? = some kn) (hk : kn.key = k.key) (hT : ¬ kn.till < tillF now k) (s' i' : Bs) : (updK sn now st2 k).keys s' i' = knAt L2 s' i' := by
 unfold updK
 simp only [keys_found hke hix hkn, ← hke]
 rw [Int.max_eq_right (by omega)]
 split
 ·rename_i h
  obtain ⟨rfl, rfl⟩ := h
  rw [keys_found hke hix hkn, hk]
 ·rfl
theorem RNs.doc {w : World} {b g lc : Nat} {nm id ky : Bs} {so l a : Value} {L : List Kn} {D : List (Bs × Bs)} {A : List (Bs × Int)} (h : RNs w b nm id ky so l (.slice (some ⟨g, 0, none⟩) D.length lc) a L D A) (n : Nat) (p : Bs × Bs) (hk : D[n]? = some p) (t : Bs) :
  RNs (w.setCell ⟨g, n * 2 + 1, none⟩ (.string ⟨t.toArray⟩)) b nm id ky so l (.slice (some ⟨g, 0, none⟩) (D.set n (p.1, t)).length lc) a L (D.set n (p.1, t)) A := by
 have hs := (h.rd.stored (n * 2 + 1) (.string ⟨t.toArray⟩)).1
 rw [hd_set D n p hk t] at hs
 have e : (Value.slice (some ⟨g, 0, none⟩) D.length lc).ownBlock = some g := rfl
 refine ⟨?_, ownsRow_heap h.rl (fun k hk' => heap_set_other ?_), by rw [List.length_set]; exact hs, ownsRow_heap h.ra (fun k hk' => heap_set_other ?_)⟩
 ·rw [heap_set_other (by
   show b ≠ g
   rintro rfl
   exact row_off h.rd h.blk (by decide) e), List.length_set]
  exact h.blk
 ·show k ≠ g
  rintro rfl
  exact row_apart h.rd h.rl (by decide) e hk'
 ·show k ≠ g
  rintro rfl
  exact row_apart h.rd h.ra (by decide) e hk'
theorem RNs.moreD {w w9 : World} {b : Nat} {nm id ky : Bs} {so l d a v9 : Value} {L : List Kn} {D : List (Bs × Bs)} {A : List (Bs × Int)} {X : Obj} {p : Bs × Bs} (h : RNs w b nm id ky so l d a L D A) (o9 : w9.ownsRow 0 257 2 v9 (D.length + 1) (D.flatMap hdC ++ hdC p)) (g9 : (w.alloc X).drew.grownBy w9 d.ownBlock) (a9 : v9.ownBlock = d.ownBlock ∨ v9.ownBlock = some (w.heap.size + 1)) :
  w9.heap[b]? = some (rnCells nm id ky so l d a) ∧ RNs (w9.setCell ⟨b, 5, none⟩ v9) b nm id ky so l v9 a L (D ++ [p]) A := by
 have hb : w9.heap[b]? = some (rnCells nm id ky so l d a) := by
  rw [g9.block b (by show b < (w.alloc X).heap.size; have := lt_heap h.blk; simp; omega) (fun e => row_off h.rd h.blk (by decide) e.symm)]
  exact (Below.heap_alloc w X b (lt_heap h.blk)).trans h.blk
 have hbv : v9.ownBlock ≠ some b := by
  rcases a9 with e | e
  ·rw [e]; exact row_off h.rd h.blk (by decide)
  ·rw [e]
   intro e2
   injection e2 with e2
   have := lt_heap h.blk
   omega
 have kept : ∀ {T : TypeId} {m n : Nat} {v : Value} {xs : List Value}, w.ownsRow 0 T m v n xs → 257 ≠ T → T ≠ 157 → (w9.setCell ⟨b, 5, none⟩ v9).ownsRow 0 T m v n xs := by
  intro T m n v xs hr hT hT2
  refine ownsRow_heap hr ?_
  intro k hk
  have h1 := (hr.lt k hk).2
  rw [heap_set_other (by
   show k ≠ b
   rintro rfl
   exact row_off hr h.blk hT2 hk), g9.block k (by show k < (w.alloc X).heap.size; simp; omega) (fun e => row_apart h.rd hr hT e.symm hk)]
  exact Below.heap_alloc w X k h1
 refine ⟨hb, ?_, kept h.rl (by decide) (by decide), ?_, kept h.ra (by decide) (by decide)⟩
 ·unfold rnCells at *
  simp [World.setCell, Array.getElem?_modify, hb]
 ·have e9 : (D ++ [p]).flatMap hdC = D.flatMap hdC ++ hdC p := by simp
  rw [e9, List.length_append]
  refine ownsRow_heap o9 (fun k hk => heap_set_other ?_)
  show k ≠ b
  rintro rfl
  exact hbv hk
theorem ixs_none {α : Type} {D : List (Bs × α)} {sn : Bs} (h : ∀ (j : Nat) (p : Bs × α), j < D.length → D[j]? = some p → p.1 ≠ sn) : ixOf (isS sn) D = none := by
 unfold ixOf
 rw [List.findIdx?_eq_none_iff]
 intro x hx
 obtain ⟨j, hj, he⟩ := List.mem_iff_getElem.1 hx
 have := h j x hj (by rw [List.getElem?_eq_getElem hj, he])
 simpa [isS] using this
theorem ixs_some {α : Type} {D : List (Bs × α)} {sn : Bs} {n : Nat} {p : Bs × α} (hp : D[n]? = some p) (he : p.1 = sn) (h : ∀ (j : Nat) (q : Bs × α), j < n → D[j]? = some q → q.1 ≠ sn) : ixOf (isS sn) D = some n :=
 ix_hit hp (by simpa [isS] using he) (fun j q hj hq => by simpa [isS] using h j q hj hq)
theorem ndl_app {L : List Kn} {s i key : Bs} {t : Int} (h : NdL L) (hix : ixOf (isK s i) L = none) : NdL (L ++ [⟨s, i, key, t⟩]) := by
 unfold NdL at *
 rw [List.map_append, List.nodup_append]
 refine ⟨h, by simp, ?_⟩
 intro x hx y hy e
 simp only [List.map_cons, List.map_nil, List.mem_singleton] at hy
 subst hy
 subst e
 obtain ⟨k, hk, he⟩ := List.mem_map.1 hx
 have := List.find?_eq_none.1 (ix_none hix) k hk
 simp only [Prod.mk.injEq] at he
 exact this (isK_iff.2 he)
theorem ndl_set {L : List Kn} {n : Nat} {kn : Kn} {t : Int} (h : NdL L) (hk : L[n]? = some kn) : NdL (L.set n { kn with till := t }) := by
 unfold NdL at *
 rw [List.map_set]
 have e : (L.map fun k => (k.srv, k.id)).set n (kn.srv, kn.id) = L.map fun k => (k.srv, k.id) := by
  apply List.ext_getElem?
  intro j
  rw [List.getElem?_set]
  split
  ·rename_i hj
   subst hj
   have hlt := (List.getElem?_eq_some_iff.1 hk).1
   simp [hlt, (List.getElem?_eq_some_iff.1 hk).2]
  ·rfl
 rw [e]
 exact h
theorem nd_app {α : Type} {D : List (Bs × α)} {s : Bs} {x : α} (h : (D.map (·.1)).Nodup) (hix : ixOf (isS s) D = none) : ((D ++ [(s, x)]).map (·.1)).Nodup := by
 rw [List.map_append, List.nodup_append]
 refine ⟨h, by simp, ?_⟩
 intro a ha y hy e
 simp only [List.map_cons, List.map_nil, List.mem_singleton] at hy
 subst hy
 subst e
 obtain ⟨k, hk, he⟩ := List.mem_map.1 ha
 have := List.find?_eq_none.1 (ix_none hix) k hk
 exact this (by simpa [isS] using he)
theorem nd_set {α : Type} {D : List (Bs × α)} {n : Nat} {p : Bs × α} {x : α} (h : (D.map (·.1)).Nodup) (hk : D[n]? = some p) : ((D.set n (p.1, x)).map (·.1)).Nodup := by
 rw [List.map_set]
 have e : (D.map (·.1)).set n p.1 = D.map (·.1) := by
  apply List.ext_getElem?
  intro j
  rw [List.getElem?_set]
  split
  ·rename_i hj
   subst hj
   have hlt := (List.getElem?_eq_some_iff.1 hk).1
   simp [hlt, (List.getElem?_eq_some_iff.1 hk).2]
  ·rfl
 rw [e]
 exact h
theorem abs_set {st : Ldg} {L L2 : List Kn} {D : List (Bs × Bs)} {A : List (Bs × Int)} {ks : List Ky} {sn text : Bs} {now : Int} {n : Nat} {p : Bs × Bs} (hA : Abs st L D A) (hke : (∀ s i, (ks.foldl (updK sn now) st).keys s i = knAt L2 s i) ∧ NdL L2) (hix : ixOf (isS sn) D = some n) (hk : D[n]? = some p) : Abs (keptS (ks.foldl (updK sn now) st) sn text) L2 (D.set n (p.1, text)) A := by
 refine ⟨hke.1, ?_, ?_, hke.2, nd_set hA.nd hk, hA.na⟩
 ·intro s
  rw [asc_set hix hk]
  show (if s = sn then some text else (ks.foldl (updK sn now) st).docs s) = _
  rw [fold_docs, hA.docs]
 ·intro s
  show (ks.foldl (updK sn now) st).asked s = _
  rw [fold_asked, hA.asked]
theorem abs_app {st : Ldg} {L L2 : List Kn} {D : List (Bs × Bs)} {A : List (Bs × Int)} {ks : List Ky} {sn text : Bs} {now : Int} (hA : Abs st L D A) (hke : (∀ s i, (ks.foldl (updK sn now) st).keys s i = knAt L2 s i) ∧ NdL L2) (hix : ixOf (isS sn) D = none) : Abs (keptS (ks.foldl (updK sn now) st) sn text) L2 (D ++ [(sn, text)]) A := by
 refine ⟨hke.1, ?_, ?_, hke.2, nd_app hA.nd hix, hA.na⟩
 ·intro s
  rw [asc_app hix]
  show (if s = sn then some text else (ks.foldl (updK sn now) st).docs s) = _
  rw [fold_docs, hA.docs]
 ·intro s
  show (ks.foldl (updK sn now) st).asked s = _
  rw [fold_asked, hA.asked]
end Go.Proofs.YtocligpfmfmihaaGreatDoor
namespace Go.Proofs
abbrev Tryz.muLink : Go.Conc.Locks.MuLink := { lock := 96, unlock := 97, ilock := 153, iunlock := 154, lockSlow := 197, unlockSlow := 200, disable := 193, enable := 195, acquire := 196, relMerge := 198, cas32 := 194, add32 := 199, tMutex := 175, tIMutex := 173, tPMutex := 278, tPIMutex := 332, tPI32 := 334, tUP := 211, tNoCopy := 171, tU32 := 152 }
theorem Tryz.muLib : Go.Conc.Locks.MuLib Tryz.prog Tryz.muLink :=
 ⟨Tryz.func96, Tryz.func97, Tryz.func153, Tryz.func154, Tryz.func193, Tryz.func195, Tryz.func196, Tryz.func198, Tryz.func194, Tryz.func199, Tryz.underlying173, Tryz.runUnderlying173, Tryz.sizeOf173, Tryz.isAgg173, Tryz.zeroValue173, Tryz.underlying175, Tryz.runUnderlying175, Tryz.sizeOf175, Tryz.isAgg175, Tryz.zeroValue175, Tryz.underlying278, Tryz.runUnderlying278, Tryz.sizeOf278, Tryz.isAgg278, Tryz.zeroValue278, Tryz.underlying332, Tryz.runUnderlying332, Tryz.sizeOf332, Tryz.isAgg332, Tryz.zeroValue332, Tryz.underlying334, Tryz.runUnderlying334, Tryz.sizeOf334, Tryz.isAgg334, Tryz.zeroValue334, Tryz.underlying211, Tryz.runUnderlying211, Tryz.sizeOf211, Tryz.isAgg211, Tryz.zeroValue211, Tryz.underlying171, Tryz.runUnderlying171, Tryz.sizeOf171, Tryz.isAgg171, Tryz.zeroValue171, Tryz.underlying21, Tryz.runUnderlying21, Tryz.sizeOf21, Tryz.isAgg21, Tryz.zeroValue21, (by kernel_rfl)⟩
end Go.Proofs
namespace Go.Proofs.YtocligpfmfmihaaGreatDoor
open Go Go.RowKit Go.Maps Go.WideMaps Go.MuLone
theorem mlook {t e : TypeId} {z : Value} (ht : Tryz.prog.underlying t = some (.map 9 e)) (hz : ∀ w, (zeroValue e).run Tryz.prog w = .ok z w) (w : World) (m : List (Bs × Value)) (b n : Nat) (k : Bs) (hk : k.length ≤ 139000000000000) (h : w.ownsMap Tryz.prog 9 Rv b n (dm m)) :
  (Instr.lookup t (.map (some b)) (.string ⟨k.toArray⟩) true).run Tryz.prog w = .ok (.tuple #[(lookK k m).getD z, .bool (lookK k m).isSome]) w := by
 obtain ⟨lv, lps, hlk, hlr⟩ := h.look_ok keyed ht (hz w) (R := Rv) (zd := .held z) (zp := []) rfl (key_mk2 hk)
 rw [dm_has] at hlk
 rw [dm_at] at hlr
 rw [hlk]
 cases hl : lookK k m with
 | none =>
  rw [hl] at hlr
  simp only [Rv, Option.some.injEq, Prod.mk.injEq, DataW.held.injEq] at hlr
  rw [hlr.1]
  rfl
 | some v =>
  rw [hl] at hlr
  simp only [Rv, Option.some.injEq, Prod.mk.injEq, DataW.held.injEq] at hlr
  rw [hlr.1]
  rfl
theorem zSrv (w : World) : (zeroValue 178).run Tryz.prog w = .ok (.pointer none) w := by kernel_rfl
theorem zKey (w : World) : (zeroValue 199).run Tryz.prog w = .ok (.agg #[.string ⟨#[]⟩, .int .i64 0]) w := by kernel_rfl
def knObj (mb ib : Nat) : Obj := .cells #[.int .i32 0, .int .u32 0, .map (some mb), .map (some ib)] 177
theorem kn_facts {w : World} {b mb ib : Nat} (h : w.heap[b]? = some (knObj mb ib)) : w.cell? ⟨b, 0, none⟩ = some (.int .i32 0) ∧ w.cell? ⟨b, 2, none⟩ = some (.map (some mb)) ∧ w.cell? ⟨b, 3, none⟩ = some (.map (some ib)) ∧ w.frozen? ⟨b, 0, none⟩ = false := by
 unfold knObj at h
 refine ⟨?_, ?_, ?_, ?_⟩ <;> simp [World.cell?, World.frozen?, h]
def held (b : Nat) (w : World) : World := w.setCell ⟨b, 0, none⟩ (.int .i32 1)
theorem held_facts {w : World} {b mb ib : Nat} (h : w.heap[b]? = some (knObj mb ib)) : (held b w).cell? ⟨b, 0, none⟩ = some (.int .i32 1) ∧ (held b w).cell? ⟨b, 2, none⟩ = some (.map (some mb)) ∧ (held b w).cell? ⟨b, 3, none⟩ = some (.map (some ib)) ∧ (held b w).frozen? ⟨b, 0, none⟩ = false := by
 have hb : (held b w).heap[b]? = some (.cells #[.int .i32 1, .int .u32 0, .map (some mb), .map (some ib)] 177) := by
  unfold held knObj at *
  simp [World.setCell, Array.getElem?_modify, h]
 refine ⟨?_, ?_, ?_, ?_⟩ <;> simp [World.cell?, World.frozen?, hb]
theorem held_back {w : World} {b mb ib : Nat} (h : w.heap[b]? = some (knObj mb ib)) : (held b w).setCell ⟨b, 0, none⟩ (.int .i32 0) = w := by
 have hl := lt_heap h
 unfold held World.setCell
 cases w with
 | mk heap os tape output =>
  simp only [World.mk.injEq, and_true]
  apply Array.ext_getElem?
  intro j
  unfold knObj at h
  simp only [Array.getElem?_modify]
  by_cases hj : b = j
  ·subst hj
   simp only [if_true, Option.map_map]
   simp at h
   simp [h]
  ·simp [hj]
theorem held_heap {w : World} {b k : Nat} (h : k ≠ b) : (held b w).heap[k]? = w.heap[k]? := by
 unfold held
 exact heap_set_other (by exact h)
theorem held_obj {w : World} {b mb ib : Nat} (h : w.heap[b]? = some (knObj mb ib)) : (held b w).heap[b]? = some (.cells #[.int .i32 1, .int .u32 0, .map (some mb), .map (some ib)] 177) := by
 unfold held knObj at *
 simp [World.setCell, Array.getElem?_modify, h]
theorem lock_frame {w X : World} {b mb ib : Nat} (h : w.heap[b]? = some (knObj mb ib)) (K : Kp (fun _ => False) (held b w) X) :
  X.cell? ⟨b, 0, none⟩ = some (.int .i32 1) ∧ X.frozen? ⟨b, 0, none⟩ = false ∧ Kp (fun _ => False) w (X.setCell ⟨b, 0, none⟩ (.int .i32 0)) := by
 have hx := K.heap (held_obj h)
 have hl := lt_heap h
 have hs : (held b w).heap.size = w.heap.size := World.size_setCell _ _ _
 refine ⟨by simp [World.cell?, hx], by simp [World.frozen?, hx], K.os, K.tape, K.output, ?_, ?_⟩
 ·rw [World.size_setCell, ← hs]; exact K.size
 ·intro k hk _
  by_cases he : k = b
  ·subst he
   rw [h]
   simp [World.setCell, Array.getElem?_modify, hx, knObj]
  ·rw [heap_set_other (by exact he), K.block k (by omega) (by simp), held_heap he]
theorem mapT_ne {w : World} {b n : Nat} {m : List (Bs × Value)} (h : w.ownsMap Tryz.prog 9 Rv b n (dm m)) {k : Nat} {c : Array Value} {t : TypeId} (hk : w.heap[k]? = some (.cells c t)) : b ≠ k := by
 rintro rfl
 obtain ⟨es, cl, h1, _⟩ := h
 rw [hk] at h1
 cases h1
def srvObj (qb : Nat) (t : Bs) : Obj := .cells #[.map (some qb), .string ⟨t.toArray⟩] 182
def kkV (p : Bs × Int) : Value := .agg #[.string ⟨p.1.toArray⟩, .int .i64 p.2]
set_option maxRecDepth 20000 in
set_option maxHeartbeats 4000000 in
theorem keyAt_no (w : World) (kb mb ib n : Nat) (sm : List (Bs × Value)) (hk : w.heap[kb]? = some (knObj mb ib)) (hm : w.ownsMap Tryz.prog 9 Rv mb n (dm sm)) (s i : Bs) (hs : s.length ≤ 2000000) (at' : Int) (hl : lookK s sm = none) :
  Calls Tryz.prog 64 #[.pointer (some ⟨kb, 0, none⟩), .string ⟨s.toArray⟩, .string ⟨i.toArray⟩, .int .i64 at'] w fun e w' => e = .returned (.tuple #[.string ⟨#[]⟩, .bool false]) ∧ w' = w := by
 obtain ⟨c0, c2, c3, f0⟩ := kn_facts hk
 obtain ⟨d0, d2, d3, g0⟩ := held_facts hk
 have hlk := mlook Tryz.underlying168 zSrv (held kb w) sm mb n s (by omega) (ownsMap_heap hm (held_heap (mapT_ne hm hk)))
 rw [hl] at hlk
 replace hlk : (Instr.lookup 168 (.map (some mb)) (.string ⟨s.toArray⟩) true).run Tryz.prog (held kb w) = .ok (.tuple #[.pointer none, .bool false]) (held kb w) := hlk
 have HB := hide (held_back hk)
 unfold held at *
 go_enter_defers Tryz.func64, Tryz.ntmps64
 go_wp2_with (go_at_call 96; refine (lock_free Tryz.muLib ⟨kb, 0, none⟩ _ c0 f0).mono ?_; rintro e w' ⟨rfl, rfl⟩)
 refine leaves_cons (f := 97) (args := #[.pointer (some ⟨kb, 0, none⟩)]) (by simp) (by simp [go_sem]) ?_
 refine (unlock_deferred Tryz.muLib ⟨kb, 0, none⟩ .returning _ d0 g0).mono ?_
 rintro e u' w'' ⟨rfl, rfl, rfl⟩
 exact ⟨_, results_tmp2 rfl _ _ _, rfl, HB.out⟩
end Go.Proofs.YtocligpfmfmihaaGreatDoor

import Derived.Test.YtocligpfmfmihabGreatDoorPar
import Derived.Lib.AppendStr
import Derived.Lib.ConvBytes
import Derived.Lib.OthersKept
namespace Go.Proofs.YtocligpfmfmihabGreatDoor
open Go Go.RowKit

/-- The reference's reader. -/
structure Rs (W w : World) (rb : Nat) (s : ByteArray) (k : Nat) (bad : Bool) : Prop where
  gl : GL W
  old : Below W.heap.size W w
  rdr : w.heap[rb]? = some (.cells #[.string s, .int .i64 k, .bool bad] 0)
  ge : W.heap.size ≤ rb
  sz : s.size ≤ 600
  le : k ≤ s.size + 9
  good : bad = false → k ≤ s.size
variable {W w w' : World} {rb k : Nat} {s : ByteArray} {bad : Bool}
theorem Rs.facts (h : Rs W w rb s k bad) : w.cell? ⟨rb, 0, none⟩ = some (.string s) ∧ w.cell? ⟨rb, 1, none⟩ = some (.int .i64 k) ∧ w.cell? ⟨rb, 2, none⟩ = some (.bool bad) ∧
    w.frozen? ⟨rb, 1, none⟩ = false ∧ w.frozen? ⟨rb, 2, none⟩ = false ∧ rb < w.heap.size := by
  have hr := h.rdr
  refine ⟨?_, ?_, ?_, ?_, ?_, lt_heap hr⟩ <;> simp [World.cell?, World.frozen?, hr]
theorem Rs.drewN (h : Rs W w rb s k bad) (n : Nat) : Rs W (w.drewN n) rb s k bad := ⟨h.gl, below_drewN h.old n, h.rdr, h.ge, h.sz, h.le, h.good⟩
theorem Rs.at (h : Rs W w rb s k bad) (k' : Nat) (h1 : k' ≤ s.size + 9) (h2 : bad = false → k' ≤ s.size) : Rs W (w.setCell ⟨rb, 1, none⟩ (.int .i64 k')) rb s k' bad := by
  refine ⟨h.gl, h.old.setCell (p := ⟨rb, 1, none⟩) h.ge _, ?_, h.ge, h.sz, h1, h2⟩
  have := h.rdr
  simp [World.setCell, Array.getElem?_modify, this]
theorem Rs.turn (h : Rs W w rb s k bad) (b : Bool) (hb : b = false → k ≤ s.size) : Rs W (w.setCell ⟨rb, 2, none⟩ (.bool b)) rb s k b := by
  refine ⟨h.gl, h.old.setCell (p := ⟨rb, 2, none⟩) h.ge _, ?_, h.ge, h.sz, h.le, hb⟩
  have := h.rdr
  simp [World.setCell, Array.getElem?_modify, this]
theorem Rs.keep {S : Nat → Prop} (h : Rs W w rb s k bad) (hk : Kp S w w') (h1 : ∀ i, S i → W.heap.size ≤ i) (h2 : ¬ S rb) : Rs W w' rb s k bad :=
  ⟨h.gl, h.old.trans ⟨hk.os, hk.tape, hk.output, hk.size, fun i hi => hk.block i (Nat.lt_of_lt_of_le hi h.old.size) (fun hs => by have := h1 i hs; omega)⟩, (hk.block rb (lt_heap h.rdr) h2).trans h.rdr, h.ge, h.sz, h.le, h.good⟩

end Go.Proofs.YtocligpfmfmihabGreatDoor
namespace Go.Proofs.YtocligpfmfmihabGreatDoor
open Go Go.RowKit Go.Maps

def ptr (b : Nat) : Value := .pointer (some ⟨b, 0, none⟩)
/-- A block of the reference's Value. -/
def vCells (kind : Nat) (n : Int) (t : Bs) (K L : Value) : Obj := .cells #[.int .u8 (kind : Int), .int .i64 n, .string ⟨t.toArray⟩, K, L] 0

/-- The tree at block b stands for j; its blocks are among F. -/
inductive RR (w : World) (F : Nat → Prop) : J → Nat → Prop
  | null {b : Nat} (hF : F b) (h : w.heap[b]? = some (vCells 110 0 [] (.slice none 0 0) (.slice none 0 0))) : RR w F .null b
  | tt {b : Nat} (hF : F b) (h : w.heap[b]? = some (vCells 116 0 [] (.slice none 0 0) (.slice none 0 0))) : RR w F (.bool true) b
  | ff {b : Nat} (hF : F b) (h : w.heap[b]? = some (vCells 102 0 [] (.slice none 0 0) (.slice none 0 0))) : RR w F (.bool false) b
  | num {b : Nat} (n : Int) (hn : n.natAbs ≤ 9007199254740991) (hF : F b) (h : w.heap[b]? = some (vCells 35 n [] (.slice none 0 0) (.slice none 0 0))) : RR w F (.num n) b
  | str {b : Nat} (t : Bs) (hF : F b) (h : w.heap[b]? = some (vCells 34 0 t (.slice none 0 0) (.slice none 0 0))) : RR w F (.str t) b
  | arr {b : Nat} (x : List (J × Nat)) (L : Value) (hF : F b) (h : w.heap[b]? = some (vCells 91 0 [] (.slice none 0 0) L))
      (hL : w.ownsRow 0 0 1 L x.length (x.map fun p => ptr p.2)) (hG : ∀ k, L.ownBlock = some k → F k) (hx : ∀ j c, (j, c) ∈ x → RR w F j c) : RR w F (.arr (x.map (·.1))) b
  | obj {b : Nat} (x : List (Bs × J × Nat)) (K L : Value) (hF : F b) (h : w.heap[b]? = some (vCells 123 0 [] K L))
      (hK : w.ownsRow 0 9 1 K x.length (x.map fun p => .string ⟨p.1.toArray⟩)) (hL : w.ownsRow 0 0 1 L x.length (x.map fun p => ptr p.2.2))
      (hG : ∀ k, K.ownBlock = some k → F k) (hH : ∀ k, L.ownBlock = some k → F k) (hN : Nod (x.map fun p => (p.1, p.2.1))) (hx : ∀ a j c, (a, j, c) ∈ x → RR w F j c) : RR w F (.obj (ofL (x.map fun p => (p.1, p.2.1)))) b
theorem RR.frame {w w' : World} {F G : Nat → Prop} {j : J} {b : Nat} (h : RR w F j b) (hf : ∀ k, F k → w'.heap[k]? = w.heap[k]?) (hg : ∀ k, F k → G k) : RR w' G j b := by
  induction h with
  | null hF h => exact .null (hg _ hF) ((hf _ hF).trans h)
  | tt hF h => exact .tt (hg _ hF) ((hf _ hF).trans h)
  | ff hF h => exact .ff (hg _ hF) ((hf _ hF).trans h)
  | num n hn hF h => exact .num n hn (hg _ hF) ((hf _ hF).trans h)
  | str t hF h => exact .str t (hg _ hF) ((hf _ hF).trans h)
  | arr x L hF h hL hG hx ih => exact .arr x L (hg _ hF) ((hf _ hF).trans h) (ownsRow_heap hL fun k hk => hf k (hG k hk)) (fun k hk => hg k (hG k hk)) ih
  | obj x K L hF h hK hL hG hH hN hx ih =>
    exact .obj x K L (hg _ hF) ((hf _ hF).trans h) (ownsRow_heap hK fun k hk => hf k (hG k hk)) (ownsRow_heap hL fun k hk => hf k (hH k hk)) (fun k hk => hg k (hG k hk)) (fun k hk => hg k (hH k hk)) hN ih
end Go.Proofs.YtocligpfmfmihabGreatDoor
namespace Go.Proofs.YtocligpfmfmihabGreatDoor
open Go Go.RowKit Go.Maps
variable {W w w' : World} {rb k : Nat} {s : ByteArray} {bad : Bool}

theorem infoStr : (Tryz.prog.info? 9).map (fun i => (i.zero, i.size, i.bytes)) = some (some (.string ⟨#[]⟩), 1, 16) := by kernel_rfl

/-- The array that is being read, at block vb. -/
structure ArI (lo vb : Nat) (x : List (J × Nat)) (L : Value) (G : Nat → Prop) (w : World) : Prop where
  blk : w.heap[vb]? = some (vCells 91 0 [] (.slice none 0 0) L)
  row : w.ownsRow lo 0 1 L x.length (x.map fun p => ptr p.2)
  trs : ∀ j c, (j, c) ∈ x → RR w G j c
  old : ∀ k, G k → lo ≤ k ∧ k < w.heap.size ∧ k ≠ vb
  own : ∀ k, L.ownBlock = some k → ¬ G k ∧ k ≠ vb
theorem ArI.kp {lo vb : Nat} {x : List (J × Nat)} {L : Value} {G : Nat → Prop} (h : ArI lo vb x L G w) {S : Nat → Prop} (hk : Kp S w w') (hS : ∀ k, lo ≤ k → k < w.heap.size → ¬ S k) (hlo : lo ≤ vb) : ArI lo vb x L G w' :=
  ⟨(hk.block vb (lt_heap h.blk) (hS vb hlo (lt_heap h.blk))).trans h.blk, ownsRow_kp h.row hk (fun k e => by have := h.row.lt k e; exact hS k this.1 this.2),
    fun j c hm => (h.trs j c hm).frame (fun k hG => hk.block k (h.old k hG).2.1 (hS k (h.old k hG).1 (h.old k hG).2.1)) (fun _ h => h),
    fun k hG => ⟨(h.old k hG).1, Nat.lt_of_lt_of_le (h.old k hG).2.1 hk.size, (h.old k hG).2.2⟩, h.own⟩
/-- One more. -/
theorem ArI.more {lo vb b hs : Nat} {x : List (J × Nat)} {L L' : Value} {G : Nat → Prop} {w2 w3 : World} {j : J} (h : ArI lo vb x L G w2) (hlt : ∀ k, G k → k < hs) (hvb : vb < hs) (hlo : lo ≤ hs) (hLt : ∀ k, L.ownBlock = some k → k < hs)
    (ht : RR w2 (fun c => hs ≤ c ∧ c < w2.heap.size) j b) (B1 : Kp (fun k => L.ownBlock = some k) w2 w3) (h3 : w3.heap[vb]? = some (vCells 91 0 [] (.slice none 0 0) L))
    (y1 : w3.ownsRow lo 0 1 L' (x.length + 1) ((x.map fun p => ptr p.2) ++ [ptr b])) (y3 : L'.ownBlock = L.ownBlock ∨ ∃ q, w2.heap.size ≤ q ∧ L'.ownBlock = some q) (hs2 : hs ≤ w2.heap.size) :
    ArI lo vb (x ++ [(j, b)]) L' (fun k => G k ∨ (hs ≤ k ∧ k < w2.heap.size)) (w3.setCell ⟨vb, 4, none⟩ L') := by
  have hz : (w3.setCell ⟨vb, 4, none⟩ L').heap.size = w3.heap.size := by simp [World.setCell]
  have own' : ∀ k, L'.ownBlock = some k → ¬ (G k ∨ (hs ≤ k ∧ k < w2.heap.size)) ∧ k ≠ vb := by
    intro k hk
    rcases y3 with e | ⟨q, hq, e⟩
    · rw [e] at hk
      obtain ⟨q1, q2⟩ := h.own k hk
      have := hLt k hk
      exact ⟨by rintro (h | h); exact q1 h; omega, q2⟩
    · rw [e] at hk
      injection hk with hk
      refine ⟨?_, by omega⟩
      rintro (hg | hg)
      · have := hlt k hg; omega
      · omega
  refine ⟨?_, ?_, ?_, ?_, own'⟩
  · simp [World.setCell, Array.getElem?_modify, h3, vCells]
  · rw [List.length_append, List.map_append]
    exact ownsRow_heap y1 fun k hk => heap_set_other (own' k hk).2
  · intro i c hm
    rcases List.mem_append.1 hm with hm | hm
    · refine (h.trs i c hm).frame (fun k hG => ?_) (fun k hG => Or.inl hG)
      rw [heap_set_other (h.old k hG).2.2, B1.block k (h.old k hG).2.1 (fun e => (h.own k e).1 hG)]
    · obtain ⟨rfl, rfl⟩ : i = j ∧ c = b := by simpa using hm
      refine ht.frame (fun k hG => ?_) (fun k hG => Or.inr hG)
      rw [heap_set_other (by show k ≠ vb; omega), B1.block k hG.2 (fun e => by have := hLt k e; omega)]
  · rintro k (hG | hG)
    · have q := h.old k hG
      have := B1.size
      exact ⟨q.1, by omega, q.2.2⟩
    · have := B1.size
      exact ⟨by omega, by omega, by omega⟩
end Go.Proofs.YtocligpfmfmihabGreatDoor
namespace Go.Proofs.YtocligpfmfmihabGreatDoor
open Go Go.RowKit Go.Maps
variable {W w w' : World} {rb k : Nat} {s : ByteArray} {bad : Bool}

theorem ownsRow_zero {w : World} {B : Nat} {e : TypeId} {sz n : Nat} {v : Value} {xs : List Value} (h : w.ownsRow B e sz v n xs) : w.ownsRow 0 e sz v n xs := by
  obtain ⟨h1, h2⟩ := h
  refine ⟨h1, ?_⟩
  rcases h2 with h2 | ⟨g, cap, cur, rfl, hg, r⟩
  · exact Or.inl h2
  · exact Or.inr ⟨g, cap, cur, rfl, Nat.zero_le _, r⟩
theorem ArI.tree {lo vb : Nat} {x : List (J × Nat)} {L : Value} {G : Nat → Prop} (h : ArI lo vb x L G w) (hlo : lo ≤ vb) : RR w (fun c => lo ≤ c ∧ c < w.heap.size) (.arr (x.map (·.1))) vb :=
  .arr x L ⟨hlo, lt_heap h.blk⟩ h.blk (ownsRow_zero h.row) (fun k hk => h.row.lt k hk) (fun j c hm => (h.trs j c hm).frame (fun _ _ => rfl) (fun k hk => ⟨(h.old k hk).1, (h.old k hk).2.1⟩))
end Go.Proofs.YtocligpfmfmihabGreatDoor
namespace Go.Proofs.YtocligpfmfmihabGreatDoor
open Go Go.RowKit Go.Maps
variable {W w w' : World} {rb k : Nat} {s : ByteArray} {bad : Bool}

theorem own_slice {w : World} {B : Nat} {e : TypeId} {v : Value} {n : Nat} {xs : List Value} (h : w.ownsRow B e 1 v n xs) : ∃ a c, v = .slice a n c := by
  obtain ⟨_, ⟨rfl, rfl⟩ | ⟨g, cap, cur, rfl, _⟩⟩ := h
  · exact ⟨_, _, rfl⟩
  · exact ⟨_, _, rfl⟩
end Go.Proofs.YtocligpfmfmihabGreatDoor
namespace Go.Proofs.YtocligpfmfmihabGreatDoor
open Go Go.RowKit Go.Maps Go.WideMaps

/-- What the writing leaves: below B all is as it was; what is no row of bytes is as it was. -/
structure Wr (B : Nat) (w w' : World) : Prop where
  below : Below B w w'
  oth : Lib.OthersKept 5 none w w'
variable {B : Nat} {a w w' : World}
theorem Wr.refl (B : Nat) (w : World) : Wr B w w := ⟨Below.refl _ _, Lib.OthersKept.refl _ _ _⟩
theorem Wr.trans {b c : World} (h : Wr B a b) (k : Wr B b c) : Wr B a c := ⟨h.below.trans k.below, fun i o h1 h2 h3 => k.oth i o (h.oth i o h1 h2 h3) h2 h3⟩
theorem Wr.mono {C : Nat} (h : Wr B a w) (hC : C ≤ B) : Wr C a w := ⟨h.below.mono hC, h.oth⟩
theorem Wr.alloc (h : Wr B a w) (hB : B ≤ w.heap.size) (o : Obj) : Wr B a (w.alloc o) :=
  h.trans ⟨(Below.refl _ _).alloc hB o, fun i x h1 _ _ => by rw [Below.heap_alloc _ _ _ (lt_heap h1)]; exact h1⟩
theorem Wr.drewN (h : Wr B a w) (n : Nat) : Wr B a (w.drewN n) := ⟨below_drewN h.below n, h.oth⟩
theorem Wr.grown {v : Value} {n : Nat} {xs : List Value} (h : Wr B a w) (ho : w.ownsRow B 5 1 v n xs) (hg : w.grownBy w' v.ownBlock) (hB : B ≤ w.heap.size) : Wr B a w' := by
  refine h.trans ⟨(Below.refl _ _).grown hg hB (fun k hk => (ho.lt k hk).1), fun i o h1 _ h3 => ?_⟩
  rw [hg.block i (lt_heap h1) ?_]
  · exact h1
  · intro e
    obtain ⟨_, ⟨rfl, _⟩ | ⟨g, cap, cur, rfl, _, hh, _⟩⟩ := ho
    · cases e
    · injection e with e
      subst e
      rw [h1] at hh
      injection hh with hh
      exact h3 _ _ hh
/-- The row that is being written. -/
def Row (B : Nat) (w : World) (v : Value) (o : List UInt8) : Prop := w.ownsRow B 5 1 v o.length (Lib.byteCells o)
theorem Row.old {v : Value} {o : List UInt8} (h : Row B w v o) (hW : ∀ k, v.ownBlock = some k → w'.heap[k]? = w.heap[k]?) : Row B w' v o := ownsRow_heap h hW

mutual
theorem Rep.oth {w w' : World} {F : Nat → Prop} (h : Lib.OthersKept 5 none w w') : ∀ (j : J) {v : Value}, Rep w F j v → Rep w' F j v
  | .null, _, hj => by rw [Rep] at hj ⊢; exact hj
  | .bool _, _, hj => by rw [Rep] at hj ⊢; exact hj
  | .num _, _, hj => by rw [Rep] at hj ⊢; exact hj
  | .str _, _, hj => by rw [Rep] at hj ⊢; exact hj
  | .arr l, _, hj => by
    rw [Rep] at hj ⊢
    obtain ⟨sv, vs, e, ⟨q1, q2⟩, h2, h3⟩ := hj
    refine ⟨sv, vs, e, ⟨q1, ?_⟩, h2, Reps.oth h l h3⟩
    rcases q2 with q | ⟨g, cap, cur, e1, e2, e3, e4⟩
    · exact Or.inl q
    · exact Or.inr ⟨g, cap, cur, e1, e2, h g _ e3 (by simp) (by intro c fz; simp), e4⟩
  | .obj l, _, hj => by
    rw [Rep] at hj ⊢
    obtain ⟨b, m, e, h1, ⟨es, clock, q1, q2⟩, h3⟩ := hj
    exact ⟨b, m, e, h1, ⟨es, clock, h b _ q1 (by simp) (by intro c fz; simp), q2⟩, Repm.oth h l h3⟩
theorem Reps.oth {w w' : World} {F : Nat → Prop} (h : Lib.OthersKept 5 none w w') : ∀ (l : List J) {vs : List Value}, Reps w F l vs → Reps w' F l vs
  | [], _, hj => by rw [Reps] at hj ⊢; exact hj
  | x :: l, _, hj => by
    rw [Reps] at hj ⊢
    obtain ⟨v, r, e, h1, h2⟩ := hj
    exact ⟨v, r, e, Rep.oth h x h1, Reps.oth h l h2⟩
theorem Repm.oth {w w' : World} {F : Nat → Prop} (h : Lib.OthersKept 5 none w w') : ∀ (l : List (Bs × J)) {m : List (Bs × Value)}, Repm w F l m → Repm w' F l m
  | [], _, hj => by rw [Repm] at hj ⊢; exact hj
  | (k, x) :: l, _, hj => by
    rw [Repm] at hj ⊢
    obtain ⟨v, r, e, h1, h2⟩ := hj
    exact ⟨v, r, e, Rep.oth h x h1, Repm.oth h l h2⟩
end

/-- What a part of the writing comes to. -/
def WrR (B : Nat) (w : World) (o : List UInt8) (e : Ending) (w' : World) : Prop := ∃ v', e = .returned v' ∧ Row B w' v' o ∧ Wr B w w'
theorem strCells_eq (s : ByteArray) : Lib.strCells s = Lib.byteCells s.data.toList := by simp [Lib.strCells, Lib.byteCells]
theorem app_str {v v' : Value} {o : List UInt8} {s : ByteArray} {w1 : World} (h : Wr B w w1) (hB : B ≤ w1.heap.size) (hr : Row B w1 v o) (y1 : w'.ownsRow B 5 1 v' (o.length + s.size) (Lib.byteCells o ++ Lib.strCells s)) (y2 : w1.grownBy w' v.ownBlock) :
    Row B w' v' (o ++ s.data.toList) ∧ Wr B w w' := by
  refine ⟨?_, h.grown hr y2 hB⟩
  unfold Row
  rw [byteCells_app, List.length_append, ← strCells_eq]
  have : s.data.toList.length = s.size := by rw [Array.length_toList]; rfl
  rw [this]
  exact y1
theorem app_bytes {v v' : Value} {o l : List UInt8} {w1 : World} {ob : Obj} (h : Wr B w w1) (hB : B ≤ w1.heap.size) (hr : Row B w1 v o) (y1 : w'.ownsRow B 5 1 v' (o.length + l.length) (Lib.byteCells o ++ Lib.byteCells l)) (y2 : (w1.alloc ob).grownBy w' v.ownBlock) :
    Row B w' v' (o ++ l) ∧ Wr B w w' := by
  refine ⟨?_, (h.alloc hB ob).grown (World.ownsRow.alloc hr ob) y2 (by simp; omega)⟩
  unfold Row
  rw [byteCells_app, List.length_append]
  exact y1

theorem appendBool_c (B : Nat) (w : World) (v : Value) (o : List UInt8) (b : Bool) (hr : Row B w v o) (hB : B ≤ w.heap.size) (ho : o.length ≤ 140000000000000) :
    Calls Tryz.prog 83 #[v, .bool b] w fun e w' => WrR B w (o ++ cJ (.bool b)) e w' := by
  obtain ⟨i0, hi, hz0, hz1, hz2⟩ := info_parts info8
  cases b
  · go_enter Tryz.func83, Tryz.ntmps83
    go_wp2_with (first | (at_builtin; refine Lib.wpList_append_own_string _ rfl _ _ 95 9 rfl B 5 i0 Tryz.underlying95 Tryz.underlying9 hi hz0 hz1 hz2 _ _ _ rfl hr ⟨#[102, 97, 108, 115, 101]⟩ rfl (by unfold maxLen; show o.length + 5 ≤ _; omega) (by show o.length + 5 ≤ _; omega) hB ?_; intro v' w1 y1 y2 _) | go_in)
    go_ret
    obtain ⟨z1, z2⟩ := app_str (Wr.refl B w) hB hr y1 y2
    exact ⟨_, rfl, z1, z2⟩
  · go_enter Tryz.func83, Tryz.ntmps83
    go_wp2_with (first | (at_builtin; refine Lib.wpList_append_own_string _ rfl _ _ 95 9 rfl B 5 i0 Tryz.underlying95 Tryz.underlying9 hi hz0 hz1 hz2 _ _ _ rfl hr ⟨#[116, 114, 117, 101]⟩ rfl (by unfold maxLen; show o.length + 4 ≤ _; omega) (by show o.length + 4 ≤ _; omega) hB ?_; intro v' w1 y1 y2 _) | go_in)
    go_ret
    obtain ⟨z1, z2⟩ := app_str (Wr.refl B w) hB hr y1 y2
    exact ⟨_, rfl, z1, z2⟩

theorem cB_ctl {c : UInt8} (h : c.toNat < 32) (h8 : c ≠ 8) (h12 : c ≠ 12) (h10 : c ≠ 10) (h13 : c ≠ 13) (h9 : c ≠ 9) : cB c = [92, 117, 48, 48, hexD (c.toNat / 16), hexD (c.toNat % 16)] := by
  unfold cB
  have h34 : ¬ (c = 34 ∨ c = 92) := by rintro (rfl | rfl) <;> simp at h
  have h32 : c < 32 := by rw [UInt8.lt_iff_toNat_lt]; exact h
  rw [if_neg h34, if_neg h8, if_neg h12, if_neg h10, if_neg h13, if_neg h9, if_pos h32]

set_option maxRecDepth 100000 in
theorem idx_hex (k : Nat) (hk : k < 16) (w : World) : (Instr.index 9 (.string ⟨#[48, 49, 50, 51, 52, 53, 54, 55, 56, 57, 97, 98, 99, 100, 101, 102]⟩) (.int .u8 (k : Int))).run Tryz.prog w = .ok (.int .u8 (hexD k).toNat) w := by
  have : k = 0 ∨ k = 1 ∨ k = 2 ∨ k = 3 ∨ k = 4 ∨ k = 5 ∨ k = 6 ∨ k = 7 ∨ k = 8 ∨ k = 9 ∨ k = 10 ∨ k = 11 ∨ k = 12 ∨ k = 13 ∨ k = 14 ∨ k = 15 := by omega
  rcases this with rfl | rfl | rfl | rfl | rfl | rfl | rfl | rfl | rfl | rfl | rfl | rfl | rfl | rfl | rfl | rfl <;> rfl
theorem cells_new (w : World) (l : List Value) (t : TypeId) : ∀ (j : Nat) (u : Value), l[j]? = some u → (w.alloc (.cells l.toArray t)).cell? ((⟨w.heap.size, 0, none⟩ : Addr).add j) = some u := by
  intro j u h
  have ea : (⟨w.heap.size, 0, none⟩ : Addr).add j = ⟨w.heap.size, j, none⟩ := by
    unfold Addr.add
    by_cases h0 : j = 0 <;> simp [h0]
  rw [ea]
  have := heap_alloc_new w (.cells l.toArray t)
  simp only [World.cell?, this]
  simpa using h
theorem bytes_one (l : List UInt8) : ∀ u ∈ Lib.byteCells l, u.oneCell' = true := by
  intro u hu
  obtain ⟨x, _, rfl⟩ := List.mem_map.1 hu
  rfl
theorem and15 : ∀ k : Nat, k < 32 → bits BinOp.and IntKind.u8 (k : Int) 15 = ((k % 16 : Nat) : Int) := by decide
set_option maxRecDepth 20000 in
theorem appendControl_c (B : Nat) (w : World) (v : Value) (o : List UInt8) (c : UInt8) (hc : c.toNat < 32) (hr : Row B w v o) (hB : B ≤ w.heap.size) (ho : o.length ≤ 140000000000000) :
    Calls Tryz.prog 127 #[v, .int .u8 c.toNat] w fun e w' => WrR B w (o ++ cB c) e w' ∧ Kp (fun k => v.ownBlock = some k) w w' := by
  obtain ⟨i0, hi, hz0, hz1, hz2⟩ := info_parts info8
  by_cases h8 : c = 8
  · subst h8
    go_enter Tryz.func127, Tryz.ntmps127
    go_wp2_with (at_builtin; refine Lib.wpList_append_own_string _ rfl _ _ 95 9 rfl B 5 i0 Tryz.underlying95 Tryz.underlying9 hi hz0 hz1 hz2 _ _ _ rfl hr ⟨#[92, 98]⟩ rfl (by unfold maxLen; show o.length + 2 ≤ _; omega) (by show o.length + 2 ≤ _; omega) hB ?_; intro v' w1 y1 y2 _)
    go_ret
    obtain ⟨z1, z2⟩ := app_str (Wr.refl B w) hB hr y1 y2
    exact ⟨⟨_, rfl, z1, z2⟩, (Kp.refl _ _).grown y2 (fun k hk _ => hk)⟩
  by_cases h12 : c = 12
  · subst h12
    go_enter Tryz.func127, Tryz.ntmps127
    go_wp2_with (at_builtin; refine Lib.wpList_append_own_string _ rfl _ _ 95 9 rfl B 5 i0 Tryz.underlying95 Tryz.underlying9 hi hz0 hz1 hz2 _ _ _ rfl hr ⟨#[92, 102]⟩ rfl (by unfold maxLen; show o.length + 2 ≤ _; omega) (by show o.length + 2 ≤ _; omega) hB ?_; intro v' w1 y1 y2 _)
    go_ret
    obtain ⟨z1, z2⟩ := app_str (Wr.refl B w) hB hr y1 y2
    exact ⟨⟨_, rfl, z1, z2⟩, (Kp.refl _ _).grown y2 (fun k hk _ => hk)⟩
  by_cases h10 : c = 10
  · subst h10
    go_enter Tryz.func127, Tryz.ntmps127
    go_wp2_with (at_builtin; refine Lib.wpList_append_own_string _ rfl _ _ 95 9 rfl B 5 i0 Tryz.underlying95 Tryz.underlying9 hi hz0 hz1 hz2 _ _ _ rfl hr ⟨#[92, 110]⟩ rfl (by unfold maxLen; show o.length + 2 ≤ _; omega) (by show o.length + 2 ≤ _; omega) hB ?_; intro v' w1 y1 y2 _)
    go_ret
    obtain ⟨z1, z2⟩ := app_str (Wr.refl B w) hB hr y1 y2
    exact ⟨⟨_, rfl, z1, z2⟩, (Kp.refl _ _).grown y2 (fun k hk _ => hk)⟩
  by_cases h13 : c = 13
  · subst h13
    go_enter Tryz.func127, Tryz.ntmps127
    go_wp2_with (at_builtin; refine Lib.wpList_append_own_string _ rfl _ _ 95 9 rfl B 5 i0 Tryz.underlying95 Tryz.underlying9 hi hz0 hz1 hz2 _ _ _ rfl hr ⟨#[92, 114]⟩ rfl (by unfold maxLen; show o.length + 2 ≤ _; omega) (by show o.length + 2 ≤ _; omega) hB ?_; intro v' w1 y1 y2 _)
    go_ret
    obtain ⟨z1, z2⟩ := app_str (Wr.refl B w) hB hr y1 y2
    exact ⟨⟨_, rfl, z1, z2⟩, (Kp.refl _ _).grown y2 (fun k hk _ => hk)⟩
  by_cases h9 : c = 9
  · subst h9
    go_enter Tryz.func127, Tryz.ntmps127
    go_wp2_with (at_builtin; refine Lib.wpList_append_own_string _ rfl _ _ 95 9 rfl B 5 i0 Tryz.underlying95 Tryz.underlying9 hi hz0 hz1 hz2 _ _ _ rfl hr ⟨#[92, 116]⟩ rfl (by unfold maxLen; show o.length + 2 ≤ _; omega) (by show o.length + 2 ≤ _; omega) hB ?_; intro v' w1 y1 y2 _)
    go_ret
    obtain ⟨z1, z2⟩ := app_str (Wr.refl B w) hB hr y1 y2
    exact ⟨⟨_, rfl, z1, z2⟩, (Kp.refl _ _).grown y2 (fun k hk _ => hk)⟩
  have n8 : ((c.toNat : Int) == 8) = false := u8n h8
  have n12 : ((c.toNat : Int) == 12) = false := u8n h12
  have n10 : ((c.toNat : Int) == 10) = false := u8n h10
  have n13 : ((c.toNat : Int) == 13) = false := u8n h13
  have n9 : ((c.toNat : Int) == 9) = false := u8n h9
  have hcb := hide (cB_ctl hc h8 h12 h10 h13 h9)
  clear h8 h12 h10 h13 h9
  have hx1 : ∀ w, (Instr.index 9 (.string ⟨#[48, 49, 50, 51, 52, 53, 54, 55, 56, 57, 97, 98, 99, 100, 101, 102]⟩) (.int .u8 ((c.toNat : Int) / 16))).run Tryz.prog w = .ok (.int .u8 (hexD (c.toNat / 16)).toNat) w := fun w => idx_hex (c.toNat / 16) (by omega) w
  have hx2 : ∀ w, (Instr.index 9 (.string ⟨#[48, 49, 50, 51, 52, 53, 54, 55, 56, 57, 97, 98, 99, 100, 101, 102]⟩) (.int .u8 (bits BinOp.and IntKind.u8 (c.toNat : Int) 15))).run Tryz.prog w = .ok (.int .u8 (hexD (c.toNat % 16)).toNat) w := fun w => by
    rw [and15 c.toNat hc]; exact idx_hex (c.toNat % 16) (by omega) w
  have hrd : Row B w.drew v o := hr
  generalize hd1 : hexD (c.toNat / 16) = d1 at *
  generalize hd2 : hexD (c.toNat % 16) = d2 at *
  have HD := hide (And.intro hd1 hd2)
  clear hd1 hd2
  go_enter Tryz.func127, Tryz.ntmps127
  go_wp2_with fail
  go_region_law (refine step_append_own rfl (.tmp 26) (.tmp 33) 95 rfl B 5 i0 (.int .u8 0) 1 1 Tryz.underlying95 hi hz0 hz1 hz2 rfl (by decide) v o.length (Lib.byteCells o) (by simp [Act.eval]) (World.ownsRow.alloc hrd _) ⟨w.heap.size, 0, none⟩ 6 6 (Lib.byteCells [92, 117, 48, 48, d1, d2]) (by simp [Act.eval]) rfl (by exact cells_new w.drew _ _) (bytes_one _) (by unfold maxLen; omega) (by omega) (by simp; omega) ?_; intro v' w3 y1 y2 _)
  all_goals
    obtain ⟨z1, z2⟩ := app_bytes (l := [92, 117, 48, 48, d1, d2]) (w1 := w.drew) (w := w) ⟨(Below.refl _ _).drew, Lib.OthersKept.refl _ _ _⟩ hB hrd y1 y2
    have K9 : Kp (fun k => v.ownBlock = some k) w w3 := (((Kp.refl _ w).drew).alloc _).grown y2 (fun k hk _ => hk)
    have Z := hide (And.intro z1 z2)
    clear z1 z2 y1 y2
    go_wp2
    go_ret
    refine ⟨⟨_, rfl, ?_, Z.out.2⟩, K9⟩
    rw [hcb.out]
    exact Z.out.1
end Go.Proofs.YtocligpfmfmihabGreatDoor

import Derived.Test.YtocligpfmfmihaaGreatDoorRef
namespace Go.Proofs.YtocligpfmfmihaaGreatDoor
open Go Go.RowKit Go.Maps

def ptr (b : Nat) : Value := .pointer (some ⟨b, 0, none⟩)
/-- A block of the reference's Value. -/
def vCells (kind : Nat) (n : Int) (t : Bs) (K L : Value) : Obj := .cells #[.int .u8 (kind : Int), .int .i64 n, .string ⟨t.toArray⟩, K, L] 80

/-- The tree at block b stands for j; its blocks are among F. -/
inductive RR (w : World) (F : Nat → Prop) : J → Nat → Prop
  | null {b : Nat} (hF : F b) (h : w.heap[b]? = some (vCells 110 0 [] (.slice none 0 0) (.slice none 0 0))) : RR w F .null b
  | tt {b : Nat} (hF : F b) (h : w.heap[b]? = some (vCells 116 0 [] (.slice none 0 0) (.slice none 0 0))) : RR w F (.bool true) b
  | ff {b : Nat} (hF : F b) (h : w.heap[b]? = some (vCells 102 0 [] (.slice none 0 0) (.slice none 0 0))) : RR w F (.bool false) b
  | num {b : Nat} (n : Int) (hn : n.natAbs ≤ 9007199254740991) (hF : F b) (h : w.heap[b]? = some (vCells 35 n [] (.slice none 0 0) (.slice none 0 0))) : RR w F (.num n) b
  | str {b : Nat} (t : Bs) (hF : F b) (h : w.heap[b]? = some (vCells 34 0 t (.slice none 0 0) (.slice none 0 0))) : RR w F (.str t) b
  | arr {b : Nat} (x : List (J × Nat)) (L : Value) (hF : F b) (h : w.heap[b]? = some (vCells 91 0 [] (.slice none 0 0) L))
      (hL : w.ownsRow 0 66 1 L x.length (x.map fun p => ptr p.2)) (hG : ∀ k, L.ownBlock = some k → F k) (hx : ∀ j c, (j, c) ∈ x → RR w F j c) : RR w F (.arr (x.map (·.1))) b
  | obj {b : Nat} (x : List (Bs × J × Nat)) (K L : Value) (hF : F b) (h : w.heap[b]? = some (vCells 123 0 [] K L))
      (hK : w.ownsRow 0 9 1 K x.length (x.map fun p => .string ⟨p.1.toArray⟩)) (hL : w.ownsRow 0 66 1 L x.length (x.map fun p => ptr p.2.2))
      (hG : ∀ k, K.ownBlock = some k → F k) (hH : ∀ k, L.ownBlock = some k → F k) (hN : Nod (x.map fun p => (p.1, p.2.1))) (hx : ∀ a j c, (a, j, c) ∈ x → RR w F j c) : RR w F (.obj (ofL (x.map fun p => (p.1, p.2.1)))) b
theorem RR.frame {w w' : World} {F G : Nat → Prop} {j : J} {b : Nat} (h : RR w F j b) (hf : ∀ k, F k → w'.heap[k]? = w.heap[k]?) (hg : ∀ k, F k → G k) : RR w' G j b := by
  induction h with
  | null hF h => exact .null (hg _ hF) ((hf _ hF).trans h)
  | tt hF h => exact .tt (hg _ hF) ((hf _ hF).trans h)
  | ff hF h => exact .ff (hg _ hF) ((hf _ hF).trans h)
  | num n hn hF h => exact .num n hn (hg _ hF) ((hf _ hF).trans h)
  | str t hF h => exact .str t (hg _ hF) ((hf _ hF).trans h)
  | arr x L hF h hL hG hx ih => exact .arr x L (hg _ hF) ((hf _ hF).trans h) (ownsRow_heap hL fun k hk => hf k (hG k hk)) (fun k hk => hg k (hG k hk)) ih
  | obj x K L hF h hK hL hG hH hN hx ih =>
    exact .obj x K L (hg _ hF) ((hf _ hF).trans h) (ownsRow_heap hK fun k hk => hf k (hG k hk)) (ownsRow_heap hL fun k hk => hf k (hH k hk)) (fun k hk => hg k (hG k hk)) (fun k hk => hg k (hH k hk)) hN ih
theorem RR.here {w : World} {F : Nat → Prop} {j : J} {b : Nat} (h : RR w F j b) : F b ∧ ∃ kind n t K L, w.heap[b]? = some (vCells kind n t K L) := by
  cases h with
  | null hF h => exact ⟨hF, _, _, _, _, _, h⟩
  | tt hF h => exact ⟨hF, _, _, _, _, _, h⟩
  | ff hF h => exact ⟨hF, _, _, _, _, _, h⟩
  | num n hn hF h => exact ⟨hF, _, _, _, _, _, h⟩
  | str t hF h => exact ⟨hF, _, _, _, _, _, h⟩
  | arr x L hF h => exact ⟨hF, _, _, _, _, _, h⟩
  | obj x K L hF h => exact ⟨hF, _, _, _, _, _, h⟩
theorem vfacts {w : World} {b kind : Nat} {n : Int} {t : Bs} {K L : Value} (h : w.heap[b]? = some (vCells kind n t K L)) :
    w.cell? ⟨b, 0, none⟩ = some (.int .u8 (kind : Int)) ∧ w.cell? ⟨b, 1, none⟩ = some (.int .i64 n) ∧ w.cell? ⟨b, 2, none⟩ = some (.string ⟨t.toArray⟩) ∧ w.cell? ⟨b, 3, none⟩ = some K ∧ w.cell? ⟨b, 4, none⟩ = some L ∧
    w.frozen? ⟨b, 0, none⟩ = false ∧ w.frozen? ⟨b, 1, none⟩ = false ∧ w.frozen? ⟨b, 2, none⟩ = false ∧ w.frozen? ⟨b, 3, none⟩ = false ∧ w.frozen? ⟨b, 4, none⟩ = false ∧ b < w.heap.size := by
  refine ⟨?_, ?_, ?_, ?_, ?_, ?_, ?_, ?_, ?_, ?_, lt_heap h⟩ <;> simp [World.cell?, World.frozen?, h, vCells]
theorem pMore_fuel {σ : Type} {p : σ → Bs → Option (σ × Bs)} (hp : Shr p) {e : UInt8} : ∀ n m a s, s.length < n → s.length < m → pMore p e n a s = pMore p e m a s := by
  intro n
  induction n with
  | zero => intro m a s h; omega
  | succ n ih =>
    intro m a s h1 h2
    obtain ⟨m, rfl⟩ : ∃ m', m = m' + 1 := ⟨m - 1, by omega⟩
    have hs := sk_len s
    unfold pMore
    split
    · rfl
    · rename_i c t hc
      rw [hc] at hs
      simp only [List.length_cons] at hs
      split
      · split
        · rename_i b r hb
          have := hp _ _ _ _ hb
          exact ih m b r (by omega) (by omega)
        · rfl
      · rfl
theorem pMore_sk {σ : Type} {p : σ → Bs → Option (σ × Bs)} {e : UInt8} (n : Nat) (a : σ) (s : Bs) : pMore p e n a (sk s) = pMore p e n a s := by
  cases n with
  | zero => rfl
  | succ n => rw [pMore, pMore, sk_sk]
end Go.Proofs.YtocligpfmfmihaaGreatDoor
namespace Go.Proofs.YtocligpfmfmihaaGreatDoor
open Go Go.RowKit Go.Maps
variable {W w w' : World} {rb k : Nat} {s : ByteArray} {bad : Bool}

/-- What a part of the reading that makes a tree comes to. -/
def TrR (W w : World) (rb : Nat) (s : ByteArray) (o : Option (J × Bs)) (e : Ending) (w' : World) : Prop :=
  ∃ b, e = .returned (.pointer (some ⟨b, 0, none⟩)) ∧ Kp (· = rb) w w' ∧ ∃ k' bad', Rs W w' rb s k' bad' ∧ match o with | some (j, r) => bad' = false ∧ rest s k' = r ∧ RR w' (fun c => w.heap.size ≤ c ∧ c < w'.heap.size) j b | none => bad' = true
theorem trR_some {o : Option (J × Bs)} {k' b : Nat} {j : J} {r : Bs} (ho : o = some (j, r)) (hk : Kp (· = rb) w w') (hs : Rs W w' rb s k' false) (hr : rest s k' = r) (ht : RR w' (fun c => w.heap.size ≤ c ∧ c < w'.heap.size) j b) : TrR W w rb s o (.returned (.pointer (some ⟨b, 0, none⟩))) w' := by
  subst ho
  exact ⟨_, rfl, hk, k', false, hs, rfl, hr, ht⟩
theorem trR_none {o : Option (J × Bs)} {k' b : Nat} (ho : o = none) (hk : Kp (· = rb) w w') (hs : Rs W w' rb s k' true) : TrR W w rb s o (.returned (.pointer (some ⟨b, 0, none⟩))) w' := by
  subst ho
  exact ⟨_, rfl, hk, k', true, hs, rfl⟩
/-- What value does at depth D. -/
def VlC (W : World) (D : Nat) : Prop := ∀ (rb : Nat) (s : ByteArray) (k : Nat) (w : World), Rs W w rb s k false →
  Calls Tryz.prog 69 #[.pointer (some ⟨rb, 0, none⟩), .int .i64 (D : Int)] w fun e w' => TrR W w rb s ((pVal true (6 - D) (rest s k)).map fun x => (x.1, sk x.2)) e w'

theorem infoPtr : (Tryz.prog.info? 66).map (fun i => (i.zero, i.size, i.bytes)) = some (some (.pointer none), 1, 8) := by kernel_rfl
theorem infoStr : (Tryz.prog.info? 9).map (fun i => (i.zero, i.size, i.bytes)) = some (some (.string ⟨#[]⟩), 1, 16) := by kernel_rfl

/-- The array that is being read, at block vb. -/
structure ArI (lo vb : Nat) (x : List (J × Nat)) (L : Value) (G : Nat → Prop) (w : World) : Prop where
  blk : w.heap[vb]? = some (vCells 91 0 [] (.slice none 0 0) L)
  row : w.ownsRow lo 66 1 L x.length (x.map fun p => ptr p.2)
  trs : ∀ j c, (j, c) ∈ x → RR w G j c
  old : ∀ k, G k → lo ≤ k ∧ k < w.heap.size ∧ k ≠ vb
  own : ∀ k, L.ownBlock = some k → ¬ G k ∧ k ≠ vb
theorem ArI.kp {lo vb : Nat} {x : List (J × Nat)} {L : Value} {G : Nat → Prop} (h : ArI lo vb x L G w) {S : Nat → Prop} (hk : Kp S w w') (hS : ∀ k, lo ≤ k → k < w.heap.size → ¬ S k) (hlo : lo ≤ vb) : ArI lo vb x L G w' :=
  ⟨(hk.block vb (lt_heap h.blk) (hS vb hlo (lt_heap h.blk))).trans h.blk, ownsRow_kp h.row hk (fun k e => by have := h.row.lt k e; exact hS k this.1 this.2),
    fun j c hm => (h.trs j c hm).frame (fun k hG => hk.block k (h.old k hG).2.1 (hS k (h.old k hG).1 (h.old k hG).2.1)) (fun _ h => h),
    fun k hG => ⟨(h.old k hG).1, Nat.lt_of_lt_of_le (h.old k hG).2.1 hk.size, (h.old k hG).2.2⟩, h.own⟩
/-- One more. -/
theorem ArI.more {lo vb b hs : Nat} {x : List (J × Nat)} {L L' : Value} {G : Nat → Prop} {w2 w3 : World} {j : J} (h : ArI lo vb x L G w2) (hlt : ∀ k, G k → k < hs) (hvb : vb < hs) (hlo : lo ≤ hs) (hLt : ∀ k, L.ownBlock = some k → k < hs)
    (ht : RR w2 (fun c => hs ≤ c ∧ c < w2.heap.size) j b) (B1 : Kp (fun k => L.ownBlock = some k) w2 w3) (h3 : w3.heap[vb]? = some (vCells 91 0 [] (.slice none 0 0) L))
    (y1 : w3.ownsRow lo 66 1 L' (x.length + 1) ((x.map fun p => ptr p.2) ++ [ptr b])) (y3 : L'.ownBlock = L.ownBlock ∨ ∃ q, w2.heap.size ≤ q ∧ L'.ownBlock = some q) (hs2 : hs ≤ w2.heap.size) :
    ArI lo vb (x ++ [(j, b)]) L' (fun k => G k ∨ (hs ≤ k ∧ k < w2.heap.size)) (w3.setCell ⟨vb, 4, none⟩ L') := by
  have hz : (w3.setCell ⟨vb, 4, none⟩ L').heap.size = w3.heap.size := by simp [World.setCell]
  have own' : ∀ k, L'.ownBlock = some k → ¬ (G k ∨ (hs ≤ k ∧ k < w2.heap.size)) ∧ k ≠ vb := by
    intro k hk
    rcases y3 with e | ⟨q, hq, e⟩
    · rw [e] at hk
      obtain ⟨q1, q2⟩ := h.own k hk
      have := hLt k hk
      exact ⟨by rintro (h | h); exact q1 h; omega, q2⟩
    · rw [e] at hk
      injection hk with hk
      refine ⟨?_, by omega⟩
      rintro (hg | hg)
      · have := hlt k hg; omega
      · omega
  refine ⟨?_, ?_, ?_, ?_, own'⟩
  · simp [World.setCell, Array.getElem?_modify, h3, vCells]
  · rw [List.length_append, List.map_append]
    exact ownsRow_heap y1 fun k hk => heap_set_other (own' k hk).2
  · intro i c hm
    rcases List.mem_append.1 hm with hm | hm
    · refine (h.trs i c hm).frame (fun k hG => ?_) (fun k hG => Or.inl hG)
      rw [heap_set_other (h.old k hG).2.2, B1.block k (h.old k hG).2.1 (fun e => (h.own k e).1 hG)]
    · obtain ⟨rfl, rfl⟩ : i = j ∧ c = b := by simpa using hm
      refine ht.frame (fun k hG => ?_) (fun k hG => Or.inr hG)
      rw [heap_set_other (by show k ≠ vb; omega), B1.block k hG.2 (fun e => by have := hLt k e; omega)]
  · rintro k (hG | hG)
    · have q := h.old k hG
      have := B1.size
      exact ⟨q.1, by omega, q.2.2⟩
    · have := B1.size
      exact ⟨by omega, by omega, by omega⟩
end Go.Proofs.YtocligpfmfmihaaGreatDoor

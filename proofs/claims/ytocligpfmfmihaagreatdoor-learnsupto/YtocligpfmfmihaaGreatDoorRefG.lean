import Derived.Test.YtocligpfmfmihaaGreatDoorPar
namespace Go.Proofs.YtocligpfmfmihaaGreatDoor
open Go Go.RowKit
structure Rs (W w : World) (rb : Nat) (s : ByteArray) (k : Nat) (bad : Bool) : Prop where
 gl : GL W
 old : Below W.heap.size W w
 rdr : w.heap[rb]? = some (.cells #[.string s, .int .i64 k, .bool bad] 128)
 ge : W.heap.size ≤ rb
 sz : s.size ≤ 600
 le : k ≤ s.size + 9
 good : bad = false → k ≤ s.size
variable {W w w' : World} {rb k : Nat} {s : ByteArray} {bad : Bool}
theorem Rs.facts (h : Rs W w rb s k bad) : w.cell? ⟨rb, 0, none⟩ = some (.string s) ∧ w.cell? ⟨rb, 1, none⟩ = some (.int .i64 k) ∧ w.cell? ⟨rb, 2, none⟩ = some (.bool bad) ∧
  w.frozen? ⟨rb, 1, none⟩ = false ∧ w.frozen? ⟨rb, 2, none⟩ = false ∧ rb < w.heap.size := by
 have hr := h.rdr
 refine ⟨?_, ?_, ?_, ?_, ?_, lt_heap hr⟩ <;> simp [World.cell?, World.frozen?, hr]
theorem Rs.drewN (h : Rs W w rb s k bad) (n : Nat) : Rs W (w.drewN n) rb s k bad := ⟨h.gl, below_drewN h.old n, h.rdr, h.ge, h.sz, h.le, h.good⟩
theorem Rs.at (h : Rs W w rb s k bad) (k' : Nat) (h1 : k' ≤ s.size + 9) (h2 : bad = false → k' ≤ s.size) : Rs W (w.setCell ⟨rb, 1, none⟩ (.int .i64 k')) rb s k' bad := by
 refine ⟨h.gl, h.old.setCell (p := ⟨rb, 1, none⟩) h.ge _, ?_, h.ge, h.sz, h1, h2⟩
 have := h.rdr
 simp [World.setCell, Array.getElem?_modify, this]
theorem Rs.turn (h : Rs W w rb s k bad) (b : Bool) (hb : b = false → k ≤ s.size) : Rs W (w.setCell ⟨rb, 2, none⟩ (.bool b)) rb s k b := by
 refine ⟨h.gl, h.old.setCell (p := ⟨rb, 2, none⟩) h.ge _, ?_, h.ge, h.sz, h.le, hb⟩
 have := h.rdr
 simp [World.setCell, Array.getElem?_modify, this]
theorem Rs.keep {S : Nat → Prop} (h : Rs W w rb s k bad) (hk : Kp S w w') (h1 : ∀ i, S i → W.heap.size ≤ i) (h2 : ¬ S rb) : Rs W w' rb s k bad :=
 ⟨h.gl, h.old.trans ⟨hk.os, hk.tape, hk.output, hk.size, fun i hi => hk.block i (Nat.lt_of_lt_of_le hi h.old.size) (fun hs => by have := h1 i hs; omega)⟩, (hk.block rb (lt_heap h.rdr) h2).trans h.rdr, h.ge, h.sz, h.le, h.good⟩
theorem peek_c (h : Rs W w rb s k bad) :
  Calls Tryz.prog 124 #[.pointer (some ⟨rb, 0, none⟩)] w fun e w' => e = .returned (.int .u8 (nxt (rest s k)).toNat) ∧ ∃ n, w.drewN n = w' := by
 obtain ⟨c0, c1, c2, f1, f2, hb⟩ := h.facts
 have hsz := h.sz
 have hle := h.le
 by_cases hk : k < s.size
 ·have hd : decide ((k : Int) < (s.size : Int)) = true := by simp; omega
  rw [rest_cons hk]
  go_enter Tryz.func124, Tryz.ntmps124
  go_wp2
  go_quiet (fail)
  go_wp2
  go_quiet (fail)
  go_wp2
  go_ret
  simp only [World.drewN_drewN]
  exact ⟨rfl, _, rfl⟩
 ·have hd : decide ((k : Int) < (s.size : Int)) = false := by simp; omega
  rw [rest_nil (by omega)]
  go_enter Tryz.func124, Tryz.ntmps124
  go_wp2
  go_quiet (fail)
  go_wp2
  go_ret
  exact ⟨rfl, _, rfl⟩
theorem rblanks_c (h : Rs W w rb s k bad) :
  Calls Tryz.prog 123 #[.pointer (some ⟨rb, 0, none⟩)] w fun e w' => e = .returned (.tuple #[]) ∧ Kp (· = rb) w w' ∧ ∃ k', Rs W w' rb s k' bad ∧ rest s k' = sk (rest s k) := by
 have hsz := h.sz
 go_enter Tryz.func123, Tryz.ntmps123
 go_wp2
 go_loopg [] (s.size - k) (fun g wr => ∃ k', g = s.size - k' ∧ Rs W wr rb s k' bad ∧ Kp (· = rb) w wr ∧ sk (rest s k') = sk (rest s k))
 case atStart => exact ⟨k, rfl, h, Kp.refl _ _, rfl⟩
 case round =>
  obtain ⟨k', hg, h1, h2, h3⟩ := hrel
  have A := hide (And.intro hg h3)
  clear hg h3
  have hle := h1.le
  obtain ⟨c0, c1, c2, f1, f2, hb⟩ := h1.facts
  by_cases hk : k' < s.size
  ·have hd : decide ((k' : Int) < (s.size : Int)) = true := by simp; omega
   have HB := hide (isBl_eq s[k'])
   have step : isBl s[k'] = true → sk (rest s (k' + 1)) = sk (rest s k') := fun hbl => by
    rw [rest_cons hk]
    simp [sk, hbl]
   have stop : isBl s[k'] = false → rest s k' = sk (rest s k') := fun hbl => by
    rw [rest_cons hk]
    simp [sk, hbl]
   by_cases e1 : ((s[k'].toNat : Int) == 32) = true
   ·have S := hide (step (by rw [HB.out, e1]; rfl))
    clear step stop
    go_wp2
    go_quiet (fail)
    go_wp2
    go_roundg (s.size - (k' + 1))
    case measure => rw [A.out.1]; omega
    case rel => exact ⟨k' + 1, rfl, (h1.drewN _).at (k' + 1) (by omega) (fun _ => by omega), Kp.setCell (p := ⟨rb, 1, none⟩) (h2.drewN _) (fun _ => rfl) _, S.out.trans A.out.2⟩
   ·have e1' := Bool.eq_false_iff.2 e1
    by_cases e2 : ((s[k'].toNat : Int) == 9) = true
    ·have S := hide (step (by rw [HB.out, e1', e2]; rfl))
     clear step stop
     go_wp2
     go_quiet (fail)
     go_wp2
     go_roundg (s.size - (k' + 1))
     case measure => rw [A.out.1]; omega
     case rel => exact ⟨k' + 1, rfl, (h1.drewN _).at (k' + 1) (by omega) (fun _ => by omega), Kp.setCell (p := ⟨rb, 1, none⟩) (h2.drewN _) (fun _ => rfl) _, S.out.trans A.out.2⟩
    ·have e2' := Bool.eq_false_iff.2 e2
     by_cases e3 : ((s[k'].toNat : Int) == 10) = true
     ·have S := hide (step (by rw [HB.out, e1', e2', e3]; rfl))
      clear step stop
      go_wp2
      go_quiet (fail)
      go_wp2
      go_roundg (s.size - (k' + 1))
      case measure => rw [A.out.1]; omega
      case rel => exact ⟨k' + 1, rfl, (h1.drewN _).at (k' + 1) (by omega) (fun _ => by omega), Kp.setCell (p := ⟨rb, 1, none⟩) (h2.drewN _) (fun _ => rfl) _, S.out.trans A.out.2⟩
     ·have e3' := Bool.eq_false_iff.2 e3
      by_cases e4 : ((s[k'].toNat : Int) == 13) = true
      ·have S := hide (step (by rw [HB.out, e1', e2', e3', e4]; rfl))
       clear step stop
       go_wp2
       go_quiet (fail)
       go_wp2
       go_roundg (s.size - (k' + 1))
       case measure => rw [A.out.1]; omega
       case rel => exact ⟨k' + 1, rfl, (h1.drewN _).at (k' + 1) (by omega) (fun _ => by omega), Kp.setCell (p := ⟨rb, 1, none⟩) (h2.drewN _) (fun _ => rfl) _, S.out.trans A.out.2⟩
      ·have e4' := Bool.eq_false_iff.2 e4
       have S := hide (stop (by rw [HB.out, e1', e2', e3', e4']; rfl))
       clear step stop e1 e2 e3 e4
       go_wp2
       go_quiet (fail)
       go_wp2
       go_end0
       exact ⟨rfl, h2.drewN _, k', h1.drewN _, S.out.trans A.out.2⟩
  ·have hd : decide ((k' : Int) < (s.size : Int)) = false := by simp; omega
   go_wp2
   go_quiet (fail)
   go_wp2
   go_end0
   exact ⟨rfl, h2.drewN _, k', h1.drewN _, by have := A.out.2; rw [rest_nil (by omega)] at this ⊢; exact this⟩
theorem ext_rest (s : ByteArray) (k n : Nat) : (s.extract k (k + n)).data.toList = (rest s k).take n := by
 unfold rest
 simp [List.take_drop]
set_option maxRecDepth 20000 in
theorem word_bad (h : Rs W w rb s k true) (t : ByteArray) :
  Calls Tryz.prog 125 #[.pointer (some ⟨rb, 0, none⟩), .string t] w fun e w' => e = .returned (.tuple #[]) ∧ Kp (· = rb) w w' ∧ Rs W w' rb s k true := by
 obtain ⟨c0, c1, c2, f1, f2, hb⟩ := h.facts
 go_enter Tryz.func125, Tryz.ntmps125
 go_wp2
 go_quiet (fail)
 go_wp2
 refine bodyPost_ret (results_none rfl _ _ _) rfl ?_
 exact ⟨rfl, Kp.setCell (p := ⟨rb, 2, none⟩) ((Kp.refl (· = rb) _).drewN _) (fun _ => rfl) _, (h.drewN _).turn true (fun e => by cases e)⟩
end Go.Proofs.YtocligpfmfmihaaGreatDoor
namespace Go.Proofs.YtocligpfmfmihaaGreatDoor
open Go Go.RowKit Go.Maps
def ptr (b : Nat) : Value := .pointer (some ⟨b, 0, none⟩)
def vCells (kind : Nat) (n : Int) (t : Bs) (K L : Value) : Obj := .cells #[.int .u8 (kind : Int), .int .i64 n, .string ⟨t.toArray⟩, K, L] 80
inductive RR (w : World) (F : Nat → Prop) : J → Nat → Prop
 | null {b : Nat} (hF : F b) (h : w.heap[b]? = some (vCells 110 0 [] (.slice none 0 0) (.slice none 0 0))) : RR w F .null b
 | tt {b : Nat} (hF : F b) (h : w.heap[b]? = some (vCells 116 0 [] (.slice none 0 0) (.slice none 0 0))) : RR w F (.bool true) b
 | ff {b : Nat} (hF : F b) (h : w.heap[b]? = some (vCells 102 0 [] (.slice none 0 0) (.slice none 0 0))) : RR w F (.bool false) b
 | num {b : Nat} (n : Int) (hn : n.natAbs ≤ 9007199254740991) (hF : F b) (h : w.heap[b]? = some (vCells 35 n [] (.slice none 0 0) (.slice none 0 0))) : RR w F (.num n) b
 | str {b : Nat} (t : Bs) (hF : F b) (h : w.heap[b]? = some (vCells 34 0 t (.slice none 0 0) (.slice none 0 0))) : RR w F (.str t) b
 | arr {b : Nat} (x : List (J × Nat)) (L : Value) (hF : F b) (h : w.heap[b]? = some (vCells 91 0 [] (.slice none 0 0) L))
   (hL : w.ownsRow 0 66 1 L x.length (x.map fun p => ptr p.2)) (hG : ∀ k, L.ownBlock = some k → F k) (hx : ∀ j c, (j, c) ∈ x → RR w F j c) : RR w F (.arr (x.map (·.1))) b
 | obj {b : Nat} (x : List (Bs × J × Nat)) (K L : Value) (hF : F b) (h : w.heap[b]? = some (vCells 123 0 [] K L))
   (hK : w.ownsRow 0 9 1 K x.length (x.map fun p => .string ⟨p.1.toArray⟩)) (hL : w.ownsRow 0 66 1 L x.length (x.map fun p => ptr p.2.2))
   (hG : ∀ k, K.ownBlock = some k → F k) (hH : ∀ k, L.ownBlock = some k → F k) (hN : Nod (x.map fun p => (p.1, p.2.1))) (hx : ∀ a j c, (a, j, c) ∈ x → RR w F j c) : RR w F (.obj (ofL (x.map fun p => (p.1, p.2.1)))) b
theorem RR.frame {w w' : World} {F G : Nat → Prop} {j : J} {b : Nat} (h : RR w F j b) (hf : ∀ k, F k → w'.heap[k]? = w.heap[k]?) (hg : ∀ k, F k → G k) : RR w' G j b := by
 induction h with
 | null hF h => exact .null (hg _ hF) ((hf _ hF).trans h)
 | tt hF h => exact .tt (hg _ hF) ((hf _ hF).trans h)
 | ff hF h => exact .ff (hg _ hF) ((hf _ hF).trans h)
 | num n hn hF h => exact .num n hn (hg _ hF) ((hf _ hF).trans h)
 | str t hF h => exact .str t (hg _ hF) ((hf _ hF).trans h)
 | arr x L hF h hL hG hx ih => exact .arr x L (hg _ hF) ((hf _ hF).trans h) (ownsRow_heap hL fun k hk => hf k (hG k hk)) (fun k hk => hg k (hG k hk)) ih
 | obj x K L hF h hK hL hG hH hN hx ih =>
  exact .obj x K L (hg _ hF) ((hf _ hF).trans h) (ownsRow_heap hK fun k hk => hf k (hG k hk)) (ownsRow_heap hL fun k hk => hf k (hH k hk)) (fun k hk => hg k (hG k hk)) (fun k hk => hg k (hH k hk)) hN ih
theorem vfacts {w : World} {b kind : Nat} {n : Int} {t : Bs} {K L : Value} (h : w.heap[b]? = some (vCells kind n t K L)) :
  w.cell? ⟨b, 0, none⟩ = some (.int .u8 (kind : Int)) ∧ w.cell? ⟨b, 1, none⟩ = some (.int .i64 n) ∧ w.cell? ⟨b, 2, none⟩ = some (.string ⟨t.toArray⟩) ∧ w.cell? ⟨b, 3, none⟩ = some K ∧ w.cell? ⟨b, 4, none⟩ = some L ∧
  w.frozen? ⟨b, 0, none⟩ = false ∧ w.frozen? ⟨b, 1, none⟩ = false ∧ w.frozen? ⟨b, 2, none⟩ = false ∧ w.frozen? ⟨b, 3, none⟩ = false ∧ w.frozen? ⟨b, 4, none⟩ = false ∧ b < w.heap.size := by
 refine ⟨?_, ?_, ?_, ?_, ?_, ?_, ?_, ?_, ?_, ?_, lt_heap h⟩ <;> simp [World.cell?, World.frozen?, h, vCells]
theorem pMore_fuel {σ : Type} {p : σ → Bs → Option (σ × Bs)} (hp : Shr p) {e : UInt8} : ∀ n m a s, s.length < n → s.length < m → pMore p e n a s = pMore p e m a s := by
 intro n
 induction n with
 | zero => intro m a s h; omega
 | succ n ih =>
  intro m a s h1 h2
  obtain ⟨m, rfl⟩ : ∃ m', m = m' + 1 := ⟨m - 1, by omega⟩
  have hs := sk_len s
  unfold pMore
  split
  ·rfl
  ·rename_i c t hc
   rw [hc] at hs
   simp only [List.length_cons] at hs
   split
   ·split
    ·rename_i b r hb
     have := hp _ _ _ _ hb
     exact ih m b r (by omega) (by omega)
    ·rfl
   ·rfl
end Go.Proofs.YtocligpfmfmihaaGreatDoor
namespace Go.Proofs.YtocligpfmfmihaaGreatDoor
open Go Go.RowKit Go.Maps
variable {W w w' : World} {rb k : Nat} {s : ByteArray} {bad : Bool}
def TrR (W w : World) (rb : Nat) (s : ByteArray) (o : Option (J × Bs)) (e : Ending) (w' : World) : Prop :=
 ∃ b, e = .returned (.pointer (some ⟨b, 0, none⟩)) ∧ Kp (· = rb) w w' ∧ ∃ k' bad', Rs W w' rb s k' bad' ∧ match o with | some (j, r) => bad' = false ∧ rest s k' = r ∧ RR w' (fun c => w.heap.size ≤ c ∧ c < w'.heap.size) j b | none => bad' = true
theorem trR_some {o : Option (J × Bs)} {k' b : Nat} {j : J} {r : Bs} (ho : o = some (j, r)) (hk : Kp (· = rb) w w') (hs : Rs W w' rb s k' false) (hr : rest s k' = r) (ht : RR w' (fun c => w.heap.size ≤ c ∧ c < w'.heap.size) j b) : TrR W w rb s o (.returned (.pointer (some ⟨b, 0, none⟩))) w' := by
 subst ho
 exact ⟨_, rfl, hk, k', false, hs, rfl, hr, ht⟩
theorem trR_none {o : Option (J × Bs)} {k' b : Nat} (ho : o = none) (hk : Kp (· = rb) w w') (hs : Rs W w' rb s k' true) : TrR W w rb s o (.returned (.pointer (some ⟨b, 0, none⟩))) w' := by
 subst ho
 exact ⟨_, rfl, hk, k', true, hs, rfl⟩
def VlC (W : World) (D : Nat) : Prop := ∀ (rb : Nat) (s : ByteArray) (k : Nat) (w : World), Rs W w rb s k false →
 Calls Tryz.prog 69 #[.pointer (some ⟨rb, 0, none⟩), .int .i64 (D : Int)] w fun e w' => TrR W w rb s ((pVal true (6 - D) (rest s k)).map fun x => (x.1, sk x.2)) e w'
theorem infoPtr : (Tryz.prog.info? 66).map (fun i => (i.zero, i.size, i.bytes)) = some (some (.pointer none), 1, 8) := by kernel_rfl
theorem infoStr : (Tryz.prog.info? 9).map (fun i => (i.zero, i.size, i.bytes)) = some (some (.string ⟨#[]⟩), 1, 16) := by kernel_rfl
structure ArI (lo vb : Nat) (x : List (J × Nat)) (L : Value) (G : Nat → Prop) (w : World) : Prop where
 blk : w.heap[vb]? = some (vCells 91 0 [] (.slice none 0 0) L)
 row : w.ownsRow lo 66 1 L x.length (x.map fun p => ptr p.2)
 trs : ∀ j c, (j, c) ∈ x → RR w G j c
 old : ∀ k, G k → lo ≤ k ∧ k < w.heap.size ∧ k ≠ vb
 own : ∀ k, L.ownBlock = some k → ¬ G k ∧ k ≠ vb
theorem ArI.kp {lo vb : Nat} {x : List (J × Nat)} {L : Value} {G : Nat → Prop} (h : ArI lo vb x L G w) {S : Nat → Prop} (hk : Kp S w w') (hS : ∀ k, lo ≤ k → k < w.heap.size → ¬ S k) (hlo : lo ≤ vb) : ArI lo vb x L G w' :=
 ⟨(hk.block vb (lt_heap h.blk) (hS vb hlo (lt_heap h.blk))).trans h.blk, ownsRow_kp h.row hk (fun k e => by have := h.row.lt k e; exact hS k this.1 this.2),
  fun j c hm => (h.trs j c hm).frame (fun k hG => hk.block k (h.old k hG).2.1 (hS k (h.old k hG).1 (h.old k hG).2.1)) (fun _ h => h),
  fun k hG => ⟨(h.old k hG).1, Nat.lt_of_lt_of_le (h.old k hG).2.1 hk.size, (h.old k hG).2.2⟩, h.own⟩
theorem ArI.more {lo vb b hs : Nat} {x : List (J × Nat)} {L L' : Value} {G : Nat → Prop} {w2 w3 : World} {j : J} (h : ArI lo vb x L G w2) (hlt : ∀ k, G k → k < hs) (hvb : vb < hs) (hlo : lo ≤ hs) (hLt : ∀ k, L.ownBlock = some k → k < hs)
  (ht : RR w2 (fun c => hs ≤ c ∧ c < w2.heap.size) j b) (B1 : Kp (fun k => L.ownBlock = some k) w2 w3) (h3 : w3.heap[vb]? = some (vCells 91 0 [] (.slice none 0 0) L))
  (y1 : w3.ownsRow lo 66 1 L' (x.length + 1) ((x.map fun p => ptr p.2) ++ [ptr b])) (y3 : L'.ownBlock = L.ownBlock ∨ ∃ q, w2.heap.size ≤ q ∧ L'.ownBlock = some q) (hs2 : hs ≤ w2.heap.size) :
  ArI lo vb (x ++ [(j, b)]) L' (fun k => G k ∨ (hs ≤ k ∧ k < w2.heap.size)) (w3.setCell ⟨vb, 4, none⟩ L') := by
 have hz : (w3.setCell ⟨vb, 4, none⟩ L').heap.size = w3.heap.size := by simp [World.setCell]
 have own' : ∀ k, L'.ownBlock = some k → ¬ (G k ∨ (hs ≤ k ∧ k < w2.heap.size)) ∧ k ≠ vb := by
  intro k hk
  rcases y3 with e | ⟨q, hq, e⟩
  ·rw [e] at hk
   obtain ⟨q1, q2⟩ := h.own k hk
   have := hLt k hk
   exact ⟨by rintro (h | h); exact q1 h; omega, q2⟩
  ·rw [e] at hk
   injection hk with hk
   refine ⟨?_, by omega⟩
   rintro (hg | hg)
   ·have := hlt k hg; omega
   ·omega
 refine ⟨?_, ?_, ?_, ?_, own'⟩
 ·simp [World.setCell, Array.getElem?_modify, h3, vCells]
 ·rw [List.length_append, List.map_append]
  exact ownsRow_heap y1 fun k hk => heap_set_other (own' k hk).2
 ·intro i c hm
  rcases List.mem_append.1 hm with hm | hm
  ·refine (h.trs i c hm).frame (fun k hG => ?_) (fun k hG => Or.inl hG)
   rw [heap_set_other (h.old k hG).2.2, B1.block k (h.old k hG).2.1 (fun e => (h.own k e).1 hG)]
  ·obtain ⟨rfl, rfl⟩ : i = j ∧ c = b := by simpa using hm
   refine ht.frame (fun k hG => ?_) (fun k hG => Or.inr hG)
   rw [heap_set_other (by show k ≠ vb; omega), B1.block k hG.2 (fun e => by have := hLt k e; omega)]
 ·rintro k (hG | hG)
  ·have q := h.old k hG
   have := B1.size
   exact ⟨q.1, by omega, q.2.2⟩
  ·have := B1.size
   exact ⟨by omega, by omega, by omega⟩
end Go.Proofs.YtocligpfmfmihaaGreatDoor
namespace Go.Proofs.YtocligpfmfmihaaGreatDoor
open Go Go.RowKit
variable {W w w' : World} {rb k : Nat} {s : ByteArray} {bad : Bool}
theorem rest_len (s : ByteArray) (k : Nat) : (rest s k).length = s.size - k := by
 unfold rest
 rw [List.length_drop]
 simp
theorem rest_add (s : ByteArray) (k n : Nat) : rest s (k + n) = (rest s k).drop n := by
 unfold rest
 rw [List.drop_drop]
set_option maxRecDepth 20000 in
theorem word_yes (h : Rs W w rb s k false) (t : ByteArray) (ht : t.size ≤ 10) (r : List UInt8) (hp : rest s k = t.data.toList ++ r) :
  Calls Tryz.prog 125 #[.pointer (some ⟨rb, 0, none⟩), .string t] w fun e w' => e = .returned (.tuple #[]) ∧ Kp (· = rb) w w' ∧ ∃ k', Rs W w' rb s k' false ∧ rest s k' = r := by
 obtain ⟨c0, c1, c2, f1, f2, hb⟩ := h.facts
 have hsz := h.sz
 have hg := h.good rfl
 have hlen : s.size - k = t.size + r.length := by
  have := congrArg List.length hp
  rw [rest_len, List.length_append] at this
  rw [this]
  simp
 have hd : decide (((s.size : Int) - (k : Int)) < (t.size : Int)) = false := by simp; omega
 have he : s.extract k (k + t.size) = t := by
  have h1 := ext_rest s k t.size
  rw [hp, List.take_append_of_le_length (by simp), List.take_of_length_le (by simp)] at h1
  cases t
  cases he : s.extract k _
  rw [he] at h1
  simp at h1
  rw [h1]
 have hr : rest s (k + t.size) = r := by
  rw [rest_add, hp, List.drop_append_of_le_length (by simp), List.drop_of_length_le (by simp)]
  rfl
 have HR := hide hr
 clear hr hp
 have hkt : k + t.size ≤ s.size := by omega
 go_enter Tryz.func125, Tryz.ntmps125
 go_wp2
 go_quiet (fail)
 go_wp2
 go_end0
 exact ⟨rfl, Kp.setCell (p := ⟨rb, 1, none⟩) ((Kp.refl (· = rb) _).drewN _) (fun _ => rfl) _, k + t.size, (h.drewN _).at _ (by omega) (fun _ => hkt), HR.out⟩
set_option maxRecDepth 20000 in
theorem word_no (h : Rs W w rb s k false) (t : ByteArray) (ht : t.size ≤ 10) (hp : ∀ r, rest s k ≠ t.data.toList ++ r) :
  Calls Tryz.prog 125 #[.pointer (some ⟨rb, 0, none⟩), .string t] w fun e w' => e = .returned (.tuple #[]) ∧ Kp (· = rb) w w' ∧ Rs W w' rb s k true := by
 obtain ⟨c0, c1, c2, f1, f2, hb⟩ := h.facts
 have hsz := h.sz
 have hg := h.good rfl
 by_cases hl : s.size - k < t.size
 ·have hd : decide (((s.size : Int) - (k : Int)) < (t.size : Int)) = true := by simp; omega
  clear hp
  go_enter Tryz.func125, Tryz.ntmps125
  go_wp2
  go_quiet (fail)
  go_wp2
  refine bodyPost_ret (results_none rfl _ _ _) rfl ?_
  exact ⟨rfl, Kp.setCell (p := ⟨rb, 2, none⟩) ((Kp.refl (· = rb) _).drewN _) (fun _ => rfl) _, (h.drewN _).turn true (fun e => by cases e)⟩
 ·have hd : decide (((s.size : Int) - (k : Int)) < (t.size : Int)) = false := by simp; omega
  have he : ((s.extract k (k + t.size)).toList == t.toList) = false := by
   rw [beq_eq_false_iff_ne, ByteArray.toList_eq, ByteArray.toList_eq, ext_rest]
   intro e
   refine hp ((rest s k).drop t.size) ?_
   rw [← e, List.take_append_drop]
  clear hp
  go_enter Tryz.func125, Tryz.ntmps125
  go_wp2
  go_quiet (fail)
  go_wp2
  refine bodyPost_ret (results_none rfl _ _ _) rfl ?_
  exact ⟨rfl, Kp.setCell (p := ⟨rb, 2, none⟩) ((Kp.refl (· = rb) _).drewN _) (fun _ => rfl) _, (h.drewN _).turn true (fun e => by cases e)⟩
end Go.Proofs.YtocligpfmfmihaaGreatDoor
namespace Go.Proofs.YtocligpfmfmihaaGreatDoor
open Go Go.RowKit
variable {W w w' : World} {rb k : Nat} {s : ByteArray} {bad : Bool}
def hxs (l : List UInt8) : Nat → Nat × Bool
 | 0 => (0, true)
 | i + 1 => match hexV (l.getD i 0) with | some d => (16 * (hxs l i).1 + d, (hxs l i).2) | none => (16 * (hxs l i).1, false)
theorem hxs_lt (l : List UInt8) : ∀ i, (hxs l i).1 < 16 ^ i
 | 0 => by simp [hxs]
 | i + 1 => by
  have ih := hxs_lt l i
  rw [hxs, Nat.pow_succ]
  split
  ·rename_i d hd
   have := hexV_b16 hd
   show 16 * _ + d < _
   omega
  ·show 16 * _ < _
   omega
theorem hexV_0 : hexV 0 = none := by decide
theorem hxs_len (l : List UInt8) : ∀ i, (hxs l i).2 = true → i ≤ l.length
 | 0, _ => by omega
 | i + 1, h => by
  rw [hxs] at h
  split at h
  ·rename_i d hd
   have := hxs_len l i h
   rcases Nat.lt_or_ge i l.length with hl | hl
   ·omega
   ·rw [show l.getD i 0 = 0 by rw [List.getD, List.getElem?_eq_none (by omega)]; rfl, hexV_0] at hd
    cases hd
  ·cases h
theorem hex4_hxs (l : List UInt8) : hex4 l = if (hxs l 4).2 then some ((hxs l 4).1, l.drop 4) else none := by
 match l with
 | [] => rfl
 | [a] => simp [hex4, hxs, hexV_0]
 | [a, b] => simp [hex4, hxs, hexV_0]
 | [a, b, c] => simp [hex4, hxs, hexV_0]
 | a :: b :: c :: d :: t =>
  simp only [hex4, hxs, List.getD_cons_zero, List.getD_cons_succ]
  cases ha : hexV a <;> cases hb : hexV b <;> cases hc : hexV c <;> cases hd : hexV d <;> simp
  omega
theorem nxt_add (s : ByteArray) (k i : Nat) : nxt (rest s (k + i)) = (rest s k).getD i 0 := by
 rw [rest_add]
 unfold nxt
 generalize rest s k = l
 induction l generalizing i with
 | nil => cases i <;> rfl
 | cons a l ih =>
  cases i with
  | zero => rfl
  | succ i => simp only [List.drop_succ_cons, List.getD_cons_succ]; exact ih i
theorem hx_cases (c : UInt8) : (48 ≤ (c.toNat : Int) ∧ (c.toNat : Int) ≤ 57 ∧ hexV c = some (c.toNat - 48)) ∨
  (97 ≤ (c.toNat : Int) ∧ (c.toNat : Int) ≤ 102 ∧ hexV c = some (c.toNat - 97 + 10)) ∨ (65 ≤ (c.toNat : Int) ∧ (c.toNat : Int) ≤ 70 ∧ hexV c = some (c.toNat - 65 + 10)) ∨
  (¬ (48 ≤ (c.toNat : Int) ∧ (c.toNat : Int) ≤ 57) ∧ ¬ (97 ≤ (c.toNat : Int) ∧ (c.toNat : Int) ≤ 102) ∧ ¬ (65 ≤ (c.toNat : Int) ∧ (c.toNat : Int) ≤ 70) ∧ hexV c = none) := by
 have h48 : (48 : UInt8).toNat = 48 := rfl
 have h57 : (57 : UInt8).toNat = 57 := rfl
 have h97 : (97 : UInt8).toNat = 97 := rfl
 have h102 : (102 : UInt8).toNat = 102 := rfl
 have h65 : (65 : UInt8).toNat = 65 := rfl
 have h70 : (70 : UInt8).toNat = 70 := rfl
 unfold hexV
 simp only [UInt8.le_iff_toNat_le, h48, h57, h97, h102, h65, h70]
 by_cases a : 48 ≤ c.toNat ∧ c.toNat ≤ 57
 ·rw [if_pos a]; left; exact ⟨by omega, by omega, rfl⟩
 ·rw [if_neg a]
  by_cases b : 97 ≤ c.toNat ∧ c.toNat ≤ 102
  ·rw [if_pos b]; right; left; exact ⟨by omega, by omega, rfl⟩
  ·rw [if_neg b]
   by_cases d : 65 ≤ c.toNat ∧ c.toNat ≤ 70
   ·rw [if_pos d]; right; right; left; exact ⟨by omega, by omega, rfl⟩
   ·rw [if_neg d]; right; right; right; exact ⟨by omega, by omega, by omega, rfl⟩
set_option maxRecDepth 20000 in
set_option maxHeartbeats 1000000 in
theorem hex_c (h : Rs W w rb s k bad) (hk : k + 4 ≤ s.size + 9) :
  Calls Tryz.prog 216 #[.pointer (some ⟨rb, 0, none⟩)] w fun e w' => e = .returned (.int .i32 ((hxs (rest s k) 4).1 : Int)) ∧ Kp (· = rb) w w' ∧ Rs W w' rb s (k + 4) (bad || !(hxs (rest s k) 4).2) := by
 have hsz := h.sz
 go_enter Tryz.func216, Tryz.ntmps216
 go_wp2_with fail
 go_loopg [3, 4] 4 (fun g x i wr => ∃ n : Nat, g = 4 - n ∧ n ≤ 4 ∧ x = .int .i32 ((hxs (rest s k) n).1 : Int) ∧ i = .int .i64 (n : Int) ∧ Kp (· = rb) w wr ∧ Rs W wr rb s (k + n) (bad || !(hxs (rest s k) n).2))
 case atStart => exact ⟨0, rfl, by omega, rfl, rfl, Kp.refl _ _, by simpa [hxs] using h⟩
 case round =>
  obtain ⟨n, hg, hn, rfl, rfl, h2, h1⟩ := hrel
  have A := hide hg
  clear hg
  by_cases h4 : n = 4
  ·subst h4
   go_wp2
   go_ret
   exact ⟨rfl, h2, h1⟩
  ·have hX := hxs_lt (rest s k) n
   have hX2 : (hxs (rest s k) n).1 < 4096 := by
    have : n = 0 ∨ n = 1 ∨ n = 2 ∨ n = 3 := by omega
    rcases this with rfl | rfl | rfl | rfl <;> omega
   have hd : decide ((n : Int) < 4) = true := by simp; omega
   have hS : hxs (rest s k) (n + 1) = match hexV ((rest s k).getD n 0) with | some d => (16 * (hxs (rest s k) n).1 + d, (hxs (rest s k) n).2) | none => (16 * (hxs (rest s k) n).1, false) := rfl
   have hN := nxt_add s k n
   have hG := hxs_len (rest s k) (n + 1)
   rw [rest_len] at hG
   have hle := h1.le
   generalize hxs (rest s k) n = X at *
   obtain ⟨X, ok⟩ := X
   generalize (rest s k).getD n 0 = c at *
   have HS := hide (And.intro hS (And.intro hN hG))
   clear hS hN hX hG
   have hc := c.toNat_lt
   obtain ⟨c0, c1, c2, f1, f2, hb⟩ := h1.facts
   go_wp2_with fail
   refine (peek_c h1).mono ?_
   rintro e w' ⟨rfl, m, rfl⟩
   rw [HS.out.2.1]
   rcases hx_cases c with ⟨g1, g2, hv⟩ | ⟨g1, g2, hv⟩ | ⟨g1, g2, hv⟩ | ⟨g1, g2, g3, hv⟩
   ·have V := hide hv
    clear hv
    go_wp2
    go_roundg (4 - (n + 1))
    case measure => rw [A.out]; omega
    case rel =>
     have hS := HS.out.1
     rw [V.out] at hS
     have hG := HS.out.2.2
     refine ⟨n + 1, rfl, by omega, ?_, congrArg _ (by omega), Kp.setCell (p := ⟨rb, 1, none⟩) (h2.drewN _) (fun _ => rfl) _, ?_⟩
     ·rw [hS]
      exact congrArg _ (by show _ = ((16 * X + _ : Nat) : Int); omega)
     ·rw [hS] at hG ⊢
      rw [show ((k : Int) + (n : Int) + 1) = ((k + (n + 1) : Nat) : Int) by omega]
      exact (h1.drewN _).at (k + (n + 1)) (by omega) (fun e => by
       simp only [Bool.or_eq_false_iff, Bool.not_eq_false'] at e
       have := hG e.2
       omega)
   ·have V := hide hv
    clear hv
    go_wp2
    go_roundg (4 - (n + 1))
    case measure => rw [A.out]; omega
    case rel =>
     have hS := HS.out.1
     rw [V.out] at hS
     have hG := HS.out.2.2
     refine ⟨n + 1, rfl, by omega, ?_, congrArg _ (by omega), Kp.setCell (p := ⟨rb, 1, none⟩) (h2.drewN _) (fun _ => rfl) _, ?_⟩
     ·rw [hS]
      exact congrArg _ (by show _ = ((16 * X + _ : Nat) : Int); omega)
     ·rw [hS] at hG ⊢
      rw [show ((k : Int) + (n : Int) + 1) = ((k + (n + 1) : Nat) : Int) by omega]
      exact (h1.drewN _).at (k + (n + 1)) (by omega) (fun e => by
       simp only [Bool.or_eq_false_iff, Bool.not_eq_false'] at e
       have := hG e.2
       omega)
   ·have V := hide hv
    clear hv
    go_wp2
    go_roundg (4 - (n + 1))
    case measure => rw [A.out]; omega
    case rel =>
     have hS := HS.out.1
     rw [V.out] at hS
     have hG := HS.out.2.2
     refine ⟨n + 1, rfl, by omega, ?_, congrArg _ (by omega), Kp.setCell (p := ⟨rb, 1, none⟩) (h2.drewN _) (fun _ => rfl) _, ?_⟩
     ·rw [hS]
      exact congrArg _ (by show _ = ((16 * X + _ : Nat) : Int); omega)
     ·rw [hS] at hG ⊢
      rw [show ((k : Int) + (n : Int) + 1) = ((k + (n + 1) : Nat) : Int) by omega]
      exact (h1.drewN _).at (k + (n + 1)) (by omega) (fun e => by
       simp only [Bool.or_eq_false_iff, Bool.not_eq_false'] at e
       have := hG e.2
       omega)
   ·have V := hide hv
    clear hv
    go_wp2
    all_goals first | (exfalso; omega) | skip
    all_goals
     go_roundg (4 - (n + 1))
     case measure => rw [A.out]; omega
     case rel =>
      have hS := HS.out.1
      rw [V.out] at hS
      refine ⟨n + 1, rfl, by omega, ?_, congrArg _ (by omega), Kp.setCell (p := ⟨rb, 1, none⟩) (Kp.setCell (p := ⟨rb, 2, none⟩) (h2.drewN _) (fun _ => rfl) _) (fun _ => rfl) _, ?_⟩
      ·rw [hS]
       exact congrArg _ (by show _ = ((16 * X : Nat) : Int); omega)
      ·rw [hS]
       rw [show ((k : Int) + (n : Int) + 1) = ((k + (n + 1) : Nat) : Int) by omega]
       have hz := ((h1.drewN m).turn true (fun e => by cases e)).at (k + (n + 1)) (by omega) (fun e => by cases e)
       simpa using hz
end Go.Proofs.YtocligpfmfmihaaGreatDoor

import Derived.Test.YtocligpfmfmihaaGreatDoorRef9G
import Derived.Test.YtocligpfmfmihaaGreatDoorRef5
namespace Go.Proofs.YtocligpfmfmihaaGreatDoor
open Go Go.RowKit Go.Maps
variable {W w w' : World} {rb k : Nat} {s : ByteArray} {bad : Bool}
def pTxt (l : Bs) : Option (Bs × Bs) := match l with | [] => none | c :: t => if c = 34 then pStr true t else none
theorem rtext_g (h : Rs W w rb s k false) : Calls Tryz.prog 126 #[.pointer (some ⟨rb, 0, none⟩)] w fun e w' => TxR W w rb s (pTxt (rest s k)) e w' := by
 by_cases hl : ∃ t, rest s k = 34 :: t
 ·obtain ⟨t, hl⟩ := hl
  rw [hl]
  exact rtext_c h t hl
 ·refine (rtext_bad h (fun _ r e => hl ⟨r, e⟩)).mono ?_
  rintro e w1 ⟨rfl, K1, h1⟩
  refine txR_none ?_ K1 h1
  unfold pTxt
  cases hr : rest s k with
  | nil => rfl
  | cons c t =>
   rw [hr] at hl
   have : c ≠ 34 := by rintro rfl; exact hl ⟨t, rfl⟩
   simp [this]
theorem pMem_txt (pv : Bs → Option (J × Bs)) (a : List (Bs × J)) (l : Bs) : pMem true pv a l = match pTxt (sk l) with
  | none => none
  | some (k, r) => if (lookK k a).isSome then none else match sk r with | [] => none | c :: q => if c = 58 then (pv q).map fun x => (a ++ [(k, x.1)], x.2) else none := by
 unfold pMem pTxt
 cases sk l with
 | nil => rfl
 | cons c t =>
  by_cases h : c = 34
  ·simp only [if_pos h]
   cases pStr true t <;> rfl
  ·simp only [if_neg h]
theorem lookK_two (key : Bs) (x : List (Bs × J × Nat)) : (lookK key (x.map fun p => (p.1, p.2.1))).isSome = (lookK key (x.map fun p => (p.1, p.2.2))).isSome := by
 induction x with
 | nil => rfl
 | cons p x ih =>
  simp only [List.map_cons, lookK]
  by_cases h : p.1 = key
  ·simp [h]
  ·simp only [if_neg h]; exact ih
def VbC (W : World) : Prop := ∀ (rb : Nat) (s : ByteArray) (k : Nat) (w : World) (D : Nat), D ≤ 6 → Rs W w rb s k true →
 Calls Tryz.prog 69 #[.pointer (some ⟨rb, 0, none⟩), .int .i64 (D : Int)] w fun e w' => TrR W w rb s none e w'
structure ObI (lo vb : Nat) (x : List (Bs × J × Nat)) (K L : Value) (G : Nat → Prop) (w : World) : Prop where
 blk : w.heap[vb]? = some (vCells 123 0 [] K L)
 rowK : w.ownsRow lo 9 1 K x.length (x.map fun p => .string ⟨p.1.toArray⟩)
 rowL : w.ownsRow lo 66 1 L x.length (x.map fun p => ptr p.2.2)
 trs : ∀ a j c, (a, j, c) ∈ x → RR w G j c
 nod : Nod (x.map fun p => (p.1, p.2.1))
 old : ∀ k, G k → lo ≤ k ∧ k < w.heap.size ∧ k ≠ vb
 ownK : ∀ k, K.ownBlock = some k → ¬ G k ∧ k ≠ vb
 ownL : ∀ k, L.ownBlock = some k → ¬ G k ∧ k ≠ vb
 kl : ∀ k, K.ownBlock = some k → L.ownBlock ≠ some k
theorem ObI.kp {lo vb : Nat} {x : List (Bs × J × Nat)} {K L : Value} {G : Nat → Prop} (h : ObI lo vb x K L G w) {S : Nat → Prop} (hk : Kp S w w') (hS : ∀ k, lo ≤ k → k < w.heap.size → ¬ S k) (hlo : lo ≤ vb) : ObI lo vb x K L G w' :=
 ⟨(hk.block vb (lt_heap h.blk) (hS vb hlo (lt_heap h.blk))).trans h.blk, ownsRow_kp h.rowK hk (fun k e => by have := h.rowK.lt k e; exact hS k this.1 this.2), ownsRow_kp h.rowL hk (fun k e => by have := h.rowL.lt k e; exact hS k this.1 this.2),
  fun a j c hm => (h.trs a j c hm).frame (fun k hG => hk.block k (h.old k hG).2.1 (hS k (h.old k hG).1 (h.old k hG).2.1)) (fun _ h => h), h.nod,
  fun k hG => ⟨(h.old k hG).1, Nat.lt_of_lt_of_le (h.old k hG).2.1 hk.size, (h.old k hG).2.2⟩, h.ownK, h.ownL, h.kl⟩
theorem ObI.tree {lo vb : Nat} {x : List (Bs × J × Nat)} {K L : Value} {G : Nat → Prop} (h : ObI lo vb x K L G w) (hlo : lo ≤ vb) : RR w (fun c => lo ≤ c ∧ c < w.heap.size) (.obj (ofL (x.map fun p => (p.1, p.2.1)))) vb :=
 .obj x K L ⟨hlo, lt_heap h.blk⟩ h.blk (ownsRow_zero h.rowK) (ownsRow_zero h.rowL) (fun k hk => h.rowK.lt k hk) (fun k hk => h.rowL.lt k hk) h.nod (fun a j c hm => (h.trs a j c hm).frame (fun _ _ => rfl) (fun k hk => ⟨(h.old k hk).1, (h.old k hk).2.1⟩))
structure ObK (lo vb : Nat) (x : List (Bs × J × Nat)) (v : Bs) (K L : Value) (G : Nat → Prop) (w : World) : Prop where
 blk : w.heap[vb]? = some (vCells 123 0 [] K L)
 rowK : w.ownsRow lo 9 1 K (x.length + 1) ((x.map fun p => .string ⟨p.1.toArray⟩) ++ [.string ⟨v.toArray⟩])
 rowL : w.ownsRow lo 66 1 L x.length (x.map fun p => ptr p.2.2)
 trs : ∀ a j c, (a, j, c) ∈ x → RR w G j c
 old : ∀ k, G k → lo ≤ k ∧ k < w.heap.size ∧ k ≠ vb
 ownK : ∀ k, K.ownBlock = some k → ¬ G k ∧ k ≠ vb
 ownL : ∀ k, L.ownBlock = some k → ¬ G k ∧ k ≠ vb
 kl : ∀ k, K.ownBlock = some k → L.ownBlock ≠ some k
theorem ObI.key {lo vb : Nat} {x : List (Bs × J × Nat)} {v : Bs} {K L K' : Value} {G : Nat → Prop} {w5 w6 : World} (h : ObI lo vb x K L G w5) (B : Kp (fun k => K.ownBlock = some k) w5 w6)
  (y1 : w6.ownsRow lo 9 1 K' (x.length + 1) ((x.map fun p => .string ⟨p.1.toArray⟩) ++ [.string ⟨v.toArray⟩])) (y3 : K'.ownBlock = K.ownBlock ∨ ∃ q, w5.heap.size ≤ q ∧ K'.ownBlock = some q) :
  ObK lo vb x v K' L G (w6.setCell ⟨vb, 3, none⟩ K') := by
 have hvb := lt_heap h.blk
 have own' : ∀ k, K'.ownBlock = some k → (¬ G k ∧ k ≠ vb) ∧ L.ownBlock ≠ some k := by
  intro k hk
  rcases y3 with e | ⟨q, hq, e⟩
  ·rw [e] at hk
   exact ⟨h.ownK k hk, h.kl k hk⟩
  ·rw [e] at hk
   injection hk with hk
   refine ⟨⟨fun hg => by have := h.old k hg; omega, by omega⟩, fun hl => by have := (h.rowL.lt k hl).2; omega⟩
 have h6 : w6.heap[vb]? = some (vCells 123 0 [] K L) := (B.block vb hvb (fun e => (h.ownK _ e).2 rfl)).trans h.blk
 refine ⟨?_, ?_, ?_, ?_, ?_, fun k hk => (own' k hk).1, h.ownL, fun k hk => (own' k hk).2⟩
 ·simp [World.setCell, Array.getElem?_modify, h6, vCells]
 ·exact ownsRow_heap y1 fun k hk => heap_set_other (own' k hk).1.2
 ·refine ownsRow_heap h.rowL fun k hk => ?_
  rw [heap_set_other (h.ownL k hk).2, B.block k (h.rowL.lt k hk).2 (fun e => h.kl k e hk)]
 ·intro a j c hm
  refine (h.trs a j c hm).frame (fun k hG => ?_) (fun _ hG => hG)
  rw [heap_set_other (h.old k hG).2.2, B.block k (h.old k hG).2.1 (fun e => (h.ownK k e).1 hG)]
 ·intro k hG
  have q := h.old k hG
  have := B.size
  exact ⟨q.1, by simp [World.setCell]; omega, q.2.2⟩
theorem ObK.more {lo vb b : Nat} {x : List (Bs × J × Nat)} {v : Bs} {K L K' L' : Value} {G : Nat → Prop} {wv w5 w6 w7 w8 : World} {j : J} (h : ObK lo vb x v K' L G w7) (A4 : ObI lo vb x K L G wv)
  (ht : RR w5 (fun c => wv.heap.size ≤ c ∧ c < w5.heap.size) j b) (hnl : lookK v (x.map fun p => (p.1, p.2.1)) = none) (hf : ∀ k, wv.heap.size ≤ k → k < w5.heap.size → w7.heap[k]? = w5.heap[k]?) (hs5 : wv.heap.size ≤ w5.heap.size) (hg : w5.heap.size < w6.heap.size) (hs7 : w7.heap.size = w6.heap.size)
  (B : Kp (fun k => L.ownBlock = some k) w7 w8) (h8 : w8.heap[vb]? = some (vCells 123 0 [] K' L))
  (y1 : w8.ownsRow lo 66 1 L' (x.length + 1) ((x.map fun p => ptr p.2.2) ++ [ptr b])) (y3 : L'.ownBlock = L.ownBlock ∨ ∃ q, w6.heap.size ≤ q ∧ L'.ownBlock = some q) (_hlo : lo ≤ vb)
  (hKn : ∀ k, K'.ownBlock = some k → ¬ (wv.heap.size ≤ k ∧ k < w5.heap.size)) :
  ObI lo vb (x ++ [(v, j, b)]) K' L' (fun k => G k ∨ (wv.heap.size ≤ k ∧ k < w5.heap.size)) (w8.setCell ⟨vb, 4, none⟩ L') := by
 have hvb := lt_heap A4.blk
 have own' : ∀ k, L'.ownBlock = some k → (¬ (G k ∨ (wv.heap.size ≤ k ∧ k < w5.heap.size)) ∧ k ≠ vb) ∧ K'.ownBlock ≠ some k := by
  intro k hk
  rcases y3 with e | ⟨q, hq, e⟩
  ·rw [e] at hk
   have := (A4.rowL.lt k hk).2
   exact ⟨⟨by rintro (q | q); exact (h.ownL k hk).1 q; omega, (h.ownL k hk).2⟩, fun e => h.kl k e hk⟩
  ·rw [e] at hk
   injection hk with hk
   refine ⟨⟨?_, by omega⟩, fun e => by have := (h.rowK.lt k e).2; omega⟩
   rintro (q | q)
   ·have := (h.old k q).2.1; omega
   ·omega
 refine ⟨?_, ?_, ?_, ?_, ?_, ?_, ?_, fun k hk => (own' k hk).1, fun k hk e => (own' k e).2 hk⟩
 ·simp [World.setCell, Array.getElem?_modify, h8, vCells]
 ·rw [List.length_append, List.map_append]
  refine ownsRow_heap h.rowK fun k hk => ?_
  rw [heap_set_other (h.ownK k hk).2, B.block k (h.rowK.lt k hk).2 (fun e => h.kl k hk e)]
 ·rw [List.length_append, List.map_append]
  exact ownsRow_heap y1 fun k hk => heap_set_other (own' k hk).1.2
 ·intro a i c hm
  rcases List.mem_append.1 hm with hm | hm
  ·refine (h.trs a i c hm).frame (fun k hG => ?_) (fun k hG => Or.inl hG)
   rw [heap_set_other (h.old k hG).2.2, B.block k (h.old k hG).2.1 (fun e => (h.ownL k e).1 hG)]
  ·obtain ⟨rfl, rfl, rfl⟩ : a = v ∧ i = j ∧ c = b := by simpa using hm
   refine ht.frame (fun k hG => ?_) (fun k hG => Or.inr hG)
   rw [heap_set_other (by show k ≠ vb; omega), B.block k (by omega) (fun e => by have := (A4.rowL.lt k e).2; omega), hf k hG.1 hG.2]
 ·rw [List.map_append]
  exact (nod_snoc _ v j).2 ⟨A4.nod, hnl⟩
 ·have := B.size
  have hz : (w8.setCell ⟨vb, 4, none⟩ L').heap.size = w8.heap.size := by simp [World.setCell]
  rintro k (hG | hG)
  ·have q := h.old k hG
   exact ⟨q.1, by omega, q.2.2⟩
  ·have := (A4.rowL).1
   exact ⟨by omega, by omega, by omega⟩
 ·intro k hk
  refine ⟨?_, (h.ownK k hk).2⟩
  rintro (q | q)
  ·exact (h.ownK k hk).1 q
  ·exact hKn k hk q
set_option maxRecDepth 20000 in
set_option maxHeartbeats 2000000 in
theorem robj_bad (h : Rs W w rb s k bad) (D : Int) (hD : bad = true ∨ 6 < D) :
  Calls Tryz.prog 128 #[.pointer (some ⟨rb, 0, none⟩), .int .i64 D] w fun e w' => TrR W w rb s none e w' := by
 have h0 : ∀ o, Rs W (w.alloc o) rb s k bad := fun o => h.keep (S := fun _ => False) ((Kp.refl _ _).alloc _) (by simp) (by simp)
 go_enter Tryz.func128, Tryz.ntmps128
 go_wp2_with fail
 refine (rword_c (h0 _) ⟨#[123]⟩ (by decide)).mono ?_
 rintro e w1 ⟨rfl, K1, k1, bad1, h1, _, hw⟩
 have hbd : bad1 = true ∨ 6 < D := by
  rcases hw with ⟨b1, b2, _⟩ | ⟨b1, _⟩
  ·rcases hD with e | e
   ·rw [b1] at e; cases e
   ·exact Or.inr e
  ·exact Or.inl b1
 clear hw hD
 replace K1 := ((Kp.refl (· = rb) w).alloc _).trans K1
 go_wp2_with fail
 refine (rblanks_c h1).mono ?_
 rintro e w2 ⟨rfl, K2, k2, h2, _⟩
 replace K2 := K1.trans K2
 have h3 := h2.turn true (fun e => by cases e)
 have K3 : Kp (· = rb) w (w2.setCell ⟨rb, 2, none⟩ (.bool true)) := Kp.setCell (p := ⟨rb, 2, none⟩) K2 (fun _ => rfl) _
 obtain ⟨c0, c1, c2, f1, f2, hb⟩ := h2.facts
 obtain ⟨d0, d1, d2, g1, g2, hb'⟩ := h3.facts
 cases bad1 with
 | true =>
  go_wp2_with fail
  refine (word_bad h3 ⟨#[125]⟩).mono ?_
  rintro e w4 ⟨rfl, K4, h4⟩
  go_wp2
  go_ret
  exact trR_none rfl (K3.trans K4) h4
 | false =>
  have hD : 6 < D := hbd.resolve_left (by simp)
  go_wp2_with fail
  refine (word_bad h3 ⟨#[125]⟩).mono ?_
  rintro e w4 ⟨rfl, K4, h4⟩
  go_wp2
  go_ret
  exact trR_none rfl (K3.trans K4) h4
set_option maxRecDepth 20000 in
set_option maxHeartbeats 4000000 in
theorem robj_c (D : Nat) (hD : D ≤ 6) (hv : VlC W D) (hvb : VbC W) (h : Rs W w rb s k false) (t : Bs) (hl : rest s k = 123 :: t) :
  Calls Tryz.prog 128 #[.pointer (some ⟨rb, 0, none⟩), .int .i64 (D : Int)] w fun e w' =>
   TrR W w rb s ((pSev (pMem true (pVal true (6 - D))) 125 [] t).map fun x => (.obj (ofL x.1), x.2)) e w' := by
 have hsz := h.sz
 have hrb := (h.facts).2.2.2.2.2
 have hWlo := h.old.size
 obtain ⟨i0, hi, hz0, hz1, hz2⟩ := info_parts infoPtr
 obtain ⟨i1, hj, hy0, hy1, hy2⟩ := info_parts infoStr
 have hVB : Hid (VbC W) := hvb
 clear hvb
 have hD' : decide (6 < (D : Int)) = false := by simp; omega
 have h0 : ∀ o, Rs W (w.alloc o) rb s k false := fun o => h.keep (S := fun _ => False) ((Kp.refl _ _).alloc _) (by simp) (by simp)
 have HL := hide hl
 clear hl
 go_enter Tryz.func128, Tryz.ntmps128
 go_wp2_with fail
 have I0 := heap_alloc_new w (vCells 123 0 [] (.slice none 0 0) (.slice none 0 0))
 refine (word_yes (h0 _) ⟨#[123]⟩ (by decide) t HL.out).mono ?_
 rintro e w1 ⟨rfl, K1, k1, h1, r1⟩
 have I1 : w1.heap[w.heap.size]? = some (vCells 123 0 [] (.slice none 0 0) (.slice none 0 0)) := (K1.block _ (by simp) (by omega)).trans I0
 replace K1 := ((Kp.refl (· = rb) w).alloc _).trans K1
 have R1 := hide r1
 clear r1 I0 h0 HL
 go_wp2_with fail
 refine (rblanks_c h1).mono ?_
 rintro e w2 ⟨rfl, K2, k2, h2, r2⟩
 have I2 : w2.heap[w.heap.size]? = some (vCells 123 0 [] (.slice none 0 0) (.slice none 0 0)) := (K2.block _ (lt_heap I1) (by omega)).trans I1
 replace K2 := K1.trans K2
 have R2 : Hid (rest s k2 = sk t) := by rw [R1.out] at r2; exact r2
 clear r2 I1 K1 h1 R1
 have h3 := h2.turn false (fun e => h2.good rfl)
 have K3 : Kp (· = rb) w (w2.setCell ⟨rb, 2, none⟩ (.bool false)) := Kp.setCell (p := ⟨rb, 2, none⟩) K2 (fun _ => rfl) _
 have I3 : (w2.setCell ⟨rb, 2, none⟩ (.bool false)).heap[w.heap.size]? = some (vCells 123 0 [] (.slice none 0 0) (.slice none 0 0)) := (heap_set_other (by show w.heap.size ≠ rb; omega)).trans I2
 obtain ⟨c0, c1, c2, f1, f2, hb⟩ := h2.facts
 obtain ⟨d0, d1, d2, g1, g2, hb'⟩ := h3.facts
 go_wp2_with fail
 refine (peek_c h3).mono ?_
 rintro e w4 ⟨rfl, m, rfl⟩
 rw [R2.out]
 have A3 : ObI w.heap.size w.heap.size [] (.slice none 0 0) (.slice none 0 0) (fun _ => False) ((w2.setCell ⟨rb, 2, none⟩ (.bool false)).drewN m) :=
  ⟨I3, World.ownsRow_nil _ _ _ _, World.ownsRow_nil _ _ _ _, fun _ _ _ h => (by cases h), List.nodup_nil, fun _ h => False.elim h, fun k hk => (by simp [Value.ownBlock] at hk), fun k hk => (by simp [Value.ownBlock] at hk), fun k hk => (by simp [Value.ownBlock] at hk)⟩
 have hlo : w.heap.size ≤ w.heap.size := Nat.le_refl _
 by_cases e125 : nxt (sk t) = 125
 ·obtain ⟨q, hq⟩ := nxt_eq e125 (by decide)
  rw [e125]
  have HQ := hide hq
  clear e125 hq c0 c1 c2 f1 f2 hb
  go_wp2_with fail
  refine (word_yes (h3.drewN m) ⟨#[125]⟩ (by decide) q (by rw [R2.out]; exact HQ.out)).mono ?_
  rintro e w5 ⟨rfl, K5, k5, h5, r5⟩
  have A5 := A3.kp K5 (fun k _ _ => by omega) hlo
  have R5 := hide r5
  clear r5
  go_wp2
  go_ret
  refine trR_some (r := q) ?_ ((K3.drewN m).trans K5) h5 R5.out (A5.tree hlo)
  rw [pSev, if_pos (by rw [HQ.out]; rfl), HQ.out]
  rfl
 ·have n125 := u8n e125
  simp only [UInt8.reduceToNat, Int.cast_ofNat_Int] at n125
  have hshr := pMem_shr (u := true) (pv := pVal true (6 - D)) (pVal_le (6 - D))
  have hT : pSev (pMem true (pVal true (6 - D))) 125 [] t = match pMem true (pVal true (6 - D)) [] (sk t) with | some (b, r) => pMore (pMem true (pVal true (6 - D))) 125 ((sk t).length + 1) b r | none => none := by
   have hpe := pMem_sk true (pVal true (6 - D)) [] t
   rw [pSev, if_neg, ← hpe]
   ·cases hp : pMem true (pVal true (6 - D)) [] (sk t) with
    | none => rfl
    | some z =>
     obtain ⟨b, r⟩ := z
     have := hshr _ _ _ _ hp
     exact pMore_fuel hshr _ _ _ _ (by omega) (by omega)
   ·intro e
    apply e125
    cases hs : sk t with
    | nil => rw [hs] at e; cases e
    | cons a l => rw [hs] at e; simp at e; rw [e]; rfl
  generalize hTT : pSev (pMem true (pVal true (6 - D))) 125 [] t = T at *
  have HT := hide (And.intro hT hTT)
  have SHR := hide hshr
  clear hshr
  have hlen := rest_len s k2
  rw [R2.out] at hlen
  clear hT hTT e125 c0 c1 c2 f1 f2 hb
  have h4 := h3.drewN m
  have K4 := K3.drewN m
  clear h3 K3 I3 I2 d0 d1 d2 g1 g2 hb' h2 K2
  go_wp2_with fail
  generalize (w2.setCell ⟨rb, 2, none⟩ (.bool false)).drewN m = w4 at *
  go_loopg [] ((rest s k2).length + 1) (fun g wr => ∃ k' bad', g = (if bad' then 0 else (rest s k').length + 1) ∧ Rs W wr rb s k' bad' ∧ Kp (· = rb) w wr ∧ (bad' = true → T = none) ∧
   (bad' = false → ∃ x K L G n, ObI w.heap.size w.heap.size x K L G wr ∧ x.length + (rest s k').length ≤ 600 ∧ (rest s k').length < n ∧ T = match pMem true (pVal true (6 - D)) (x.map fun p => (p.1, p.2.1)) (rest s k') with | some (b, r) => pMore (pMem true (pVal true (6 - D))) 125 n b r | none => none))
  case atStart => exact ⟨k2, false, rfl, h4, K4, fun e => (by cases e), fun _ => ⟨[], _, _, _, (sk t).length + 1, A3, by rw [R2.out]; simp; omega, by rw [R2.out]; omega, by rw [R2.out]; exact HT.out.1⟩⟩
  case round =>
   clear h4 K4 A3 n125
   obtain ⟨k', bad', hg, h1, K1, p1, p2⟩ := hrel
   obtain ⟨c0, c1, c2, f1, f2, hb⟩ := h1.facts
   cases bad' with
   | true =>
    have P := hide (p1 rfl)
    clear p1 p2
    go_wp2_with fail
    refine (word_bad h1 ⟨#[125]⟩).mono ?_
    rintro e w5 ⟨rfl, K5, h5⟩
    go_wp2
    go_ret
    exact trR_none (by rw [HT.out.2, P.out]; rfl) (K1.trans K5) h5
   | false =>
    obtain ⟨x, K, L, G, n, A1, hx, hn, hC⟩ := p2 rfl
    rw [pMem_txt] at hC
    have C := hide (And.intro hg hC)
    clear p1 p2 hg hC
    go_wp2_with fail
    refine (rblanks_c h1).mono ?_
    rintro e w2 ⟨rfl, K2, kb, h2, rb2⟩
    have A2 := A1.kp K2 (fun k _ _ => by omega) hlo
    replace K2 := K1.trans K2
    clear A1 K1 h1 c0 c1 c2 f1 f2 hb
    have RB2 := hide rb2
    clear rb2
    go_wp2_with fail
    refine (rtext_g h2).mono ?_
    rintro e w3 ⟨v, rfl, hvl, K3, kt, badt, h3, ht⟩
    have A3 := A2.kp K3 (fun k _ _ => by omega) hlo
    replace K3 := K2.trans K3
    have HTX := hide ht
    clear ht A2 K2 h2
    go_wp2_with fail
    refine (rblanks_c h3).mono ?_
    rintro e w3b ⟨rfl, K3b, kc, h3b, rb3⟩
    have A3b := A3.kp K3b (fun k _ _ => by omega) hlo
    replace K3b := K3.trans K3b
    have RB3 := hide rb3
    clear rb3 A3 K3 h3
    go_wp2_with fail
    refine (rword_c h3b ⟨#[58]⟩ (by decide)).mono ?_
    rintro e w4 ⟨rfl, K4, kd, badd, h4, _, hw4⟩
    have A4 := A3b.kp K4 (fun k _ _ => by omega) hlo
    replace K4 := K3b.trans K4
    clear A3b K3b h3b
    have tn4 : badd = true → T = none := by
     intro e
     rcases hw4 with ⟨_, b2, _⟩ | ⟨_, _, b5⟩
     ·rw [e] at b2; cases b2
     ·rw [C.out.2, ← RB2.out]
      cases hp : pTxt (rest s kb) with
      | none => rfl
      | some z =>
       obtain ⟨key, r⟩ := z
       have q := HTX.out
       rw [hp] at q
       obtain ⟨q1, q2, q3⟩ := q
       rcases b5 with b5 | b5
       ·rw [q1] at b5; cases b5
       ·rw [RB3.out, q3] at b5
        simp only
        split
        ·rename_i heq
         split at heq
         ·cases heq
         ·split at heq
          ·cases heq
          ·rename_i hs
           split at heq
           ·rename_i hc
            subst hc
            exact absurd hs (b5 _)
           ·cases heq
        ·rfl
    have ts4 : badd = false → ∃ r q, pTxt (sk (rest s k')) = some (v, r) ∧ sk r = 58 :: q ∧ rest s kd = q ∧ q.length < (rest s k').length := by
     intro e
     rcases hw4 with ⟨b1, _, q, p1, p2⟩ | ⟨b5, _⟩
     ·cases hp : pTxt (rest s kb) with
      | none =>
       have q := HTX.out
       rw [hp, b1] at q
       cases q
      | some z =>
       obtain ⟨key, r⟩ := z
       have qq := HTX.out
       rw [hp] at qq
       obtain ⟨q1, rfl, q3⟩ := qq
       have hq : sk r = 58 :: q := by rw [← q3, ← RB3.out]; exact p1
       refine ⟨r, q, by rw [← RB2.out]; exact hp, hq, p2, ?_⟩
       have l1 := sk_len r
       rw [hq] at l1
       have l2 : r.length < (rest s kb).length := by
        unfold pTxt at hp
        cases hr : rest s kb with
        | nil => rw [hr] at hp; cases hp
        | cons c tt =>
         rw [hr] at hp
         simp only at hp
         split at hp
         ·have := pStr_len tt.length (Nat.le_refl _) hp
          simp only [List.length_cons]
          omega
         ·cases hp
       have l3 := sk_len (rest s k')
       rw [← RB2.out] at l3
       simp only [List.length_cons] at l1
       omega
     ·rw [e] at b5; cases b5
    have T4 := hide (And.intro tn4 ts4)
    clear tn4 ts4 hw4
    obtain ⟨c0, c1, c2, f1, f2, hb⟩ := h4.facts
    cases badd with
    | true =>
     go_wp2
     go_ret
     exact trR_none (by rw [HT.out.2, T4.out.1 (by simp)]; rfl) K4 h4
    | false =>
     have hgc := get_c (m := x.map fun p => (p.1, p.2.2)) A4.blk (by simpa [List.map_map, Function.comp_def] using A4.rowK) (by simpa [List.map_map, Function.comp_def] using A4.rowL) (by simp; omega) v
     have HG := hide hgc
     clear hgc
     go_wp2_with fail
     refine HG.out.mono ?_
     rintro e wq ⟨rfl, rfl⟩
     clear HG
     have two := lookK_two v x
     cases hlk : lookK v (x.map fun p => (p.1, p.2.2)) with
     | none =>
      rw [hlk] at two
      simp only [Option.isSome_none, Option.isSome_eq_false_iff, Option.isNone_iff_eq_none] at two
      have TW := hide two
      clear two hlk
      simp only [Option.map_none]
      have h4t := h4.turn false (fun _ => h4.good rfl)
      have A4t := A4.kp (Kp.setCell (p := ⟨rb, 2, none⟩) (Kp.refl (· = rb) wq) (fun _ => rfl) (.bool false)) (fun k _ _ => by omega) hlo
      have K4t : Kp (· = rb) w (wq.setCell ⟨rb, 2, none⟩ (.bool false)) := Kp.setCell (p := ⟨rb, 2, none⟩) K4 (fun _ => rfl) _
      go_wp2_with fail
      refine (hv rb s kd _ h4t).mono ?_
      rintro e w5 ⟨b, rfl, K5, k5, bad5, h5, ho⟩
      have TS : Hid ((bad5 = true → T = none) ∧ (bad5 = false → ∃ j r, rest s k5 = sk r ∧ RR w5 (fun c => (wq.setCell ⟨rb, 2, none⟩ (.bool false)).heap.size ≤ c ∧ c < w5.heap.size) j b ∧ r.length ≤ (rest s k').length ∧ lookK v (x.map fun p => (p.1, p.2.1)) = none ∧ T = pMore (pMem true (pVal true (6 - D))) 125 n ((x.map fun p => (p.1, p.2.1)) ++ [(v, j)]) r)) := by
       obtain ⟨r, q, q1, q2, q3, q4⟩ := T4.out.2 (by simp)
       have hC := C.out.2
       rw [q1] at hC
       simp only [q2, TW.out, Option.isSome_none, if_true, Bool.false_eq_true, if_false] at hC
       rw [q3] at ho
       constructor
       ·intro e
        cases hp : pVal true (6 - D) q with
        | none => rw [hC, hp]; rfl
        | some z => rw [hp, e] at ho; cases ho.1
       ·intro e
        cases hp : pVal true (6 - D) q with
        | none => rw [hp, e] at ho; cases ho
        | some z =>
         obtain ⟨j, r'⟩ := z
         rw [hp] at ho
         have := pVal_le _ _ _ _ hp
         refine ⟨j, r', ho.2.1, ho.2.2, by omega, TW.out, ?_⟩
         rw [hC, hp]
         rfl
      clear ho T4 c0 c1 c2 f1 f2 hb
      generalize hwv : wq.setCell ⟨rb, 2, none⟩ (.bool false) = wv at *
      clear hwv A4 K4 h4
      have A4 := A4t
      have K4 := K4t
      clear A4t K4t h4t
      obtain ⟨c0, c1, c2, f1, f2, hb⟩ := h5.facts
      have A5 := A4.kp K5 (fun k _ _ => by omega) hlo
      have hsz5 := K5.size
      obtain ⟨v0, v1, v2, v3, v4, z0, z1, z2, z3, z4, hvb⟩ := vfacts A5.blk
      go_wp2_with (at_builtin; refine wpList_append_own_at _ rfl _ _ 36 rfl w.heap.size 9 i1 (.string ⟨#[]⟩) 1 16 Tryz.underlying36 hj hy0 hy1 hy2 rfl (by decide) _ _ _ rfl (A5.rowK.alloc _) ⟨w5.heap.size, 0, none⟩ 1 1 [.string ⟨v.toArray⟩] rfl rfl ?c1 ?c2 ?c3 ?c4 ?c5 ?_)
      case c1 => exact cell_one_new _ _ _
      case c2 => intro u hu; simp at hu; subst hu; rfl
      case c3 => unfold maxLen; omega
      case c4 => omega
      case c5 => simp; omega
      intro v' w6 y1 y2 _ y3
      obtain ⟨g', cap', rfl⟩ := own_shape y1
      have B6 : Kp (fun k => K.ownBlock = some k) w5 w6 := ((Kp.refl _ _).alloc _).grown y2 (fun k hk _ => hk)
      have hgr : w5.heap.size < w6.heap.size := by have := y2.size; simp at this; omega
      have hy3 := own_at1 y3
      have A7 := A5.key B6 y1 hy3
      have hKn : ∀ k, (Value.slice (some ⟨g', 0, none⟩) (x.length + 1) cap').ownBlock = some k → ¬ (wv.heap.size ≤ k ∧ k < w5.heap.size) := by
       intro k hk
       rcases hy3 with e | ⟨q, hq, e⟩
       ·rw [e] at hk
        have := (A4.rowK.lt k hk).2
        omega
       ·rw [e] at hk
        injection hk with hk
        omega
      have KN := hide hKn
      clear hKn
      have S6 : Rs W w6 rb s k5 bad5 := h5.keep B6 (fun i hi => by have := (A5.rowK.lt i hi).1; omega) (fun hi => by have := (A5.rowK.lt rb hi).1; omega)
      have S7 : Rs W (w6.setCell ⟨w.heap.size, 3, none⟩ (.slice (some ⟨g', 0, none⟩) (x.length + 1) cap')) rb s k5 bad5 :=
       S6.keep (S := fun k => k = w.heap.size) (Kp.setCell (p := ⟨w.heap.size, 3, none⟩) (Kp.refl (fun k => k = w.heap.size) w6) (fun _ => rfl) _) (fun i hi => by omega) (by omega)
      have K7 : Kp (· = rb) w (w6.setCell ⟨w.heap.size, 3, none⟩ (.slice (some ⟨g', 0, none⟩) (x.length + 1) cap')) :=
       Kp.setCell (p := ⟨w.heap.size, 3, none⟩) ((K4.trans K5).and B6 (fun i hi e => by have := (A5.rowK.lt i e).1; omega)) (fun hlt => by exact absurd hlt (by show ¬ w.heap.size < _; omega)) _
      have F7 : ∀ k, wv.heap.size ≤ k → k < w5.heap.size → (w6.setCell ⟨w.heap.size, 3, none⟩ (.slice (some ⟨g', 0, none⟩) (x.length + 1) cap')).heap[k]? = w5.heap[k]? := by
       intro k q1 q2
       rw [heap_set_other (by show k ≠ w.heap.size; have := lt_heap A4.blk; omega), B6.block k q2 (fun e => by have := (A4.rowK.lt k e).2; omega)]
      have hs7 : (w6.setCell ⟨w.heap.size, 3, none⟩ (.slice (some ⟨g', 0, none⟩) (x.length + 1) cap')).heap.size = w6.heap.size := by simp [World.setCell]
      have i6 : w6.heap[w.heap.size]? = some (vCells 123 0 [] K L) := (B6.block _ hvb (fun e => (A5.ownK _ e).2 rfl)).trans A5.blk
      clear v0 v1 v2 v3 v4 z0 z1 z2 z3 z4 hvb c0 c1 c2 f1 f2 hb hy3 y1 y2 y3 B6 S6
      obtain ⟨v0, v1, v2, v3, v4, z0, z1, z2, z3, z4, hvb⟩ := vfacts i6
      clear i6
      have W7 := hide (And.intro F7 hs7)
      clear F7
      obtain ⟨v0', v1', v2', v3', v4', z0', z1', z2', z3', z4', hvb'⟩ := vfacts A7.blk
      go_wp2_with (at_builtin; refine wpList_append_own_at _ rfl _ _ 78 rfl w.heap.size 66 i0 (.pointer none) 1 8 Tryz.underlying78 hi hz0 hz1 hz2 rfl (by decide) _ _ _ rfl (A7.rowL.alloc _) ⟨w6.heap.size, 0, none⟩ 1 1 [ptr b] rfl rfl ?d1 ?d2 ?d3 ?d4 ?d5 ?_)
      case d1 => rw [← hs7]; exact cell_one_new _ _ _
      case d2 => intro u hu; simp at hu; subst hu; rfl
      case d3 => unfold maxLen; omega
      case d4 => omega
      case d5 => simp; omega
      intro v' w8 y1 y2 _ y3
      obtain ⟨g2, cap2, rfl⟩ := own_shape y1
      have B8 : Kp (fun k => L.ownBlock = some k) (w6.setCell ⟨w.heap.size, 3, none⟩ (.slice (some ⟨g', 0, none⟩) (x.length + 1) cap')) w8 := ((Kp.refl _ _).alloc _).grown y2 (fun k hk _ => hk)
      have hy3 := own_at1 y3
      have i8 : w8.heap[w.heap.size]? = some (vCells 123 0 [] (.slice (some ⟨g', 0, none⟩) (x.length + 1) cap') L) := (B8.block _ hvb' (fun e => (A7.ownL _ e).2 rfl)).trans A7.blk
      have more : ∀ j, RR w5 (fun c => wv.heap.size ≤ c ∧ c < w5.heap.size) j b → lookK v (x.map fun p => (p.1, p.2.1)) = none → ObI w.heap.size w.heap.size (x ++ [(v, j, b)]) (.slice (some ⟨g', 0, none⟩) (x.length + 1) cap') (.slice (some ⟨g2, 0, none⟩) (x.length + 1) cap2) (fun k => G k ∨ (wv.heap.size ≤ k ∧ k < w5.heap.size)) (w8.setCell ⟨w.heap.size, 4, none⟩ (.slice (some ⟨g2, 0, none⟩) (x.length + 1) cap2)) :=
       fun j ht hnl => A7.more A4 ht hnl W7.out.1 hsz5 hgr hs7 B8 i8 y1 hy3 hlo KN.out
      have S9 : Rs W (w8.setCell ⟨w.heap.size, 4, none⟩ (.slice (some ⟨g2, 0, none⟩) (x.length + 1) cap2)) rb s k5 bad5 :=
       (S7.keep B8 (fun i hi => by have := (A7.rowL.lt i hi).1; omega) (fun hi => by have := (A7.rowL.lt rb hi).1; omega)).keep (S := fun k => k = w.heap.size) (Kp.setCell (p := ⟨w.heap.size, 4, none⟩) (Kp.refl (fun k => k = w.heap.size) w8) (fun _ => rfl) _) (fun i hi => by omega) (by omega)
      have K9 : Kp (· = rb) w (w8.setCell ⟨w.heap.size, 4, none⟩ (.slice (some ⟨g2, 0, none⟩) (x.length + 1) cap2)) :=
       Kp.setCell (p := ⟨w.heap.size, 4, none⟩) (K7.and B8 (fun i hi e => by have := (A7.rowL.lt i e).1; omega)) (fun hlt => by exact absurd hlt (by show ¬ w.heap.size < _; omega)) _
      have Z := hide (And.intro more TS.out)
      clear more TS hy3 y1 y2 y3 B8 v0 v1 v2 v3 v4 z0 z1 z2 z3 z4 hvb v0' v1' v2' v3' v4' z0' z1' z2' z3' z4' hvb' W7 hs7
      obtain ⟨v0, v1, v2, v3, v4, z0, z1, z2, z3, z4, hvb⟩ := vfacts i8
      go_wp2_with fail
      clear v0 v1 v2 v3 v4 z0 z1 z2 z3 z4 hvb i8
      refine (peek_c S9).mono ?_
      rintro e wA ⟨rfl, m8, rfl⟩
      have SA := S9.drewN m8
      have KA := K9.drewN m8
      have more8 : ∀ j, RR w5 (fun c => wv.heap.size ≤ c ∧ c < w5.heap.size) j b → lookK v (x.map fun p => (p.1, p.2.1)) = none → ObI w.heap.size w.heap.size (x ++ [(v, j, b)]) (.slice (some ⟨g', 0, none⟩) (x.length + 1) cap') (.slice (some ⟨g2, 0, none⟩) (x.length + 1) cap2) (fun k => G k ∨ (wv.heap.size ≤ k ∧ k < w5.heap.size)) ((w8.setCell ⟨w.heap.size, 4, none⟩ (.slice (some ⟨g2, 0, none⟩) (x.length + 1) cap2)).drewN m8) :=
       fun j ht hnl => (Z.out.1 j ht hnl).kp ((Kp.refl (fun _ => False) _).drewN m8) (by simp) hlo
      have Y := hide (And.intro more8 Z.out.2)
      clear more8 Z S9 K9
      generalize ((w8.setCell ⟨w.heap.size, 4, none⟩ (.slice (some ⟨g2, 0, none⟩) (x.length + 1) cap2)).drewN m8) = wA at *
      by_cases e44 : nxt (rest s k5) = 44
      ·obtain ⟨q, hq⟩ := nxt_eq e44 (by decide)
       rw [e44]
       have HQ := hide hq
       clear e44 hq
       go_wp2_with fail
       refine (rword_c SA ⟨#[44]⟩ (by decide)).mono ?_
       rintro e wB ⟨rfl, KB, k9, bad9, h9, _, hw⟩
       have HW := hide hw
       clear hw
       go_wp2
       cases bad9 with
       | true =>
        go_roundg 0
        case measure => rw [C.out.1]; simp
        case rel =>
         refine ⟨k9, true, rfl, h9, KA.trans KB, fun _ => ?_, fun e => (by cases e)⟩
         rcases HW.out with ⟨_, b2, _⟩ | ⟨_, _, b5⟩
         ·cases b2
         ·rcases b5 with b5 | b5
          ·exact Y.out.2.1 b5
          ·exact absurd HQ.out (b5 q)
       | false =>
        rcases HW.out with ⟨b1, _, r', p1, p2⟩ | ⟨b5, _⟩
        ·obtain ⟨j, r, t1, t2, t3, t4, t5⟩ := Y.out.2.2 b1
         have hr' : sk r = 44 :: r' := by rw [← t1]; exact p1
         have hsk := sk_len r
         rw [hr'] at hsk
         simp only [List.length_cons] at hsk
         go_roundg ((rest s k9).length + 1)
         case measure => rw [C.out.1, p2]; simp; omega
         case rel =>
          refine ⟨k9, false, by simp, h9, KA.trans KB, fun e => (by cases e), fun _ => ⟨x ++ [(v, j, b)], _, _, _, n - 1, (Y.out.1 j t2 t4).kp KB (fun k _ _ => by omega) hlo, ?_, ?_, ?_⟩⟩
          ·rw [p2, List.length_append]; simp; omega
          ·rw [p2]; omega
          ·obtain ⟨n', rfl⟩ : ∃ n', n = n' + 1 := ⟨n - 1, by omega⟩
           rw [t5, p2, pMore, hr']
           simp
           cases pMem true (pVal true (6 - D)) ((x.map fun p => (p.1, p.2.1)) ++ [(v, j)]) r' <;> rfl
        ·cases b5
      ·have n44 := u8n e44
       simp only [UInt8.reduceToNat, Int.cast_ofNat_Int] at n44
       have n44' : (((nxt (rest s k5)).toNat : Int) != 44) = true := by simp only [bne, n44]; rfl
       have N44 := hide e44
       clear e44
       go_wp2_with fail
       refine (rword_c SA ⟨#[125]⟩ (by decide)).mono ?_
       rintro e wB ⟨rfl, KB, k9, bad9, h9, _, hw⟩
       have HW := hide hw
       clear hw
       go_wp2
       go_ret
       cases bad9 with
       | true =>
        refine trR_none ?_ (KA.trans KB) h9
        rw [HT.out.2]
        rcases HW.out with ⟨_, b2, _⟩ | ⟨_, _, b5⟩
        ·cases b2
        ·cases hb5 : bad5 with
         | true => rw [Y.out.2.1 hb5]; rfl
         | false =>
          rcases b5 with b5 | b5
          ·rw [hb5] at b5; cases b5
          ·obtain ⟨j, r, t1, t2, t3, t4, t5⟩ := Y.out.2.2 hb5
           obtain ⟨n', rfl⟩ : ∃ n', n = n' + 1 := ⟨n - 1, by omega⟩
           rw [t5, pMore]
           have h44 := N44.out
           rw [t1] at h44 b5
           cases hs : sk r with
           | nil => rfl
           | cons a l =>
            rw [hs] at h44 b5
            have h1 : a ≠ 44 := h44
            have h2 : a ≠ 125 := by rintro rfl; exact b5 l rfl
            simp [h1, h2]
       | false =>
        rcases HW.out with ⟨b1, _, r', p1, p2⟩ | ⟨b5, _⟩
        ·obtain ⟨j, r, t1, t2, t3, t4, t5⟩ := Y.out.2.2 b1
         have hr' : sk r = 125 :: r' := by rw [← t1]; exact p1
         obtain ⟨n', rfl⟩ : ∃ n', n = n' + 1 := ⟨n - 1, by omega⟩
         have tr := ((Y.out.1 j t2 t4).kp KB (fun k _ _ => by omega) hlo).tree hlo
         refine trR_some ?_ (KA.trans KB) h9 p2 tr
         rw [HT.out.2, t5, pMore, hr']
         simp
        ·cases b5
     | some cc =>
      rw [hlk] at two
      simp only [Option.isSome_some] at two
      have TW := hide two
      clear two hlk
      simp only [Option.map_some]
      have h4t := h4.turn true (fun e => by cases e)
      have A4t := A4.kp (Kp.setCell (p := ⟨rb, 2, none⟩) (Kp.refl (· = rb) wq) (fun _ => rfl) (.bool true)) (fun k _ _ => by omega) hlo
      have K4t : Kp (· = rb) w (wq.setCell ⟨rb, 2, none⟩ (.bool true)) := Kp.setCell (p := ⟨rb, 2, none⟩) K4 (fun _ => rfl) _
      go_wp2_with fail
      refine (hVB.out rb s kd _ D hD h4t).mono ?_
      rintro e w5 ⟨b, rfl, K5, k5, bad5, h5, ho⟩
      have TS : Hid ((bad5 = true → T = none) ∧ (bad5 = false → ∃ j r, rest s k5 = sk r ∧ RR w5 (fun c => (wq.setCell ⟨rb, 2, none⟩ (.bool true)).heap.size ≤ c ∧ c < w5.heap.size) j b ∧ r.length ≤ (rest s k').length ∧ lookK v (x.map fun p => (p.1, p.2.1)) = none ∧ T = pMore (pMem true (pVal true (6 - D))) 125 n ((x.map fun p => (p.1, p.2.1)) ++ [(v, j)]) r)) := by
       obtain ⟨r, q, q1, q2, q3, q4⟩ := T4.out.2 (by simp)
       have hC := C.out.2
       rw [q1] at hC
       simp only [TW.out, if_true] at hC
       exact ⟨fun _ => hC, fun e => by rw [e] at ho; cases ho⟩
      clear ho T4 c0 c1 c2 f1 f2 hb
      generalize hwv : wq.setCell ⟨rb, 2, none⟩ (.bool true) = wv at *
      clear hwv A4 K4 h4
      have A4 := A4t
      have K4 := K4t
      clear A4t K4t h4t
      obtain ⟨c0, c1, c2, f1, f2, hb⟩ := h5.facts
      have A5 := A4.kp K5 (fun k _ _ => by omega) hlo
      have hsz5 := K5.size
      obtain ⟨v0, v1, v2, v3, v4, z0, z1, z2, z3, z4, hvb⟩ := vfacts A5.blk
      go_wp2_with (at_builtin; refine wpList_append_own_at _ rfl _ _ 36 rfl w.heap.size 9 i1 (.string ⟨#[]⟩) 1 16 Tryz.underlying36 hj hy0 hy1 hy2 rfl (by decide) _ _ _ rfl (A5.rowK.alloc _) ⟨w5.heap.size, 0, none⟩ 1 1 [.string ⟨v.toArray⟩] rfl rfl ?c1 ?c2 ?c3 ?c4 ?c5 ?_)
      case c1 => exact cell_one_new _ _ _
      case c2 => intro u hu; simp at hu; subst hu; rfl
      case c3 => unfold maxLen; omega
      case c4 => omega
      case c5 => simp; omega
      intro v' w6 y1 y2 _ y3
      obtain ⟨g', cap', rfl⟩ := own_shape y1
      have B6 : Kp (fun k => K.ownBlock = some k) w5 w6 := ((Kp.refl _ _).alloc _).grown y2 (fun k hk _ => hk)
      have hgr : w5.heap.size < w6.heap.size := by have := y2.size; simp at this; omega
      have hy3 := own_at1 y3
      have A7 := A5.key B6 y1 hy3
      have hKn : ∀ k, (Value.slice (some ⟨g', 0, none⟩) (x.length + 1) cap').ownBlock = some k → ¬ (wv.heap.size ≤ k ∧ k < w5.heap.size) := by
       intro k hk
       rcases hy3 with e | ⟨q, hq, e⟩
       ·rw [e] at hk
        have := (A4.rowK.lt k hk).2
        omega
       ·rw [e] at hk
        injection hk with hk
        omega
      have KN := hide hKn
      clear hKn
      have S6 : Rs W w6 rb s k5 bad5 := h5.keep B6 (fun i hi => by have := (A5.rowK.lt i hi).1; omega) (fun hi => by have := (A5.rowK.lt rb hi).1; omega)
      have S7 : Rs W (w6.setCell ⟨w.heap.size, 3, none⟩ (.slice (some ⟨g', 0, none⟩) (x.length + 1) cap')) rb s k5 bad5 :=
       S6.keep (S := fun k => k = w.heap.size) (Kp.setCell (p := ⟨w.heap.size, 3, none⟩) (Kp.refl (fun k => k = w.heap.size) w6) (fun _ => rfl) _) (fun i hi => by omega) (by omega)
      have K7 : Kp (· = rb) w (w6.setCell ⟨w.heap.size, 3, none⟩ (.slice (some ⟨g', 0, none⟩) (x.length + 1) cap')) :=
       Kp.setCell (p := ⟨w.heap.size, 3, none⟩) ((K4.trans K5).and B6 (fun i hi e => by have := (A5.rowK.lt i e).1; omega)) (fun hlt => by exact absurd hlt (by show ¬ w.heap.size < _; omega)) _
      have F7 : ∀ k, wv.heap.size ≤ k → k < w5.heap.size → (w6.setCell ⟨w.heap.size, 3, none⟩ (.slice (some ⟨g', 0, none⟩) (x.length + 1) cap')).heap[k]? = w5.heap[k]? := by
       intro k q1 q2
       rw [heap_set_other (by show k ≠ w.heap.size; have := lt_heap A4.blk; omega), B6.block k q2 (fun e => by have := (A4.rowK.lt k e).2; omega)]
      have hs7 : (w6.setCell ⟨w.heap.size, 3, none⟩ (.slice (some ⟨g', 0, none⟩) (x.length + 1) cap')).heap.size = w6.heap.size := by simp [World.setCell]
      have i6 : w6.heap[w.heap.size]? = some (vCells 123 0 [] K L) := (B6.block _ hvb (fun e => (A5.ownK _ e).2 rfl)).trans A5.blk
      clear v0 v1 v2 v3 v4 z0 z1 z2 z3 z4 hvb c0 c1 c2 f1 f2 hb hy3 y1 y2 y3 B6 S6
      obtain ⟨v0, v1, v2, v3, v4, z0, z1, z2, z3, z4, hvb⟩ := vfacts i6
      clear i6
      have W7 := hide (And.intro F7 hs7)
      clear F7
      obtain ⟨v0', v1', v2', v3', v4', z0', z1', z2', z3', z4', hvb'⟩ := vfacts A7.blk
      go_wp2_with (at_builtin; refine wpList_append_own_at _ rfl _ _ 78 rfl w.heap.size 66 i0 (.pointer none) 1 8 Tryz.underlying78 hi hz0 hz1 hz2 rfl (by decide) _ _ _ rfl (A7.rowL.alloc _) ⟨w6.heap.size, 0, none⟩ 1 1 [ptr b] rfl rfl ?d1 ?d2 ?d3 ?d4 ?d5 ?_)
      case d1 => rw [← hs7]; exact cell_one_new _ _ _
      case d2 => intro u hu; simp at hu; subst hu; rfl
      case d3 => unfold maxLen; omega
      case d4 => omega
      case d5 => simp; omega
      intro v' w8 y1 y2 _ y3
      obtain ⟨g2, cap2, rfl⟩ := own_shape y1
      have B8 : Kp (fun k => L.ownBlock = some k) (w6.setCell ⟨w.heap.size, 3, none⟩ (.slice (some ⟨g', 0, none⟩) (x.length + 1) cap')) w8 := ((Kp.refl _ _).alloc _).grown y2 (fun k hk _ => hk)
      have hy3 := own_at1 y3
      have i8 : w8.heap[w.heap.size]? = some (vCells 123 0 [] (.slice (some ⟨g', 0, none⟩) (x.length + 1) cap') L) := (B8.block _ hvb' (fun e => (A7.ownL _ e).2 rfl)).trans A7.blk
      have more : ∀ j, RR w5 (fun c => wv.heap.size ≤ c ∧ c < w5.heap.size) j b → lookK v (x.map fun p => (p.1, p.2.1)) = none → ObI w.heap.size w.heap.size (x ++ [(v, j, b)]) (.slice (some ⟨g', 0, none⟩) (x.length + 1) cap') (.slice (some ⟨g2, 0, none⟩) (x.length + 1) cap2) (fun k => G k ∨ (wv.heap.size ≤ k ∧ k < w5.heap.size)) (w8.setCell ⟨w.heap.size, 4, none⟩ (.slice (some ⟨g2, 0, none⟩) (x.length + 1) cap2)) :=
       fun j ht hnl => A7.more A4 ht hnl W7.out.1 hsz5 hgr hs7 B8 i8 y1 hy3 hlo KN.out
      have S9 : Rs W (w8.setCell ⟨w.heap.size, 4, none⟩ (.slice (some ⟨g2, 0, none⟩) (x.length + 1) cap2)) rb s k5 bad5 :=
       (S7.keep B8 (fun i hi => by have := (A7.rowL.lt i hi).1; omega) (fun hi => by have := (A7.rowL.lt rb hi).1; omega)).keep (S := fun k => k = w.heap.size) (Kp.setCell (p := ⟨w.heap.size, 4, none⟩) (Kp.refl (fun k => k = w.heap.size) w8) (fun _ => rfl) _) (fun i hi => by omega) (by omega)
      have K9 : Kp (· = rb) w (w8.setCell ⟨w.heap.size, 4, none⟩ (.slice (some ⟨g2, 0, none⟩) (x.length + 1) cap2)) :=
       Kp.setCell (p := ⟨w.heap.size, 4, none⟩) (K7.and B8 (fun i hi e => by have := (A7.rowL.lt i e).1; omega)) (fun hlt => by exact absurd hlt (by show ¬ w.heap.size < _; omega)) _
      have Z := hide (And.intro more TS.out)
      clear more TS hy3 y1 y2 y3 B8 v0 v1 v2 v3 v4 z0 z1 z2 z3 z4 hvb v0' v1' v2' v3' v4' z0' z1' z2' z3' z4' hvb' W7 hs7
      obtain ⟨v0, v1, v2, v3, v4, z0, z1, z2, z3, z4, hvb⟩ := vfacts i8
      go_wp2_with fail
      clear v0 v1 v2 v3 v4 z0 z1 z2 z3 z4 hvb i8
      refine (peek_c S9).mono ?_
      rintro e wA ⟨rfl, m8, rfl⟩
      have SA := S9.drewN m8
      have KA := K9.drewN m8
      have more8 : ∀ j, RR w5 (fun c => wv.heap.size ≤ c ∧ c < w5.heap.size) j b → lookK v (x.map fun p => (p.1, p.2.1)) = none → ObI w.heap.size w.heap.size (x ++ [(v, j, b)]) (.slice (some ⟨g', 0, none⟩) (x.length + 1) cap') (.slice (some ⟨g2, 0, none⟩) (x.length + 1) cap2) (fun k => G k ∨ (wv.heap.size ≤ k ∧ k < w5.heap.size)) ((w8.setCell ⟨w.heap.size, 4, none⟩ (.slice (some ⟨g2, 0, none⟩) (x.length + 1) cap2)).drewN m8) :=
       fun j ht hnl => (Z.out.1 j ht hnl).kp ((Kp.refl (fun _ => False) _).drewN m8) (by simp) hlo
      have Y := hide (And.intro more8 Z.out.2)
      clear more8 Z S9 K9
      generalize ((w8.setCell ⟨w.heap.size, 4, none⟩ (.slice (some ⟨g2, 0, none⟩) (x.length + 1) cap2)).drewN m8) = wA at *
      by_cases e44 : nxt (rest s k5) = 44
      ·obtain ⟨q, hq⟩ := nxt_eq e44 (by decide)
       rw [e44]
       have HQ := hide hq
       clear e44 hq
       go_wp2_with fail
       refine (rword_c SA ⟨#[44]⟩ (by decide)).mono ?_
       rintro e wB ⟨rfl, KB, k9, bad9, h9, _, hw⟩
       have HW := hide hw
       clear hw
       go_wp2
       cases bad9 with
       | true =>
        go_roundg 0
        case measure => rw [C.out.1]; simp
        case rel =>
         refine ⟨k9, true, rfl, h9, KA.trans KB, fun _ => ?_, fun e => (by cases e)⟩
         rcases HW.out with ⟨_, b2, _⟩ | ⟨_, _, b5⟩
         ·cases b2
         ·rcases b5 with b5 | b5
          ·exact Y.out.2.1 b5
          ·exact absurd HQ.out (b5 q)
       | false =>
        rcases HW.out with ⟨b1, _, r', p1, p2⟩ | ⟨b5, _⟩
        ·obtain ⟨j, r, t1, t2, t3, t4, t5⟩ := Y.out.2.2 b1
         have hr' : sk r = 44 :: r' := by rw [← t1]; exact p1
         have hsk := sk_len r
         rw [hr'] at hsk
         simp only [List.length_cons] at hsk
         go_roundg ((rest s k9).length + 1)
         case measure => rw [C.out.1, p2]; simp; omega
         case rel =>
          refine ⟨k9, false, by simp, h9, KA.trans KB, fun e => (by cases e), fun _ => ⟨x ++ [(v, j, b)], _, _, _, n - 1, (Y.out.1 j t2 t4).kp KB (fun k _ _ => by omega) hlo, ?_, ?_, ?_⟩⟩
          ·rw [p2, List.length_append]; simp; omega
          ·rw [p2]; omega
          ·obtain ⟨n', rfl⟩ : ∃ n', n = n' + 1 := ⟨n - 1, by omega⟩
           rw [t5, p2, pMore, hr']
           simp
           cases pMem true (pVal true (6 - D)) ((x.map fun p => (p.1, p.2.1)) ++ [(v, j)]) r' <;> rfl
        ·cases b5
      ·have n44 := u8n e44
       simp only [UInt8.reduceToNat, Int.cast_ofNat_Int] at n44
       have n44' : (((nxt (rest s k5)).toNat : Int) != 44) = true := by simp only [bne, n44]; rfl
       have N44 := hide e44
       clear e44
       go_wp2_with fail
       refine (rword_c SA ⟨#[125]⟩ (by decide)).mono ?_
       rintro e wB ⟨rfl, KB, k9, bad9, h9, _, hw⟩
       have HW := hide hw
       clear hw
       go_wp2
       go_ret
       cases bad9 with
       | true =>
        refine trR_none ?_ (KA.trans KB) h9
        rw [HT.out.2]
        rcases HW.out with ⟨_, b2, _⟩ | ⟨_, _, b5⟩
        ·cases b2
        ·cases hb5 : bad5 with
         | true => rw [Y.out.2.1 hb5]; rfl
         | false =>
          rcases b5 with b5 | b5
          ·rw [hb5] at b5; cases b5
          ·obtain ⟨j, r, t1, t2, t3, t4, t5⟩ := Y.out.2.2 hb5
           obtain ⟨n', rfl⟩ : ∃ n', n = n' + 1 := ⟨n - 1, by omega⟩
           rw [t5, pMore]
           have h44 := N44.out
           rw [t1] at h44 b5
           cases hs : sk r with
           | nil => rfl
           | cons a l =>
            rw [hs] at h44 b5
            have h1 : a ≠ 44 := h44
            have h2 : a ≠ 125 := by rintro rfl; exact b5 l rfl
            simp [h1, h2]
       | false =>
        rcases HW.out with ⟨b1, _, r', p1, p2⟩ | ⟨b5, _⟩
        ·obtain ⟨j, r, t1, t2, t3, t4, t5⟩ := Y.out.2.2 b1
         have hr' : sk r = 125 :: r' := by rw [← t1]; exact p1
         obtain ⟨n', rfl⟩ : ∃ n', n = n' + 1 := ⟨n - 1, by omega⟩
         have tr := ((Y.out.1 j t2 t4).kp KB (fun k _ _ => by omega) hlo).tree hlo
         refine trR_some ?_ (KA.trans KB) h9 p2 tr
         rw [HT.out.2, t5, pMore, hr']
         simp
        ·cases b5
end Go.Proofs.YtocligpfmfmihaaGreatDoor

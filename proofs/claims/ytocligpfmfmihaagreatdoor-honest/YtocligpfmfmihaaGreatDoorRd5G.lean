import Derived.Test.YtocligpfmfmihaaGreatDoorRd3G
import Derived.Laws.IdiomStrings
import Derived.Lib.RuneBytes
import Derived.OwnWalk
import Derived.Test.YtocligpfmfmihaaGreatDoorSizeG
import Derived.Maps.OwnSet
import Derived.Maps.Own
import Derived.Deep.RegionLaw
import Derived.Maps.AppendAt
namespace Go.Proofs.YtocligpfmfmihaaGreatDoor
open Go Go.RowKit
variable {S : Nat → Prop} {w w' : World}
theorem ownsRow_kp {B : Nat} {e : TypeId} {sz n : Nat} {v : Value} {xs : List Value} (h : w.ownsRow B e sz v n xs) (hk : Kp S w w') (hS : ∀ k, v.ownBlock = some k → ¬ S k) : w'.ownsRow B e sz v n xs := by
 obtain ⟨h1, h2⟩ := h
 refine ⟨h1, ?_⟩
 rcases h2 with h2 | ⟨g, cap, cur, rfl, hg, hh, r⟩
 ·exact Or.inl h2
 ·have hb : g < w.heap.size := by
   rcases Nat.lt_or_ge g w.heap.size with h' | h'
   ·exact h'
   ·rw [Array.getElem?_eq_none h'] at hh; cases hh
  exact Or.inr ⟨g, cap, cur, rfl, hg, by rw [hk.block g hb (hS g rfl)]; exact hh, r⟩
theorem Kp.grown {a : World} {row : Option Nat} (h : Kp S a w) (hg : w.grownBy w' row) (hrow : ∀ k, row = some k → k < a.heap.size → S k) : Kp S a w' :=
 ⟨hg.os.trans h.os, hg.tape.trans h.tape, hg.output.trans h.output, Nat.le_trans h.size hg.size, fun k hk hs =>
  (hg.block k (Nat.lt_of_lt_of_le hk h.size) (fun e => hs (hrow k e.symm hk))).trans (h.block k hk hs)⟩
theorem Kp.and {a b : World} {T : Nat → Prop} (h : Kp S a b) (k : Kp T b w) (hT : ∀ i, i < a.heap.size → T i → S i) : Kp S a w :=
 ⟨k.os.trans h.os, k.tape.trans h.tape, k.output.trans h.output, Nat.le_trans h.size k.size, fun i hi hs => (k.block i (Nat.lt_of_lt_of_le hi h.size) (fun x => hs (hT i hi x))).trans (h.block i hi hs)⟩
theorem St.keep {W : World} {rb k d : Nat} {s : ByteArray} (h : St W w rb s k d) (hk : Kp S w w') (h1 : ∀ i, S i → W.heap.size ≤ i) (h2 : ¬ S rb) : St W w' rb s k d :=
 ⟨h.glob, h.old.trans ⟨hk.os, hk.tape, hk.output, hk.size, fun i hi => hk.block i (Nat.lt_of_lt_of_le hi h.old.size) (fun x => by have := h1 i x; omega)⟩, h.rdr.kp hk h2, h.ge, h.le, h.sz⟩
theorem info8 : (Tryz.prog.info? 5).map (fun i => (i.zero, i.size, i.bytes)) = some (some (.int .u8 0), 1, 1) := by kernel_rfl
theorem own_string {B n : Nat} {v : Value} {o : List UInt8} (h : w.ownsRow B 5 1 v n (Lib.byteCells o)) : (convert 124 9 v).run Tryz.prog w = .ok (.string ⟨o.toArray⟩) w := by
 obtain ⟨h1, h2⟩ := h
 have hn : o.length = n := by simpa [Lib.byteCells] using h1
 rcases h2 with ⟨rfl, rfl⟩ | ⟨g, cap, cur, rfl, hg, hh, r1, r2, r3, r4⟩
 ·have : o = [] := List.eq_nil_of_length_eq_zero hn
  subst this
  rw [run_convert_bytes_string w 124 9 5 none 0 0 Tryz.underlying124 Tryz.underlying5 Tryz.underlying9]
  simp [Conv.bytesToString]
  rfl
 ·subst hn
  refine run_convert_bytes_back w 124 9 5 ⟨g, 0, none⟩ cap o Tryz.underlying124 Tryz.underlying5 Tryz.underlying9 ?_
  intro j hj
  have e : cur[j]? = some (Value.int .u8 (o[j].toNat : Int)) := by
   have : (cur.toList.take (o.length * 1))[j]? = (Lib.byteCells o)[j]? := by rw [r4]
   rw [List.getElem?_take_of_lt (by omega)] at this
   simpa [Lib.byteCells, hj] using this
  have ea : (⟨g, 0, none⟩ : Addr).add j = ⟨g, j, none⟩ := by
   unfold Addr.add
   by_cases h0 : j = 0 <;> simp [h0]
  rw [ea]
  simp [World.cell?, hh, e]
theorem pStr_step {l : List UInt8} {c : UInt8} {t o r : List UInt8} (h : l = c :: t) (hc : c ≠ 34) (hh : ch false c t = some (o, r)) : pStr false l = (pStr false r).map fun x => (o ++ x.1, x.2) := by
 subst h; rw [pStr_cons, if_neg hc, hh]
theorem pStr_bad {l : List UInt8} {c : UInt8} {t : List UInt8} (h : l = c :: t) (hc : c ≠ 34) (hh : ch false c t = none) : pStr false l = none := by
 subst h; rw [pStr_cons, if_neg hc, hh]
theorem enc_eq (x : Nat) (hx : okR x) : encL x = Lib.encodeRune (x : Int) := by
 unfold Lib.encodeRune
 have hx' := hx
 unfold okR at hx'
 rcases encL_cases x hx with ⟨h1, e⟩ | ⟨h1, h2, e⟩ | ⟨h1, h2, e⟩ | ⟨h1, e⟩ <;> rw [e]
 ·rw [Lib.encodeRuneZ_one (by omega) (by omega)]
  simp
 ·rw [Lib.encodeRuneZ_two (by omega) (by omega)]
  simp only [List.map_cons, List.map_nil]
  repeat' (first | rfl | omega | congr 1)
 ·rw [Lib.encodeRuneZ_three (by omega)]
  simp only [List.map_cons, List.map_nil]
  repeat' (first | rfl | omega | congr 1)
 ·rw [Lib.encodeRuneZ_four (by omega) (by omega)]
  simp only [List.map_cons, List.map_nil]
  repeat' (first | rfl | omega | congr 1)
theorem byteCells_app (a b : List UInt8) : Lib.byteCells (a ++ b) = Lib.byteCells a ++ Lib.byteCells b := by simp [Lib.byteCells]
theorem byteCells_len (a : List UInt8) : (Lib.byteCells a).length = a.length := by simp [Lib.byteCells]
set_option maxRecDepth 8000 in
theorem quoted_c (W : World) (rb : Nat) (s : ByteArray) (k d : Nat) (w : World) (hr : St W w rb s k d) (t0 : List UInt8) (hl : rest s k = 34 :: t0) :
  Calls Tryz.prog 161 #[.pointer (some ⟨rb, 0, none⟩)] w fun e w' =>
   Res W rb s d w (pStr false t0) (fun _ o v => v = .string ⟨o.toArray⟩ ∧ o.length ≤ 2400) e w' := by
 have hsz := hr.sz
 obtain ⟨g1, g2, g3, g4⟩ := nxt_cons hl
 have H := hide (And.intro g2 g3)
 clear hl g2 g3 g4
 obtain ⟨i0, hi, hz0, hz1, hz2⟩ := info_parts info8
 go_enter Tryz.func161, Tryz.ntmps161
 go_wp2_with fail
 refine (next_o W rb s k d _ hr 34 H.out.1).mono ?_
 rintro e w1 ⟨rfl, h1, h2⟩
 obtain ⟨c0, c1, c2, f1, f2, hb⟩ := h1.rdr.facts
 have hrw : rb < w.heap.size := hr.rdr.facts.2.2.2.2.2
 go_wp2_with fail
 go_loopg [3] (s.size - (k + 1)) (fun g v wr => ∃ (k' : Nat) (o : List UInt8), g = s.size - k' ∧ k < k' ∧ o.length ≤ 4 * k' ∧ St W wr rb s k' d ∧ Kp (· = rb) w wr ∧ wr.ownsRow w.heap.size 5 1 v o.length (Lib.byteCells o) ∧ pStr false t0 = (pStr false (rest s k')).map fun x => (o ++ x.1, x.2))
 case atStart =>
  refine ⟨k + 1, [], rfl, by omega, by simp, h1.at (k + 1) g1, Kp.setCell (p := ⟨rb, 1, none⟩) h2 (fun _ => rfl) _, World.ownsRow_nil _ _ _ _, ?_⟩
  rw [H.out.2]
  cases pStr false t0 <;> simp
 case round =>
  obtain ⟨k', o, hg, hkk, hol, q1, q2, q3, q4⟩ := hrel
  have Q := hide (And.intro hg q4)
  clear hg q4
  have hle := q1.le
  clear c0 c1 c2 f1 f2 hb
  generalize hl : rest s k' = l
  rcases l with _ | ⟨c, t⟩
  ·have hk := rest_end hl hle
   have e := Q.out.2
   rw [hl, pStr_nil] at e
   have E : Hid (pStr false t0 = none) := e
   clear hl e
   go_wp2_with fail
   refine (pop_none W rb s k' d _ q1 hk).mono ?_
   rintro e w2 ⟨p1, p2⟩
   obtain ⟨fb, k3, g, cb, rfl, q⟩ := p2
   exact ⟨rfl, res_none E.out ⟨q2.trans p1, fb, k3, g, cb, rfl, Nat.le_trans q2.size q.1, q.2⟩⟩
  obtain ⟨a1, a2, a3, a4⟩ := nxt_cons hl
  have A := hide (And.intro hl (And.intro a3 (a4 a1)))
  clear hl a2 a3 a4
  have hc256 : c.toNat < 256 := c.toNat_lt
  go_wp2_with fail
  refine (pop_some W rb s k' d _ q1 a1).mono ?_
  rintro e w2 ⟨rfl, p1, p2⟩
  rw [A.out.2.2]
  have own2 : w2.ownsRow w.heap.size 5 1 u3 o.length (Lib.byteCells o) := by
   refine ownsRow_kp q3 p2 ?_
   intro k hk e
   have := (q3.lt k hk).1
   omega
  replace p2 := q2.trans p2
  clear q1 q2 q3
  by_cases h34 : c = 34
  ·subst h34
   have hconv := own_string own2
   go_wp2
   go_ret
   refine res_some (x := o) (r := t) ?_ p2 ⟨rfl, by omega⟩ p1 A.out.2.1
   rw [Q.out.2, A.out.1, pStr_cons, if_pos rfl]
   simp
  have n34 : ((c.toNat : Int) == 34) = false := u8n h34
  have N34 := hide h34
  clear h34
  by_cases h92 : c = 92
  ·subst h92
   go_wp2_with fail
   refine (escape_c W rb s (k' + 1) d _ p1).mono ?_
   rintro e w3 ⟨v1, v2⟩
   rw [A.out.2.1] at v2
   cases hy : esc t with
   | none =>
    rw [hy] at v2
    obtain ⟨fb, k3, g, cb, rfl, q⟩ := v2
    refine ⟨rfl, res_none ?_ ⟨p2.trans v1, fb, k3, g, cb, rfl, Nat.le_trans p2.size q.1, q.2⟩⟩
    rw [Q.out.2, pStr_bad A.out.1 N34.out (by simp [ch, hy])]
    rfl
   | some p =>
    obtain ⟨x, r⟩ := p
    rw [hy] at v2
    obtain ⟨_, k3, rfl, rfl, z1, z2⟩ := v2
    have hok := (esc_ok hy).1
    have hlen := esc_len hy
    have hx : (x : Int) ≤ 1114111 := by unfold okR at hok; omega
    have own3 : w3.ownsRow w.heap.size 5 1 u3 o.length (Lib.byteCells o) := by
     refine ownsRow_kp own2 v1 ?_
     intro k hk e
     have := (own2.lt k hk).1
     omega
    have Y := hide (And.intro hy (And.intro z2 hok))
    clear hy z2 hok
    have hk3 : k' + 1 < k3 := by
     have e1 : (rest s k3).length = s.size - k3 := by simp [rest]
     have e2 : t.length = s.size - (k' + 1) := by rw [← A.out.2.1]; simp [rest]
     rw [Y.out.2.1] at e1
     have := z1.le
     omega
    go_wp2_with fail
    refine (Tryz.utf8_AppendRune_plain w.heap.size u3 o.length (Lib.byteCells o) x (by omega) (by omega) _ own3 (by omega) (p2.trans v1).size).mono ?_
    rintro e w4 ⟨v', rfl, y1, ob, y2⟩
    have K4 : Kp (· = rb) w w4 := ((p2.trans v1).alloc ob).grown y2 (fun k hk hlt => by have := (own3.lt k hk).1; omega)
    have S4 : St W w4 rb s k3 d := (z1.keep (S := fun _ => False) ((Kp.refl _ _).alloc ob) (by simp) (by simp)).keep (S := fun k => u3.ownBlock = some k) ((Kp.refl _ _).grown y2 (fun k hk _ => hk)) (fun i hi => by have := (own3.lt i hi).1; have := z1.old.size; have := hr.old.size; omega) (fun hi => by have := (own3.lt rb hi).1; omega)
    have e5 : Lib.runeCells (x : Int) = Lib.byteCells (encL x) := by rw [enc_eq x Y.out.2.2, Lib.byteCells_encodeRune]
    have e6 := Lib.runeCells_le (x : Int)
    rw [e5, byteCells_len, ← byteCells_app, ← List.length_append] at y1
    have Y1 := hide y1
    have hl4 : (encL x).length ≤ 4 := by rw [e5, byteCells_len] at e6; omega
    clear y1 e5 e6 y2 own3 own2
    go_wp2
    go_roundg (s.size - k3)
    case measure => rw [Q.out.1]; omega
    case rel =>
     refine ⟨k3, o ++ encL x, rfl, by omega, by rw [List.length_append]; omega, S4, K4, Y1.out, ?_⟩
     have hch : ch false 92 t = some (encL x, r) := by simp [ch, Y.out.1, encL]
     rw [Q.out.2, pStr_step A.out.1 N34.out hch, Y.out.2.1]
     cases pStr false r <;> simp
  have n92 : ((c.toNat : Int) == 92) = false := u8n h92
  have N92 := hide h92
  clear h92
  by_cases h32 : (c.toNat : Int) < 32
  ·obtain ⟨cb, hg, he⟩ := p1.err 20 (by decide) (by decide)
   go_wp2_with (go_at_call 111; refine (fault_c rb s (k' + 1) d _ p1.rdr _ _).mono ?_; rintro e w' ⟨rfl, rfl⟩)
   refine ⟨rfl, res_none ?_ (thrown_new p2 he)⟩
   rw [Q.out.2, pStr_bad A.out.1 N34.out (by simp [ch, UInt8.lt_iff_toNat_lt]; omega)]
   rfl
  ·have h32' : 32 ≤ (c.toNat : Int) := by omega
   clear h32
   go_wp2_with (at_builtin; refine wpList_append_own _ rfl _ _ 124 rfl w.heap.size 5 i0 (.int .u8 0) 1 1 Tryz.underlying124 hi hz0 hz1 hz2 rfl (by decide) _ _ _ rfl (own2.alloc _) ⟨w2.heap.size, 0, none⟩ 1 1 [.int .u8 c.toNat] rfl rfl ?c1 ?c2 ?c3 ?c4 ?c5 ?_)
   case c1 =>
    intro j u hj
    match j, hj with
    | 0, hj => simp at hj; subst hj; simp [Addr.add]
   case c2 => intro u hu; simp at hu; subst hu; rfl
   case c3 => unfold maxLen; omega
   case c4 => omega
   case c5 => have := p2.size; simp; omega
   intro v' w3 y1 y2 _
   have K3 : Kp (· = rb) w w3 := (p2.alloc _).grown y2 (fun k hk hlt => by have := (own2.lt k hk).1; omega)
   have S3 : St W w3 rb s (k' + 1) d := (p1.keep (S := fun _ => False) ((Kp.refl _ _).alloc _) (by simp) (by simp)).keep (S := fun k => u3.ownBlock = some k) ((Kp.refl _ _).grown y2 (fun k hk _ => hk)) (fun i hi => by have := (own2.lt i hi).1; have := hr.old.size; omega) (fun hi => by have := (own2.lt rb hi).1; omega)
   have e5 : [Value.int .u8 (c.toNat : Int)] = Lib.byteCells [c] := rfl
   rw [e5, ← byteCells_app] at y1
   have Y1 : Hid (w3.ownsRow w.heap.size 5 1 v' (o ++ [c]).length (Lib.byteCells (o ++ [c]))) := by rw [List.length_append]; exact y1
   clear y1 e5 y2 own2
   go_wp2
   go_roundg (s.size - (k' + 1))
   case measure => rw [Q.out.1]; omega
   case rel =>
    refine ⟨k' + 1, o ++ [c], rfl, by omega, by rw [List.length_append]; simp; omega, S3, K3, Y1.out, ?_⟩
    have hch : ch false c t = some ([c], t) := by
     unfold ch
     rw [if_neg (by rw [UInt8.lt_iff_toNat_lt]; show ¬ c.toNat < 32; omega), if_neg N92.out]
     rfl
    rw [Q.out.2, pStr_step A.out.1 N34.out hch, A.out.2.1]
    cases pStr false t <;> simp
theorem quoted_bad (W : World) (rb : Nat) (s : ByteArray) (k d : Nat) (w : World) (hr : St W w rb s k d) (hl : (rest s k).head? ≠ some 34) :
  Calls Tryz.prog 161 #[.pointer (some ⟨rb, 0, none⟩)] w fun e w' => Kp (· = rb) w w' ∧ Thrown W w w' e := by
 generalize hc : nxt (rest s k) = c
 have hne : c ≠ 34 := by
  subst hc
  generalize rest s k = l at hl
  cases l with
  | nil => simp [nxt]
  | cons a l => simpa [nxt] using hl
 have n34 : ((c.toNat : Int) != 34) = true := by
  have := u8n hne
  simp only [bne, Bool.not_eq_true']
  exact this
 have HC := hide hc
 clear hc hne hl
 go_enter Tryz.func161, Tryz.ntmps161
 go_wp2_with fail
 refine (next_o W rb s k d _ hr c HC.out).mono ?_
 rintro e w1 ⟨rfl, h1, h2⟩
 obtain ⟨cb, hg, he⟩ := h1.err 19 (by decide) (by decide)
 go_wp2_with (go_at_call 111; refine (fault_c rb s k d _ h1.rdr _ _).mono ?_; rintro e w' ⟨rfl, rfl⟩)
 exact ⟨rfl, thrown_new h2 he⟩
end Go.Proofs.YtocligpfmfmihaaGreatDoor
namespace Go.Proofs.YtocligpfmfmihaaGreatDoor
open Go.Lib
def Shr {σ : Type} (p : σ → Bs → Option (σ × Bs)) : Prop := ∀ a s b r, p a s = some (b, r) → r.length ≤ s.length
theorem drop_le (p : UInt8 → Bool) (s : Bs) : (s.dropWhile p).length ≤ s.length := (List.dropWhile_suffix _).length_le
theorem pNat_le {s r : Bs} {n : Nat} (h : pNat s = some (n, r)) : r.length ≤ s.length := by
 unfold pNat at h
 split at h
 ·simp only [Option.some.injEq, Prod.mk.injEq] at h
  obtain ⟨_, rfl⟩ := h
  exact drop_le _ _
 ·cases h
theorem pNum_le {s r : Bs} {n : Int} (h : pNum s = some (n, r)) : r.length ≤ s.length := by
 unfold pNum at h
 split at h
 ·cases h
 ·split at h
  ·split at h
   ·rename_i hn
    have := pNat_le hn
    split at h
    ·cases h
    ·simp only [Option.some.injEq, Prod.mk.injEq] at h
     obtain ⟨_, rfl⟩ := h
     simp only [List.length_cons]; omega
   ·cases h
  ·simp only [Option.map_eq_some_iff, Prod.mk.injEq] at h
   obtain ⟨⟨x, y⟩, hn, _, rfl⟩ := h
   exact pNat_le hn
theorem pWord_le {s r : Bs} {j : J} (h : pWord s = some (j, r)) : r.length ≤ s.length := by
 unfold pWord at h
 repeat' split at h
 all_goals first
  | (cases h; done)
  | (simp only [Option.some.injEq, Prod.mk.injEq] at h; obtain ⟨_, rfl⟩ := h; simp only [List.length_drop]; omega)
theorem pSca_le {u : Bool} {c : UInt8} {t r : Bs} {j : J} (h : pSca u c t = some (j, r)) : r.length ≤ (c :: t).length := by
 unfold pSca at h
 split at h
 ·simp only [Option.map_eq_some_iff, Prod.mk.injEq] at h
  obtain ⟨⟨x, y⟩, hn, _, rfl⟩ := h
  have := pStr_len t.length (Nat.le_refl _) hn
  simp only [List.length_cons]; omega
 ·split at h
  ·simp only [Option.map_eq_some_iff, Prod.mk.injEq] at h
   obtain ⟨⟨x, y⟩, hn, _, rfl⟩ := h
   exact pNum_le hn
  ·exact pWord_le h
theorem pMore_le {σ : Type} {p : σ → Bs → Option (σ × Bs)} (hp : Shr p) {e : UInt8} : ∀ n a s b r, pMore p e n a s = some (b, r) → r.length ≤ s.length := by
 intro n
 induction n with
 | zero => intro a s b r h; simp [pMore] at h
 | succ n ih =>
  intro a s b r h
  have hs := sk_len s
  unfold pMore at h
  split at h
  ·cases h
  ·rename_i c t hc
   rw [hc] at hs
   simp only [List.length_cons] at hs
   split at h
   ·split at h
    ·rename_i b' r' hb
     have := hp _ _ _ _ hb
     have := ih _ _ _ _ h
     omega
    ·cases h
   ·split at h
    ·simp only [Option.some.injEq, Prod.mk.injEq] at h
     obtain ⟨_, rfl⟩ := h
     omega
    ·cases h
theorem pSev_le {σ : Type} {p : σ → Bs → Option (σ × Bs)} (hp : Shr p) {e : UInt8} {a b : σ} {s r : Bs} (h : pSev p e a s = some (b, r)) : r.length ≤ s.length := by
 have hs := sk_len s
 unfold pSev at h
 split at h
 ·simp only [Option.some.injEq, Prod.mk.injEq] at h
  obtain ⟨_, rfl⟩ := h
  simp only [List.length_tail]; omega
 ·split at h
  ·rename_i hb
   have := hp _ _ _ _ hb
   have := pMore_le hp _ _ _ _ _ h
   omega
  ·cases h
theorem pEl_shr {pv : Bs → Option (J × Bs)} (hv : ∀ s j r, pv s = some (j, r) → r.length ≤ s.length) : Shr (pEl pv) := by
 intro a s b r h
 unfold pEl at h
 simp only [Option.map_eq_some_iff, Prod.mk.injEq] at h
 obtain ⟨⟨x, y⟩, hn, _, rfl⟩ := h
 exact hv _ _ _ hn
theorem pMem_shr {u : Bool} {pv : Bs → Option (J × Bs)} (hv : ∀ s j r, pv s = some (j, r) → r.length ≤ s.length) : Shr (pMem u pv) := by
 intro a s b r h
 have hs := sk_len s
 unfold pMem at h
 split at h
 ·cases h
 ·rename_i c t hc
  rw [hc] at hs
  simp only [List.length_cons] at hs
  split at h
  ·split at h
   ·cases h
   ·rename_i k r' hk
    have h1 := pStr_len t.length (Nat.le_refl _) hk
    have h2 := sk_len r'
    split at h
    ·cases h
    ·split at h
     ·cases h
     ·rename_i c' q hq
      rw [hq] at h2
      simp only [List.length_cons] at h2
      split at h
      ·simp only [Option.map_eq_some_iff, Prod.mk.injEq] at h
       obtain ⟨⟨x, y⟩, hn, _, rfl⟩ := h
       have := hv _ _ _ hn
       show y.length ≤ s.length
       omega
      ·cases h
  ·cases h
theorem pVal_le {u : Bool} : ∀ (d : Nat) (s : Bs) (j : J) (r : Bs), pVal u d s = some (j, r) → r.length ≤ s.length := by
 intro d
 induction d with
 | zero =>
  intro s j r h
  have hs := sk_len s
  unfold pVal at h
  split at h
  ·cases h
  ·rename_i c t hc
   rw [hc] at hs
   split at h
   ·cases h
   ·have := pSca_le h; omega
 | succ d ih =>
  intro s j r h
  have hs := sk_len s
  unfold pVal at h
  split at h
  ·cases h
  ·rename_i c t hc
   rw [hc] at hs
   simp only [List.length_cons] at hs
   split at h
   ·simp only [Option.map_eq_some_iff, Prod.mk.injEq] at h
    obtain ⟨⟨x, y⟩, hn, _, rfl⟩ := h
    have := pSev_le (pMem_shr ih) hn
    show y.length ≤ s.length
    omega
   ·split at h
    ·simp only [Option.map_eq_some_iff, Prod.mk.injEq] at h
     obtain ⟨⟨x, y⟩, hn, _, rfl⟩ := h
     have := pSev_le (pEl_shr ih) hn
     show y.length ≤ s.length
     omega
    ·have := pSca_le h
     simp only [List.length_cons] at this
     omega
end Go.Proofs.YtocligpfmfmihaaGreatDoor
namespace Go.Proofs.YtocligpfmfmihaaGreatDoor
open Go Go.RowKit
def Ser {σ : Type} (W : World) (rb : Nat) (s : ByteArray) (d : Nat) (w0 : World) (o : Option (σ × List UInt8)) (I : σ → World → Prop) (e : Ending) (w' : World) : Prop :=
 Kp (· = rb) w0 w' ∧ match o with
 | some (y, r) => e = .returned (.tuple #[]) ∧ I y w' ∧ ∃ k', St W w' rb s k' d ∧ rest s k' = r
 | none => Thrown W w0 w' e
theorem ser_none {σ : Type} {W : World} {rb : Nat} {s : ByteArray} {d : Nat} {w0 w' : World} {o : Option (σ × List UInt8)} {I : σ → World → Prop} {e : Ending}
  (h : o = none) (hk : Kp (· = rb) w0 w' ∧ Thrown W w0 w' e) : Ser W rb s d w0 o I e w' := by
 subst h; exact hk
theorem ser_some {σ : Type} {W : World} {rb : Nat} {s : ByteArray} {d k' : Nat} {w0 w' : World} {o : Option (σ × List UInt8)} {I : σ → World → Prop} {y : σ} {r : List UInt8}
  (h : o = some (y, r)) (hk : Kp (· = rb) w0 w') (hi : I y w') (hs : St W w' rb s k' d) (hr : rest s k' = r) : Ser W rb s d w0 o I (.returned (.tuple #[])) w' := by
 subst h; exact ⟨hk, rfl, hi, k', hs, hr⟩
structure One {σ : Type} (W : World) (rb : Nat) (s : ByteArray) (d : Nat) (w0 : World) (p : σ → List UInt8 → Option (σ × List UInt8)) (I : σ → World → Prop) (m : σ → Nat) (f : FuncId) (a b : Value) : Prop where
 keep : ∀ x w1 w2, I x w1 → Kp (· = rb) w1 w2 → I x w2
 shr : Shr p
 skp : ∀ x l, p x (sk l) = p x l
 ent : ∀ w, (callFunc f #[a, b]).run Tryz.prog w = .ok (.enter f #[a, b]) w
 inc : ∀ x l y r, p x l = some (y, r) → m y ≤ m x + 1
 call : ∀ x w1 k1, m x ≤ 700 → St W w1 rb s k1 d → I x w1 → Kp (· = rb) w0 w1 → Calls Tryz.prog f #[a, b] w1 fun e w2 => Ser W rb s d w0 (p x (rest s k1)) I e w2
set_option maxRecDepth 8000 in
theorem several_c {σ : Type} (W : World) (rb : Nat) (s : ByteArray) (k d : Nat) (w0 w : World) (p : σ → List UInt8 → Option (σ × List UInt8)) (I : σ → World → Prop) (m : σ → Nat) (f : FuncId) (a b : Value)
  (h1 : One W rb s (d + 1) w0 p I m f a b) (hr : St W w rb s k d) (x0 : σ) (hm0 : m x0 = 0) (hI : I x0 w) (hk : Kp (· = rb) w0 w) (hd : d < 6)
  (qb qe : Int) (bb be : UInt8) (hqb : qb = bb.toNat) (hqe : qe = be.toNat) (hb0 : be ≠ 0) (_hb44 : be ≠ 44) (t : List UInt8) (hl : sk (rest s k) = bb :: t) :
  Calls Tryz.prog 202 #[.pointer (some ⟨rb, 0, none⟩), .int .u8 qb, .int .u8 qe, .func (.func f) #[] #[a, b]] w fun e w' =>
   Ser W rb s d w0 (pSev p be x0 t) I e w' := by
 have hsz := hr.sz
 have HQ := hide (And.intro hqb hqe)
 have HL := hide hl
 clear hqb hqe hl
 have hd' : (d : Int) < 6 := by omega
 have hcf := h1.ent
 go_enter Tryz.func202, Tryz.ntmps202
 go_wp2_with fail
 refine (need_yes W rb s k d _ hr qb bb HQ.out.1 t HL.out).mono ?_
 rintro e w1 ⟨rfl, a1, k1, a2, a3⟩
 have A3 := hide a3
 clear a3
 obtain ⟨c0, c1, c2, f1, f2, hb⟩ := a2.rdr.facts
 have K1 := hk.trans a1
 have I1 := h1.keep _ _ _ hI a1
 have S2 := a2.dep (d + 1)
 have K2 : Kp (· = rb) w0 (w1.setCell ⟨rb, 2, none⟩ (.int .i64 ((d + 1 : Nat) : Int))) := Kp.setCell (p := ⟨rb, 2, none⟩) K1 (fun _ => rfl) _
 have I2 := h1.keep _ _ _ I1 (Kp.setCell (p := ⟨rb, 2, none⟩) (Kp.refl (· = rb) w1) (fun _ => rfl) (.int .i64 ((d + 1 : Nat) : Int)))
 have fin : ∀ (y : σ) (w9 : World) (k9 : Nat), St W w9 rb s k9 (d + 1) → I y w9 → Kp (· = rb) w0 w9 → St W (w9.setCell ⟨rb, 2, none⟩ (.int .i64 d)) rb s k9 d ∧ I y (w9.setCell ⟨rb, 2, none⟩ (.int .i64 d)) ∧ Kp (· = rb) w0 (w9.setCell ⟨rb, 2, none⟩ (.int .i64 d)) :=
  fun y w9 k9 b1 b2 b3 => ⟨b1.dep d, h1.keep _ _ _ b2 (Kp.setCell (p := ⟨rb, 2, none⟩) (Kp.refl (· = rb) w9) (fun _ => rfl) _), Kp.setCell (p := ⟨rb, 2, none⟩) b3 (fun _ => rfl) _⟩
 have FIN := hide fin
 clear fin K1 I1
 have C1 : Hid (One W rb s (d + 1) w0 p I m f a b) := h1
 have M0 := hide hm0
 clear hm0
 clear h1
 by_cases he : (sk t).head? = some be
 ·obtain ⟨t', ht'⟩ : ∃ t', sk t = be :: t' := by
   cases hst : sk t with
   | nil => rw [hst] at he; cases he
   | cons c q =>
    rw [hst] at he
    simp only [List.head?_cons, Option.some.injEq] at he
    exact ⟨q, by rw [he]⟩
  have T := hide (And.intro he ht')
  clear he ht'
  go_wp2_with fail
  refine (take_yes W rb s k1 (d + 1) _ S2 qe be HQ.out.2 t' (by rw [A3.out]; exact T.out.2)).mono ?_
  rintro e w3 ⟨rfl, b1, k3, b2, b3⟩
  have B3 := hide b3
  clear b3 c0 c1 c2 f1 f2 hb
  obtain ⟨c0, c1, c2, f1, f2, hb⟩ := b2.rdr.facts
  have I3 := C1.out.keep _ _ _ I2 b1
  have F := FIN.out _ _ _ b2 I3 (K2.trans b1)
  clear I3
  go_wp2
  go_end0
  refine ser_some ?_ F.2.2 F.2.1 F.1 B3.out
  rw [pSev, if_pos T.out.1, T.out.2]
  rfl
 ·have T := hide he
  clear he
  go_wp2_with fail
  refine (take_no W rb s k1 (d + 1) _ S2 qe be HQ.out.2 hb0 (by rw [A3.out]; exact T.out)).mono ?_
  rintro e w3 ⟨rfl, b1, k3, b2, b3⟩
  have B3 : Hid (rest s k3 = sk t) := by rw [A3.out] at b3; exact b3
  clear b3 c0 c1 c2 f1 f2 hb
  have I3 := C1.out.keep _ _ _ I2 b1
  have K3 := K2.trans b1
  clear I2 K2
  go_wp2_with fail
  refine (C1.out.call _ _ _ (by rw [M0.out]; omega) b2 I3 K3).mono ?_
  rintro e w4 ⟨d1, d2⟩
  rw [B3.out, C1.out.skp] at d2
  cases hp : p x0 t with
  | none =>
   rw [hp] at d2
   obtain ⟨fb, k9, g, cb, rfl, q⟩ := d2
   refine ⟨rfl, ser_none ?_ ⟨d1, fb, k9, g, cb, rfl, q⟩⟩
   rw [pSev, if_neg T.out, hp]
  | some z =>
   obtain ⟨y, r⟩ := z
   rw [hp] at d2
   obtain ⟨rfl, I4, k4, S4, d3⟩ := d2
   have hs : pSev p be x0 t = pMore p be (r.length + 1) y r := by rw [pSev, if_neg T.out, hp]
   have hm1 : m y + (r.length + 1) ≤ 602 := by
    have e1 := C1.out.inc _ _ _ _ hp
    have e2 := C1.out.shr _ _ _ _ hp
    have e3 : t.length ≤ s.size := by rw [← A3.out]; simp [rest]
    rw [M0.out] at e1
    omega
   have D := hide (And.intro d3 (And.intro hs hm1))
   clear d3 hs hm1 hp I3 K3
   go_wp2_with fail
   go_loopg [] (r.length + 1) (fun n wr => ∃ (x : σ) (k' : Nat), St W wr rb s k' (d + 1) ∧ I x wr ∧ Kp (· = rb) w0 wr ∧ (rest s k').length < n ∧ m x + n ≤ 602 ∧ pMore p be n x (rest s k') = pSev p be x0 t)
   case atStart => exact ⟨y, k4, S4, I4, d1, by rw [D.out.1]; omega, D.out.2.2, by rw [D.out.1, D.out.2.1]⟩
   case round =>
    clear S4 I4 d1
    obtain ⟨x, k', q1, q2, q3, q4, q6, q5⟩ := hrel
    obtain ⟨n, rfl⟩ : ∃ n, gk = n + 1 := ⟨gk - 1, by omega⟩
    have Q := hide (And.intro q4 q5)
    have M := hide q6
    clear q4 q5 q6
    by_cases hc : (sk (rest s k')).head? = some 44
    ·obtain ⟨q, hq⟩ : ∃ q, sk (rest s k') = 44 :: q := by
      cases hst : sk (rest s k') with
      | nil => rw [hst] at hc; cases hc
      | cons c q =>
       rw [hst] at hc
       simp only [List.head?_cons, Option.some.injEq] at hc
       exact ⟨q, by rw [hc]⟩
     have HQQ := hide hq
     clear hc hq
     go_wp2_with fail
     refine (take_yes W rb s k' (d + 1) _ q1 44 44 rfl q HQQ.out).mono ?_
     rintro e w5 ⟨rfl, e1, k5, e2, e3⟩
     have E3 := hide e3
     clear e3
     have I5 := C1.out.keep _ _ _ q2 e1
     have K5 := q3.trans e1
     go_wp2_with fail
     refine (C1.out.call _ _ _ (by have := M.out; omega) e2 I5 K5).mono ?_
     rintro e w6 ⟨g1, g2⟩
     rw [E3.out] at g2
     have hm : pMore p be (n + 1) x (rest s k') = match p x q with | some (b, r) => pMore p be n b r | none => none := by
      rw [pMore, HQQ.out]; rfl
     cases hp : p x q with
     | none =>
      rw [hp] at g2 hm
      obtain ⟨fb, k9, g, cb, rfl, q⟩ := g2
      exact ⟨rfl, ser_none (Q.out.2.symm.trans hm) ⟨g1, fb, k9, g, cb, rfl, q⟩⟩
     | some z =>
      obtain ⟨y', r'⟩ := z
      rw [hp] at g2 hm
      obtain ⟨rfl, I6, k6, S6, g3⟩ := g2
      have hr1 := C1.out.shr _ _ _ _ hp
      have hr2 := sk_len (rest s k')
      rw [HQQ.out] at hr2
      simp only [List.length_cons] at hr2
      have hm2 := C1.out.inc _ _ _ _ hp
      have G := hide (And.intro g3 (And.intro hm (And.intro hr1 (And.intro hr2 hm2))))
      clear g3 hm hr1 hr2 hm2 hp
      go_wp2
      go_roundg n
      case measure => omega
      case rel =>
       refine ⟨y', k6, S6, I6, g1, ?_, ?_, ?_⟩
       ·have := G.out
        have := Q.out.1
        rw [G.out.1]; omega
       ·have := G.out.2.2.2.2
        have := M.out
        omega
       ·rw [G.out.1, ← Q.out.2, G.out.2.1]
    ·have HC := hide hc
     clear hc
     go_wp2_with fail
     refine (take_no W rb s k' (d + 1) _ q1 44 44 rfl (by decide) HC.out).mono ?_
     rintro e w5 ⟨rfl, e1, k5, e2, e3⟩
     have E3 := hide e3
     clear e3
     have I5 := C1.out.keep _ _ _ q2 e1
     have K5 := q3.trans e1
     by_cases hb : (sk (rest s k')).head? = some be
     ·obtain ⟨q, hq⟩ : ∃ q, sk (rest s k') = be :: q := by
       cases hst : sk (rest s k') with
       | nil => rw [hst] at hb; cases hb
       | cons c q =>
        rw [hst] at hb
        simp only [List.head?_cons, Option.some.injEq] at hb
        exact ⟨q, by rw [hb]⟩
      have HQQ := hide hq
      clear hb hq
      go_wp2_with fail
      refine (need_yes W rb s k5 (d + 1) _ e2 qe be HQ.out.2 q (by rw [E3.out, sk_sk]; exact HQQ.out)).mono ?_
      rintro e w6 ⟨rfl, j1, k6, j2, j3⟩
      have J3 := hide j3
      clear j3
      obtain ⟨c0, c1, c2, f1, f2, hb⟩ := j2.rdr.facts
      have F := FIN.out _ _ _ j2 (C1.out.keep _ _ _ I5 j1) (K5.trans j1)
      go_wp2
      go_end0
      refine ser_some ?_ F.2.2 F.2.1 F.1 J3.out
      have h1 := HC.out
      rw [HQQ.out] at h1
      simp only [List.head?_cons, Option.some.injEq] at h1
      rw [← Q.out.2, pMore, HQQ.out]
      simp [h1]
     ·have HB := hide hb
      clear hb
      go_wp2_with fail
      refine (need_no W rb s k5 (d + 1) _ e2 qe be HQ.out.2 hb0 (by rw [E3.out, sk_sk]; exact HB.out)).mono ?_
      rintro e w6 ⟨j1, j2⟩
      obtain ⟨fb, k9, g, cb, rfl, q⟩ := j2
      refine ⟨rfl, ser_none ?_ ⟨K5.trans j1, fb, k9, g, cb, rfl, Nat.le_trans K5.size q.1, q.2⟩⟩
      rw [← Q.out.2, pMore]
      cases hst : sk (rest s k') with
      | nil => rfl
      | cons c q =>
       have h1 := HC.out
       have h2 := HB.out
       rw [hst] at h1 h2
       simp only [List.head?_cons, Option.some.injEq] at h1 h2
       simp [h1, h2]
theorem several_deep (W : World) (rb : Nat) (s : ByteArray) (k : Nat) (w : World) (hr : St W w rb s k 6) (fv : Value)
  (qb qe : Int) (bb : UInt8) (hqb : qb = bb.toNat) (t : List UInt8) (hl : sk (rest s k) = bb :: t) :
  Calls Tryz.prog 202 #[.pointer (some ⟨rb, 0, none⟩), .int .u8 qb, .int .u8 qe, fv] w fun e w' => Kp (· = rb) w w' ∧ Thrown W w w' e := by
 have hsz := hr.sz
 have HQ := hide hqb
 have HL := hide hl
 clear hqb hl
 go_enter Tryz.func202, Tryz.ntmps202
 go_wp2_with fail
 refine (need_yes W rb s k 6 _ hr qb bb HQ.out t HL.out).mono ?_
 rintro e w1 ⟨rfl, a1, k1, a2, a3⟩
 have A3 := hide a3
 clear a3
 obtain ⟨c0, c1, c2, f1, f2, hb⟩ := a2.rdr.facts
 have S2 := a2.dep 7
 obtain ⟨cb, hg, he⟩ := a2.err 23 (by decide) (by decide)
 have K2 : Kp (· = rb) w (w1.setCell ⟨rb, 2, none⟩ (.int .i64 7)) := Kp.setCell (p := ⟨rb, 2, none⟩) a1 (fun _ => rfl) _
 go_wp2_with (go_at_call 111; refine (fault_c rb s k1 7 _ S2.rdr _ _).mono ?_; rintro e w' ⟨rfl, rfl⟩)
 have hz : (w1.setCell ⟨rb, 2, none⟩ (.int .i64 7)).heap.size = w1.heap.size := by simp [World.setCell]
 have h9 := thrown_new (k := (k1 : Int)) K2 he
 rw [hz] at h9
 exact ⟨rfl, h9⟩
end Go.Proofs.YtocligpfmfmihaaGreatDoor
namespace Go.Proofs.YtocligpfmfmihaaGreatDoor
open Go Go.RowKit Go.Maps
def Rv (v : Value) : Option (DataW Value × List MemPlace) := some (.held v, [])
def dm (m : List (Bs × Value)) : DataW Value := .map (m.map fun p => (.string p.1, .held p.2))
theorem before_lt (a b : List UInt8) : bytesBefore a b = decide (a < b) := by
 induction a generalizing b with
 | nil => cases b <;> simp [bytesBefore]
 | cons x a ih =>
  cases b with
  | nil => simp [bytesBefore]
  | cons y b =>
   rw [bytesBefore, ih, Bool.eq_iff_iff]
   simp only [Bool.or_eq_true, decide_eq_true_eq, Bool.and_eq_true, beq_iff_eq]
   rw [List.cons_lt_cons_iff]
theorem same_str (a b : List UInt8) : (Lit.string a).sameKey (.string b) = decide (a = b) := by
 rw [Lit.sameKey, Bool.eq_iff_iff]; simp
def dE (p : Bs × Value) : Lit × DataW Value := (.string p.1, .held p.2)
theorem dm_eq (m : List (Bs × Value)) : dm m = .map (m.map dE) := rfl
theorem filter_srt {k : Bs} (m : List (Bs × Value)) (h : ∀ p ∈ m, p.1 ≠ k) : (m.map dE).filter (fun p => !p.1.sameKey (.string k)) = m.map dE := by
 rw [List.filter_eq_self]
 intro p hp
 obtain ⟨q, hq, rfl⟩ := List.mem_map.1 hp
 simp only [dE, same_str]
 simp [h q hq]
theorem dm_put (k : Bs) (v : Value) : ∀ (m : List (Bs × Value)), Srt m → (dm m).put (.string k) (.held v) = dm (insK k v m) := by
 intro m hm
 show DataW.map (DataW.insert (dE (k, v)) ((m.map dE).filter fun p => !p.1.sameKey (.string k))) = DataW.map ((insK k v m).map dE)
 congr 1
 induction m with
 | nil => rfl
 | cons p l ih =>
  obtain ⟨a, x⟩ := p
  obtain ⟨h1, h2⟩ := List.pairwise_cons.1 hm
  have hins : ∀ (q : Bs × Value) (r : List (Lit × DataW Value)), DataW.insert (dE (k, v)) (dE q :: r) = if k < q.1 then dE (k, v) :: dE q :: r else dE q :: DataW.insert (dE (k, v)) r := by
   intro q r
   rw [DataW.insert]
   simp only [dE, Lit.before, before_lt, decide_eq_true_eq]
  unfold insK
  by_cases hlt : k < a
  ·rw [if_pos hlt, filter_srt _ (by
     intro p hp e
     rcases List.mem_cons.1 hp with rfl | hp
     · subst e; exact lt_irr _ hlt
     · have := h1 p hp
       rw [e] at this
       exact lt_irr _ (lt_tr hlt this))]
   simp only [List.map_cons]
   rw [hins, if_pos hlt]
  ·rw [if_neg hlt]
   by_cases he : a = k
   ·subst he
    rw [if_pos rfl]
    have e0 : (((a, x) :: l).map dE).filter (fun p => !p.1.sameKey (.string a)) = l.map dE := by
     rw [List.map_cons, List.filter_cons_of_neg (by simp [dE, same_str])]
     exact filter_srt l (fun p hp e => by have := h1 p hp; rw [e] at this; exact lt_irr _ this)
    rw [e0]
    cases l with
    | nil => rfl
    | cons q r =>
     simp only [List.map_cons]
     rw [hins, if_pos (h1 q (by simp))]
   ·rw [if_neg he]
    rw [List.map_cons, List.filter_cons_of_pos (by simp [dE, same_str, he]), hins, if_neg hlt, ih h2]
    rfl
theorem dm_has (k : Bs) (m : List (Bs × Value)) : Maps.has (dm m) (.string k) = (lookK k m).isSome := by
 rw [dm_eq, has_eq]
 induction m with
 | nil => rfl
 | cons p l ih =>
  obtain ⟨a, x⟩ := p
  rw [List.map_cons, List.any_cons, ih]
  simp only [dE, same_str, lookK]
  by_cases h : a = k <;> simp [h]
theorem dm_at (k : Bs) (m : List (Bs × Value)) (z : DataW Value) : (dm m).atKey (.string k) z = match lookK k m with | some v => .held v | none => z := by
 rw [dm_eq]
 induction m with
 | nil => rfl
 | cons p l ih =>
  obtain ⟨a, x⟩ := p
  simp only [DataW.atKey] at ih ⊢
  rw [List.map_cons, List.find?_cons]
  simp only [dE, same_str, lookK]
  by_cases h : a = k
  ·simp [h]
  ·simp only [h, decide_false]
   exact ih
theorem dm_del (k : Bs) (m : List (Bs × Value)) : (dm m).del (.string k) = dm (delK k m) := by
 show DataW.map ((m.map dE).filter fun p => !p.1.sameKey (.string k)) = DataW.map ((delK k m).map dE)
 rw [delK, List.filter_map]
 congr 2
 apply List.filter_congr
 intro p _
 simp [dE, same_str]
theorem dm_size (m : List (Bs × Value)) : Maps.size (dm m) = m.length := by simp [dm, Maps.size]
theorem keyed : Keyed Tryz.prog 9 := string_keyed Tryz.underlying9
theorem ownsMap_tight {w : World} {b n : Nat} {m : List (Bs × Value)} (h : w.ownsMap Tryz.prog 9 Rv b n (dm m)) : w.ownsMap Tryz.prog 9 Rv b m.length (dm m) := by
 obtain ⟨es, clock, h1, h2, h3, h4⟩ := h
 refine ⟨es, clock, h1, h2, ?_, h4⟩
 have e1 : Maps.size (dm m) = es.size := by
  rw [h4]
  simp only [Maps.size]
  exact length_read es
 rw [dm_size] at e1
 omega
mutual
def Rep (w : World) (F : Nat → Prop) : J → Value → Prop
 | .null, v => v = .iface 221 (.agg #[])
 | .bool b, v => v = .iface 222 (.bool b)
 | .num n, v => v = .iface 224 (.int .i64 n)
 | .str s, v => v = .iface 137 (.string ⟨s.toArray⟩)
 | .arr l, v => ∃ sv vs, v = .iface 228 sv ∧ w.ownsRow 0 59 1 sv l.length vs ∧ (∀ b, sv.ownBlock = some b → F b) ∧ Reps w F l vs
 | .obj l, v => ∃ b m, v = .iface 71 (.map (some b)) ∧ F b ∧ w.ownsMap Tryz.prog 9 Rv b m.length (dm m) ∧ Repm w F l m
def Reps (w : World) (F : Nat → Prop) : List J → List Value → Prop
 | [], vs => vs = []
 | x :: l, vs => ∃ v r, vs = v :: r ∧ Rep w F x v ∧ Reps w F l r
def Repm (w : World) (F : Nat → Prop) : List (Bs × J) → List (Bs × Value) → Prop
 | [], m => m = []
 | (k, x) :: l, m => ∃ v r, m = (k, v) :: r ∧ Rep w F x v ∧ Repm w F l r
end
theorem ownsRow_heap {w w' : World} {B : Nat} {e : TypeId} {sz n : Nat} {v : Value} {xs : List Value} (h : w.ownsRow B e sz v n xs) (hk : ∀ k, v.ownBlock = some k → w'.heap[k]? = w.heap[k]?) : w'.ownsRow B e sz v n xs := by
 obtain ⟨h1, h2⟩ := h
 refine ⟨h1, ?_⟩
 rcases h2 with h2 | ⟨g, cap, cur, rfl, hg, hh, r⟩
 ·exact Or.inl h2
 ·exact Or.inr ⟨g, cap, cur, rfl, hg, by rw [hk g rfl]; exact hh, r⟩
theorem ownsMap_heap {w w' : World} {b n : Nat} {D : DataW Value} (h : w.ownsMap Tryz.prog 9 Rv b n D) (hk : w'.heap[b]? = w.heap[b]?) : w'.ownsMap Tryz.prog 9 Rv b n D := by
 obtain ⟨es, clock, h1, h2⟩ := h
 exact ⟨es, clock, hk.trans h1, h2⟩
mutual
theorem Rep.frame {w w' : World} {F : Nat → Prop} (h : ∀ k, F k → w'.heap[k]? = w.heap[k]?) : ∀ (j : J) {v : Value}, Rep w F j v → Rep w' F j v
 | .null, _, hj => by rw [Rep] at hj ⊢; exact hj
 | .bool _, _, hj => by rw [Rep] at hj ⊢; exact hj
 | .num _, _, hj => by rw [Rep] at hj ⊢; exact hj
 | .str _, _, hj => by rw [Rep] at hj ⊢; exact hj
 | .arr l, _, hj => by
  rw [Rep] at hj ⊢
  obtain ⟨sv, vs, e, h1, h2, h3⟩ := hj
  exact ⟨sv, vs, e, ownsRow_heap h1 (fun k hk => h k (h2 k hk)), h2, Reps.frame h l h3⟩
 | .obj l, _, hj => by
  rw [Rep] at hj ⊢
  obtain ⟨b, m, e, h1, h2, h3⟩ := hj
  exact ⟨b, m, e, h1, ownsMap_heap h2 (h b h1), Repm.frame h l h3⟩
theorem Reps.frame {w w' : World} {F : Nat → Prop} (h : ∀ k, F k → w'.heap[k]? = w.heap[k]?) : ∀ (l : List J) {vs : List Value}, Reps w F l vs → Reps w' F l vs
 | [], _, hj => by rw [Reps] at hj ⊢; exact hj
 | x :: l, _, hj => by
  rw [Reps] at hj ⊢
  obtain ⟨v, r, e, h1, h2⟩ := hj
  exact ⟨v, r, e, Rep.frame h x h1, Reps.frame h l h2⟩
theorem Repm.frame {w w' : World} {F : Nat → Prop} (h : ∀ k, F k → w'.heap[k]? = w.heap[k]?) : ∀ (l : List (Bs × J)) {m : List (Bs × Value)}, Repm w F l m → Repm w' F l m
 | [], _, hj => by rw [Repm] at hj ⊢; exact hj
 | (k, x) :: l, _, hj => by
  rw [Repm] at hj ⊢
  obtain ⟨v, r, e, h1, h2⟩ := hj
  exact ⟨v, r, e, Rep.frame h x h1, Repm.frame h l h2⟩
end
mutual
theorem Rep.mono {w : World} {F G : Nat → Prop} (h : ∀ k, F k → G k) : ∀ (j : J) {v : Value}, Rep w F j v → Rep w G j v
 | .null, _, hj => by rw [Rep] at hj ⊢; exact hj
 | .bool _, _, hj => by rw [Rep] at hj ⊢; exact hj
 | .num _, _, hj => by rw [Rep] at hj ⊢; exact hj
 | .str _, _, hj => by rw [Rep] at hj ⊢; exact hj
 | .arr l, _, hj => by
  rw [Rep] at hj ⊢
  obtain ⟨sv, vs, e, h1, h2, h3⟩ := hj
  exact ⟨sv, vs, e, h1, fun k hk => h k (h2 k hk), Reps.mono h l h3⟩
 | .obj l, _, hj => by
  rw [Rep] at hj ⊢
  obtain ⟨b, m, e, h1, h2, h3⟩ := hj
  exact ⟨b, m, e, h b h1, h2, Repm.mono h l h3⟩
theorem Reps.mono {w : World} {F G : Nat → Prop} (h : ∀ k, F k → G k) : ∀ (l : List J) {vs : List Value}, Reps w F l vs → Reps w G l vs
 | [], _, hj => by rw [Reps] at hj ⊢; exact hj
 | x :: l, _, hj => by
  rw [Reps] at hj ⊢
  obtain ⟨v, r, e, h1, h2⟩ := hj
  exact ⟨v, r, e, Rep.mono h x h1, Reps.mono h l h2⟩
theorem Repm.mono {w : World} {F G : Nat → Prop} (h : ∀ k, F k → G k) : ∀ (l : List (Bs × J)) {m : List (Bs × Value)}, Repm w F l m → Repm w G l m
 | [], _, hj => by rw [Repm] at hj ⊢; exact hj
 | (k, x) :: l, _, hj => by
  rw [Repm] at hj ⊢
  obtain ⟨v, r, e, h1, h2⟩ := hj
  exact ⟨v, r, e, Rep.mono h x h1, Repm.mono h l h2⟩
end
theorem Reps.snoc {w : World} {F : Nat → Prop} {x : J} {v : Value} (hx : Rep w F x v) : ∀ (l : List J) (vs : List Value), Reps w F l vs → Reps w F (l ++ [x]) (vs ++ [v])
 | [], vs, h => by
  rw [Reps] at h
  subst h
  simp only [List.nil_append]
  rw [Reps]
  exact ⟨v, [], rfl, hx, by rw [Reps]⟩
 | y :: l, vs, h => by
  rw [Reps] at h
  obtain ⟨u, r, rfl, h1, h2⟩ := h
  simp only [List.cons_append]
  rw [Reps]
  exact ⟨u, r ++ [v], rfl, h1, Reps.snoc hx l r h2⟩
theorem Repm.ins {w : World} {F : Nat → Prop} {k : Bs} {x : J} {v : Value} (hx : Rep w F x v) : ∀ (l : List (Bs × J)) (m : List (Bs × Value)), Repm w F l m → Repm w F (insK k x l) (insK k v m)
 | [], m, h => by
  rw [Repm] at h
  subst h
  simp only [insK]
  rw [Repm]
  exact ⟨v, [], rfl, hx, by rw [Repm]⟩
 | (a, y) :: l, m, h => by
  have h0 := h
  rw [Repm] at h
  obtain ⟨u, r, rfl, h1, h2⟩ := h
  simp only [insK]
  by_cases hlt : k < a
  ·rw [if_pos hlt, if_pos hlt, Repm]
   exact ⟨v, _, rfl, hx, h0⟩
  ·rw [if_neg hlt, if_neg hlt]
   by_cases he : a = k
   ·rw [if_pos he, if_pos he, Repm]
    exact ⟨v, r, rfl, hx, h2⟩
   ·rw [if_neg he, if_neg he, Repm]
    exact ⟨u, _, rfl, h1, Repm.ins hx l r h2⟩
theorem Repm.keys {w : World} {F : Nat → Prop} : ∀ (l : List (Bs × J)) (m : List (Bs × Value)), Repm w F l m → m.map (·.1) = l.map (·.1)
 | [], m, h => by rw [Repm] at h; subst h; rfl
 | (a, y) :: l, m, h => by
  rw [Repm] at h
  obtain ⟨u, r, rfl, h1, h2⟩ := h
  simp only [List.map_cons]
  rw [Repm.keys l r h2]
theorem srt_keys {α β : Type} {l : List (Bs × α)} {m : List (Bs × β)} (h : m.map (·.1) = l.map (·.1)) (hl : Srt l) : Srt m := by
 have h1 : (l.map (·.1)).Pairwise (· < ·) := List.pairwise_map.2 hl
 rw [← h] at h1
 exact List.pairwise_map.1 h1
theorem Repm.look {w : World} {F : Nat → Prop} (k : Bs) : ∀ (l : List (Bs × J)) (m : List (Bs × Value)), Repm w F l m → (lookK k m = none ∧ lookK k l = none) ∨ ∃ v x, lookK k m = some v ∧ lookK k l = some x ∧ Rep w F x v
 | [], m, h => by rw [Repm] at h; subst h; exact Or.inl ⟨rfl, rfl⟩
 | (a, y) :: l, m, h => by
  rw [Repm] at h
  obtain ⟨u, r, rfl, h1, h2⟩ := h
  simp only [lookK]
  by_cases he : a = k
  ·rw [if_pos he, if_pos he]
   exact Or.inr ⟨u, y, rfl, rfl, h1⟩
  ·rw [if_neg he, if_neg he]
   exact Repm.look k l r h2
end Go.Proofs.YtocligpfmfmihaaGreatDoor
namespace Go.Proofs.YtocligpfmfmihaaGreatDoor
open Go Go.RowKit Go.Maps
theorem step_append_own {P : Program} {ops : Array Oper} {o : Oper} {a : Act} {w : World} {K : Act → World → Prop} {Q : Exit → Act → World → Prop} {E : Prop} (hgd : o.guard = none) (s x : Operand) (t : TypeId)
  (ho : o.op = .call { callee := .builtin .append, args := #[s, x], argTypes := #[t, t] })
  (base : Nat) (e : TypeId) (i : TypeInfo) (z : Value) (size bytes : Nat) (ht : P.underlying t = some (.slice e)) (hi : P.info? e = some i) (hz : i.zero = some z)
  (hsize : i.size = size) (hby : i.bytes = bytes) (hzs : z.cells.size = size) (hsz : 0 < size)
  (v : Value) (n : Nat) (xs : List Value) (hs : a.eval s = v) (hown : w.ownsRow base e size v n xs)
  (ad : Addr) (m c : Nat) (news : List Value) (hx : a.eval x = .slice (some ad) m c) (hl : news.length = m * size) (hnews : ∀ j u, news[j]? = some u → w.cell? (ad.add j) = some u) (h1 : ∀ u ∈ news, u.oneCell' = true)
  (h63 : n + m ≤ maxLen) (hbytes : (n + m) * bytes ≤ 140737488355328) (hbase : base ≤ w.heap.size)
  (h : ∀ v' w', w'.ownsRow base e size v' (n + m) (xs ++ news) → w.grownBy w' v.ownBlock → (v'.ownBlock = v.ownBlock ∨ v'.ownBlock = some w.heap.size) → K (a.put o.dst v') w') :
  if Region.wanted o (yielded ops a.tmps) = true then Oper.wp P o a w K Q else E := by
 have hw : Region.wanted o (yielded ops a.tmps) = true := by simp [Region.wanted, hgd]
 rw [if_pos hw]
 obtain ⟨v', w', hr, h2, h3, h4, h5⟩ := run_append_own_at (P := P) w base t o.type e i z size bytes ht hi hz hsize hby hzs hsz v n xs hown ad m c news hl hnews h1 h63 hbytes hbase
 unfold Oper.wp execOp
 simp only [ho, resolve, invoke, builtin, Sem.run_bind, Sem.run_pure, Result.andThen_ok, List.map_toArray, List.map_cons, List.map_nil, hs, hx, hr]
 exact h v' w' h2 h3 h5
theorem step_call {P : Program} {ops : Array Oper} {o : Oper} {a : Act} {w : World} {K : Act → World → Prop} {Q : Exit → Act → World → Prop} {E : Prop} (hgd : o.guard = none) (f : FuncId) (args : Array Value)
  (hrun : (execOp a.eval o).run P w = .ok (.enter f args) w)
  (h : Calls P f args w fun | .returned v, w'' => K (a.put o.dst v) w'' | .panicked chain, w'' => Q (.panic chain) a w'' | .outgrown, _ => LetsOut Q) :
  if Region.wanted o (yielded ops a.tmps) = true then Oper.wp P o a w K Q else E := by
 have hw : Region.wanted o (yielded ops a.tmps) = true := by simp [Region.wanted, hgd]
 rw [if_pos hw]
 unfold Oper.wp
 rw [hrun, Oper.upon_enter]
 exact h
def ValC (W : World) (d : Nat) : Prop := ∀ (rb : Nat) (s : ByteArray) (k : Nat) (w : World), St W w rb s k d →
 Calls Tryz.prog 109 #[.pointer (some ⟨rb, 0, none⟩)] w fun e w' =>
  Res W rb s d w (pVal false (6 - d) (rest s k)) (fun w' j v => Rep w' (fun b => w.heap.size ≤ b ∧ b < w'.heap.size) j v) e w'
def ArrI (lo rb ab bb : Nat) (x : List J) (w : World) : Prop :=
 ∃ sv vs G, w.heap[ab]? = some (.cells #[sv] 228) ∧ w.heap[bb]? = some (.cells #[.pointer (some ⟨rb, 0, none⟩)] 201) ∧
  w.ownsRow lo 59 1 sv x.length vs ∧ Reps w G x vs ∧ (∀ k, G k → lo ≤ k ∧ k < w.heap.size ∧ k ≠ ab ∧ k ≠ bb) ∧ (∀ k, sv.ownBlock = some k → ¬ G k ∧ k ≠ ab ∧ k ≠ bb)
theorem infoV : (Tryz.prog.info? 59).map (fun i => (i.zero, i.size, i.bytes)) = some (some .nilIface, 1, 16) := by kernel_rfl
theorem lt_heap {w : World} {b : Nat} {o : Obj} (h : w.heap[b]? = some o) : b < w.heap.size := by
 rcases Nat.lt_or_ge b w.heap.size with h' | h'
 ·exact h'
 ·rw [Array.getElem?_eq_none h'] at h; cases h
theorem Rep.iface {w : World} {F : Nat → Prop} {j : J} {v : Value} (h : Rep w F j v) : ∃ t u, v = .iface t u := by
 cases j <;> rw [Rep] at h
 ·exact ⟨_, _, h⟩
 ·exact ⟨_, _, h⟩
 ·exact ⟨_, _, h⟩
 ·exact ⟨_, _, h⟩
 ·obtain ⟨_, _, e, _⟩ := h
  exact ⟨_, _, e⟩
 ·obtain ⟨_, _, e, _⟩ := h
  exact ⟨_, _, e⟩
theorem own_shape {w : World} {B : Nat} {e : TypeId} {v : Value} {n : Nat} {xs : List Value} (h : w.ownsRow B e 1 v (n + 1) xs) : ∃ g cap, v = .slice (some ⟨g, 0, none⟩) (n + 1) cap := by
 obtain ⟨_, ⟨_, h⟩ | ⟨g, cap, cur, h, _⟩⟩ := h
 ·omega
 ·exact ⟨g, cap, h⟩
theorem one_cells {w : World} {b : Nat} {v : Value} {t : TypeId} (h : w.heap[b]? = some (.cells #[v] t)) : w.cell? ⟨b, 0, none⟩ = some v ∧ w.frozen? ⟨b, 0, none⟩ = false := by
 constructor
 ·simp [World.cell?, h]
 ·simp [World.frozen?, h]
theorem one_set {w : World} {b : Nat} {v : Value} {t : TypeId} (h : w.heap[b]? = some (.cells #[v] t)) (u : Value) : (w.setCell ⟨b, 0, none⟩ u).heap[b]? = some (.cells #[u] t) := by
 simp [World.setCell, Array.getElem?_modify, h]
theorem heap_set_other {w : World} {p : Addr} {u : Value} {k : Nat} (h : k ≠ p.block) : (w.setCell p u).heap[k]? = w.heap[k]? := Below.heap_setCell _ _ _ _ h
theorem own_at {w : World} {o : Obj} {a b : Option Nat} (h : a = b ∨ a = some (w.alloc o).heap.size) : a = b ∨ ∃ q, w.heap.size ≤ q ∧ a = some q := by
 rcases h with h | h
 ·exact Or.inl h
 ·exact Or.inr ⟨_, ((Kp.refl (fun _ => False) w).alloc o).size, h⟩
theorem arr_end {lo rb ab bb : Nat} (hab : ab ≠ bb) {x : List J} {j : J} {v : Value} {sv sv' : Value} {vs : List Value} {G : Nat → Prop} {w1 w2 w3 : World} (hrb : rb < lo) (ha1 : ab < w1.heap.size) (hb1 : bb < w1.heap.size)
  (hl1 : lo ≤ w1.heap.size)
  (i3 : w1.ownsRow lo 59 1 sv x.length vs) (i4 : Reps w1 G x vs) (i5 : ∀ k, G k → lo ≤ k ∧ k < w1.heap.size ∧ k ≠ ab ∧ k ≠ bb) (i6 : ∀ k, sv.ownBlock = some k → ¬ G k ∧ k ≠ ab ∧ k ≠ bb)
  (g1 : Kp (· = rb) w1 w2) (g3 : Rep w2 (fun b => w1.heap.size ≤ b ∧ b < w2.heap.size) j v) (B1 : Kp (fun k => sv.ownBlock = some k) w2 w3)
  (y1 : w3.ownsRow lo 59 1 sv' (x.length + 1) (vs ++ [v])) (y3 : sv'.ownBlock = sv.ownBlock ∨ ∃ q, w2.heap.size ≤ q ∧ sv'.ownBlock = some q)
  (h1 : w3.heap[ab]? = some (.cells #[sv] 228)) (h2 : w3.heap[bb]? = some (.cells #[.pointer (some ⟨rb, 0, none⟩)] 201)) :
  ArrI lo rb ab bb (x ++ [j]) (w3.setCell ⟨ab, 0, none⟩ sv') := by
 have hs12 := g1.size
 have hs23 := B1.size
 have hs34 : (w3.setCell ⟨ab, 0, none⟩ sv').heap.size = w3.heap.size := by simp [World.setCell]
 have old : ∀ k, G k → (w3.setCell ⟨ab, 0, none⟩ sv').heap[k]? = w1.heap[k]? := by
  intro k hk
  obtain ⟨q1, q2, q3, q4⟩ := i5 k hk
  rw [heap_set_other (by show k ≠ ab; omega), B1.block k (by omega) (fun e => (i6 k e).1 hk), g1.block k q2 (by omega)]
 have new : ∀ k, w1.heap.size ≤ k ∧ k < w2.heap.size → (w3.setCell ⟨ab, 0, none⟩ sv').heap[k]? = w2.heap[k]? := by
  rintro k ⟨q1, q2⟩
  rw [heap_set_other (by show k ≠ ab; omega), B1.block k q2 (fun e => by have := (i3.lt k e).2; omega)]
 have own' : ∀ k, sv'.ownBlock = some k → ¬ (G k ∨ (w1.heap.size ≤ k ∧ k < w2.heap.size)) ∧ k ≠ ab ∧ k ≠ bb := by
  intro k hk
  rcases y3 with e | ⟨q, hq, e⟩
  ·obtain ⟨q1, q2, q3⟩ := i6 k (e.symm.trans hk)
   have := (i3.lt k (e.symm.trans hk)).2
   exact ⟨by rintro (h | h); exact q1 h; omega, q2, q3⟩
  ·rw [e] at hk
   injection hk with hk
   refine ⟨?_, by omega, by omega⟩
   rintro (h | h)
   ·have := i5 k h; omega
   ·omega
 refine ⟨sv', vs ++ [v], fun k => G k ∨ (w1.heap.size ≤ k ∧ k < w2.heap.size), one_set h1 _, ?_, ?_, ?_, ?_, own'⟩
 ·rw [heap_set_other (by show bb ≠ ab; omega)]; exact h2
 ·rw [List.length_append]
  refine ownsRow_heap y1 ?_
  intro k hk
  exact heap_set_other (own' k hk).2.1
 ·exact Reps.snoc (Rep.mono (fun k hk => Or.inr hk) j (Rep.frame new j g3)) _ _ (Reps.mono (fun k hk => Or.inl hk) x (Reps.frame old x i4))
 ·rintro k (hk | ⟨hk1, hk2⟩)
  ·obtain ⟨q1, q2, q3, q4⟩ := i5 k hk
   exact ⟨q1, by omega, q3, q4⟩
  ·exact ⟨by omega, by omega, by omega, by omega⟩
set_option maxRecDepth 20000 in
theorem array1_some (W : World) (rb : Nat) (s : ByteArray) (d : Nat) (hv : ValC W d) (w0 : World) (ab bb : Nat) (hab : ab ≠ bb) (hrb : rb < w0.heap.size) (h0 : w0.heap.size ≤ ab) (h0' : w0.heap.size ≤ bb)
  (x : List J) (w1 : World) (k1 : Nat) (hr : St W w1 rb s k1 d) (hI : ArrI w0.heap.size rb ab bb x w1) (hk : Kp (· = rb) w0 w1) (j : J) (r : List UInt8) (hp : pVal false (6 - d) (rest s k1) = some (j, r)) (hx : x.length ≤ 700) :
  Calls Tryz.prog 205 #[.pointer (some ⟨ab, 0, none⟩), .pointer (some ⟨bb, 0, none⟩)] w1 fun e w2 => Ser W rb s d w0 (some (x ++ [j], r)) (ArrI w0.heap.size rb ab bb) e w2 := by
 obtain ⟨sv, vs, G, i1, i2, i3, i4, i5, i6⟩ := hI
 obtain ⟨i0, hi, hz0, hz1, hz2⟩ := info_parts infoV
 have ca : w1.cell? ⟨ab, 0, none⟩ = some sv := by simp [World.cell?, i1]
 have fa : w1.frozen? ⟨ab, 0, none⟩ = false := by simp [World.frozen?, i1]
 have cb : w1.cell? ⟨bb, 0, none⟩ = some (.pointer (some ⟨rb, 0, none⟩)) := by simp [World.cell?, i2]
 have HP := hide hp
 have HI := hide (And.intro i1 i2)
 clear hp i1 i2
 go_enter Tryz.func205, Tryz.ntmps205
 go_wp2_with fail
 go_region_law (first
   | (refine step_append_own rfl (.tmp 2) (.tmp 5) 228 rfl w0.heap.size 59 i0 .nilIface 1 16 Tryz.underlying228 hi hz0 hz1 hz2 rfl (by decide) sv x.length vs (by simp [Act.eval]) (own2.alloc _) ⟨w2.heap.size, 0, none⟩ 1 1 [.iface t u] (by simp [Act.eval]) rfl (cell_one_new _ _ _) (by intro q hq; simp at hq; subst hq; rfl) (by unfold maxLen; omega) (by omega) (by have := i5'; simp; omega) ?_; intro v' w3 y1 y2 y3; obtain ⟨g', cap', rfl⟩ := own_shape y1; obtain ⟨ca3, fa3⟩ := one_cells ((y2.block ab (by simp; omega) (by intro e; exact (i6 ab e.symm).2.1 rfl)).trans ((Below.heap_alloc _ _ _ (by omega)).trans (HI2.out))))
   | (refine step_call rfl 109 #[.pointer (some ⟨rb, 0, none⟩)] (by go_simp) ?_; refine (hv rb s k1 _ (hr.drewN 1)).mono ?_; rintro e w2 ⟨g0, g2⟩; have g1 : Kp (· = rb) w1 w2 := ((Kp.refl _ _).drewN 1).trans g0; rw [HP.out] at g2; obtain ⟨vv, k2, rfl, g3, g4, g5⟩ := g2; obtain ⟨t, u, rfl⟩ := Rep.iface g3; have HI2 : Hid (w2.heap[ab]? = some (.cells #[sv] 228)) := (g1.block ab (lt_heap HI.out.1) (by omega)).trans HI.out.1; obtain ⟨ca2, fa2⟩ := one_cells HI2.out; have ca4 : ∀ o, (w2.alloc o).cell? ⟨ab, 0, none⟩ = some sv := fun o => (World.cell?_of_block (w := w2) (Below.heap_alloc _ _ _ (lt_heap HI2.out))).trans ca2; have own2 := ownsRow_kp i3 g1 (fun k hk => by have := (i3.lt k hk).1; omega); have i5' := Nat.lt_of_lt_of_le (lt_heap HI.out.2) g1.size; have i5'' := lt_heap HI2.out))
 all_goals
  have B1 : Kp (fun k => sv.ownBlock = some k) w2 w3 := ((Kp.refl _ _).alloc _).grown y2 (fun k hk _ => hk)
  have hw3 : w2.heap.size < w3.heap.size := by have := y2.size; simp at this; omega
  have HA3 : w3.heap[ab]? = some (.cells #[sv] 228) := (B1.block ab (lt_heap HI2.out) (fun e => (i6 ab e).2.1 rfl)).trans HI2.out
  have HB2 : w2.heap[bb]? = some (.cells #[.pointer (some ⟨rb, 0, none⟩)] 201) := (g1.block bb (lt_heap HI.out.2) (by omega)).trans HI.out.2
  have HB3 : w3.heap[bb]? = some (.cells #[.pointer (some ⟨rb, 0, none⟩)] 201) := (B1.block bb (lt_heap HB2) (fun e => (i6 bb e).2.2 rfl)).trans HB2
  have S3 : St W w3 rb s k2 d := g4.keep B1 (fun i hi => by have := (own2.lt i hi).1; have := hr.old.size; have := hr.ge; omega) (fun hi => by have := (own2.lt rb hi).1; omega)
  have HR := hide (And.intro HA3 HB3)
  clear HA3 HB3
  have hy3 := own_at y3
  have AE := arr_end hab hrb (lt_heap HI.out.1) (lt_heap HI.out.2) hk.size i3 i4 i5 i6 g1 g3 B1 y1 hy3 HR.out.1 HR.out.2
  have S4 : St W (w3.setCell ⟨ab, 0, none⟩ (.slice (some ⟨g', 0, none⟩) (x.length + 1) cap')) rb s k2 d := S3.keep (S := fun k => k = ab) (Kp.setCell (p := ⟨ab, 0, none⟩) (Kp.refl (fun k => k = ab) w3) (fun _ => rfl) _) (fun i hi => by have := hr.old.size; have := hr.ge; omega) (by omega)
  have K4 : Kp (· = rb) w0 (w3.setCell ⟨ab, 0, none⟩ (.slice (some ⟨g', 0, none⟩) (x.length + 1) cap')) := Kp.setCell (p := ⟨ab, 0, none⟩) ((hk.trans g1).and B1 (fun i hi e => by have := (own2.lt i e).1; omega)) (fun hlt => by exact absurd hlt (by show ¬ ab < _; omega)) _
  have Z := hide (And.intro AE (And.intro S4 K4))
  clear AE S4 K4 hy3
  go_wp2
  go_end0
  exact ser_some rfl Z.out.2.2 Z.out.1 Z.out.2.1 g5
set_option maxRecDepth 20000 in
theorem array1_none (W : World) (rb : Nat) (s : ByteArray) (d : Nat) (hv : ValC W d) (w0 : World) (ab bb : Nat)
  (x : List J) (w1 : World) (k1 : Nat) (hr : St W w1 rb s k1 d) (hI : ArrI w0.heap.size rb ab bb x w1) (hk : Kp (· = rb) w0 w1) (hp : pVal false (6 - d) (rest s k1) = none) :
  Calls Tryz.prog 205 #[.pointer (some ⟨ab, 0, none⟩), .pointer (some ⟨bb, 0, none⟩)] w1 fun e w2 => Kp (· = rb) w0 w2 ∧ Thrown W w0 w2 e := by
 obtain ⟨sv, vs, G, i1, i2, i3, i4, i5, i6⟩ := hI
 obtain ⟨ca, fa⟩ := one_cells i1
 obtain ⟨cb, fb⟩ := one_cells i2
 have HP := hide hp
 clear hp i1 i2
 go_enter Tryz.func205, Tryz.ntmps205
 go_wp2_with fail
 refine wp_region_any (by kernel_rfl) ?_
 change wpAny _ _ _ _ _ _ _ (World.drew _)
 refine wpAny_ready (rs := [0, 1]) (by kernel_rfl) (by simp) ?_
 refine AllReady.cons rfl (fun K hK => ?_) ?_
 ·go_simp
  refine hK _ _ ?_
  clear hK K
  refine wpAny_ready (rs := [1]) (by kernel_rfl) (by simp) ?_
  refine AllReady.cons rfl (fun K hK => ?_) AllReady.nil
  go_simp
  refine hK _ _ ?_
  clear hK K
  refine wpAny_ready (rs := [2]) (by kernel_rfl) (by simp) ?_
  refine AllReady.cons rfl (fun K hK => ?_) AllReady.nil
  (refine step_call rfl 109 #[.pointer (some ⟨rb, 0, none⟩)] (by go_simp) ?_; refine (hv rb s k1 _ (hr.drewN 1)).mono ?_; rintro e w2 ⟨g0, g2⟩; have g1 : Kp (· = rb) w1 w2 := ((Kp.refl _ _).drewN 1).trans g0; rw [HP.out] at g2; obtain ⟨fb', k9, g, cb', rfl, q⟩ := g2; exact ⟨rfl, hk.trans g1, fb', k9, g, cb', rfl, Nat.le_trans hk.size q.1, q.2⟩)
 refine AllReady.cons rfl (fun K hK => ?_) AllReady.nil
 go_simp
 refine hK _ _ ?_
 clear hK K
 refine wpAny_ready (rs := [0, 2]) (by kernel_rfl) (by simp) ?_
 refine AllReady.cons rfl (fun K hK => ?_) ?_
 ·go_simp
  refine hK _ _ ?_
  clear hK K
  refine wpAny_ready (rs := [2]) (by kernel_rfl) (by simp) ?_
  refine AllReady.cons rfl (fun K hK => ?_) AllReady.nil
  (refine step_call rfl 109 #[.pointer (some ⟨rb, 0, none⟩)] (by go_simp) ?_; refine (hv rb s k1 _ (hr.drewN 1)).mono ?_; rintro e w2 ⟨g0, g2⟩; have g1 : Kp (· = rb) w1 w2 := ((Kp.refl _ _).drewN 1).trans g0; rw [HP.out] at g2; obtain ⟨fb', k9, g, cb', rfl, q⟩ := g2; exact ⟨rfl, hk.trans g1, fb', k9, g, cb', rfl, Nat.le_trans hk.size q.1, q.2⟩)
 refine AllReady.cons rfl (fun K hK => ?_) AllReady.nil
 (refine step_call rfl 109 #[.pointer (some ⟨rb, 0, none⟩)] (by go_simp) ?_; refine (hv rb s k1 _ (hr.drewN 1)).mono ?_; rintro e w2 ⟨g0, g2⟩; have g1 : Kp (· = rb) w1 w2 := ((Kp.refl _ _).drewN 1).trans g0; rw [HP.out] at g2; obtain ⟨fb', k9, g, cb', rfl, q⟩ := g2; exact ⟨rfl, hk.trans g1, fb', k9, g, cb', rfl, Nat.le_trans hk.size q.1, q.2⟩)
end Go.Proofs.YtocligpfmfmihaaGreatDoor
